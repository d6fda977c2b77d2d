import PyProof.Rows.All
import Wide.All
import OpenK.AllK
import Wide.FinOn
import Lean
import PyProof.EqAt
import PyProof.EqKinds
import PyProof.TupleCall
import PyProof.FactsAll.dict
import PyProof.Rows.SeqMore
import PyProof.Rows.StrCase
import PyProof.ToksMono
import PyProof.AutoIntG2
import PyProof.DictIter
import PyProof.DictWalks
import KE.KItemsList
import PyProof.SetKind
import PyProof.Rows.SetFrom
import PyProof.ListNew
import PyProof.SetNew
import PyProof.SetRoads
import PyProof.FactsAll.set_1
import PyProof.AutoListH
import PyProof.FactsAll.list_2
import PySem.Challenge.RW_besidewords_k11_an_end
set_option Elab.async false
set_option linter.all false
set_option maxRecDepth 100000
namespace L2
open PySem PySem.Spec PyProof.Rows
abbrev Key := Sum Int Str
def keyIs : Key -> Value -> Bool
 | .inl k, v => Value.isInt k v
 | .inr x, v => Value.isStrOf x v
def keyH (w : World) : Key -> Int
 | .inl k => hashInt k
 | .inr x => hashStr w x
theorem keyIs_shape : ∀ {k : Key} {v : Value}, keyIs k v = true -> (∃ i t, k = Sum.inl i ∧ v = Value.int i t) ∨ (∃ x t, k = Sum.inr x ∧ v = Value.str x t)
 | .inl i, v, h => by
  obtain ⟨t, e⟩ := Value.isInt_shape (k := i) (v := v) h
  exact .inl ⟨i, t, rfl, e⟩
 | .inr x, v, h => by
  obtain ⟨t, e⟩ := Value.isStrOf_shape (x := x) (v := v) h
  exact .inr ⟨x, t, rfl, e⟩
theorem keyIs_int (i : Int) (t : Tok) : keyIs (.inl i) (.int i t) = true := by simp [keyIs, Value.isInt]
theorem keyIs_str (x : Str) (t : Tok) : keyIs (.inr x) (.str x t) = true := by simp [keyIs, Value.isStrOf]
theorem key_ll (a b : Int) : decide ((Sum.inl a : Key) = Sum.inl b) = (a == b) := by
 by_cases e : a = b
 · subst e; simp
 · have h : ¬ (Sum.inl a : Key) = Sum.inl b := fun q => e (Sum.inl.inj q)
   rw [decide_eq_false h]
   exact (beq_eq_false_iff_ne.mpr e).symm
theorem key_rr (a b : Str) : decide ((Sum.inr a : Key) = Sum.inr b) = decide (a = b) := by
 by_cases e : a = b
 · subst e; simp
 · have h : ¬ (Sum.inr a : Key) = Sum.inr b := fun q => e (Sum.inr.inj q)
   rw [decide_eq_false h, decide_eq_false e]
theorem key_lr (a : Int) (b : Str) : decide ((Sum.inl a : Key) = Sum.inr b) = false := decide_eq_false (fun q => nomatch q)
theorem key_rl (a : Str) (b : Int) : decide ((Sum.inr a : Key) = Sum.inl b) = false := decide_eq_false (fun q => nomatch q)
def mixKind (prog : Program) (w : World) : PySem.KeyKind prog w Key where
 is := keyIs
 hash := keyH w
 inj := fun v a b ha hb => by
  rcases keyIs_shape ha with ⟨i, t, rfl, rfl⟩ | ⟨x, t, rfl, rfl⟩
  · rcases keyIs_shape hb with ⟨j, u, rfl, e⟩ | ⟨y, u, rfl, e⟩
    · injection e with e1 _; rw [e1]
    · exact nomatch e
  · rcases keyIs_shape hb with ⟨j, u, rfl, e⟩ | ⟨y, u, rfl, e⟩
    · exact nomatch e
    · injection e with e1 _; rw [e1]
 byValue := fun k v h => by
  rcases keyIs_shape h with ⟨i, t, rfl, rfl⟩ | ⟨x, t, rfl, rfl⟩ <;> rfl
 pyHash := fun hv h => by
  rcases keyIs_shape hv with ⟨i, t, rfl, rfl⟩ | ⟨x, t, rfl, rfl⟩
  · exact wpAny_pyHash_int h
  · exact wpAny_pyHash_str h
 eqBool := fun hu hv h => by
  rcases keyIs_shape hu with ⟨i, t, rfl, rfl⟩ | ⟨x, t, rfl, rfl⟩
  · rcases keyIs_shape hv with ⟨j, u, rfl, rfl⟩ | ⟨y, u, rfl, rfl⟩
    · rw [key_ll] at h; exact wpAny_eqBool_int h
    · rw [key_lr] at h; exact SeqAt.EqAt.int_str i t y u _ _ _ _ h
  · rcases keyIs_shape hv with ⟨j, u, rfl, rfl⟩ | ⟨y, u, rfl, rfl⟩
    · rw [key_rl] at h; exact SeqAt.EqAt.str_int x t j u _ _ _ _ h
    · rw [key_rr] at h; exact wpAny_eqBool_str h
 «strs» := fun k x t v h => by
  rcases keyIs_shape h with ⟨i, u, rfl, e⟩ | ⟨y, u, rfl, e⟩
  · exact nomatch e
  · injection e with e1 _
    subst e1
    cases v <;> rfl
theorem mixKind_int (prog : Program) (w : World) (i : Int) (t : Tok) : (mixKind prog w).is (.inl i) (.int i t) = true := keyIs_int i t
theorem mixKind_str (prog : Program) (w : World) (x : Str) (t : Tok) : (mixKind prog w).is (.inr x) (.str x t) = true := keyIs_str x t
end L2
namespace L2
open PySem PySem.Spec PyProof.Rows
inductive V where
 | non | bl (b : Bool) | int (i : Int) | str (x : Str) | byt (b : Array UInt8) | flt (b : UInt64) | ref (a : Addr) | ty (n : String)
 deriving DecidableEq
def RelV : V -> Value -> Prop
 | .non, u => u = Value.none
 | .bl b, u => u = Value.bool b
 | .int i, u => ∃ t, u = Value.int i t
 | .str x, u => ∃ t, u = Value.str x t
 | .byt b, u => ∃ t, u = Value.bytes b t
 | .flt b, u => ∃ t, u = Value.float b t
 | .ref a, u => u = Value.ref a
 | .ty n, u => u = Value.type n
abbrev Vals : List V -> List Value -> Prop := Paired RelV
theorem Vals.length {xs : List V} {us : List Value} (r : Vals xs us) : xs.length = us.length := Paired.length r
theorem Vals.get : ∀ {xs : List V} {us : List Value} {i : Nat} {x : V}, Vals xs us -> xs[i]? = some x -> ∃ u, us[i]? = some u ∧ RelV x u
 | _, _, _, _, .nil, e => by simp at e
 | _, _, 0, _, .cons r _, e => by simp at e; subst e; exact ⟨_, rfl, r⟩
 | _, _, i + 1, x, .cons _ t, e => by
  obtain ⟨u, h1, h2⟩ := Vals.get (i := i) (x := x) t (by simpa using e)
  exact ⟨u, by simpa using h1, h2⟩
theorem Vals.append : ∀ {xs ys : List V} {us ws : List Value}, Vals xs us -> Vals ys ws -> Vals (xs ++ ys) (us ++ ws)
 | _, _, _, _, .nil, s => s
 | _, _, _, _, .cons r t, s => .cons r (Vals.append t s)
theorem Vals.take : ∀ {xs : List V} {us : List Value} (n : Nat), Vals xs us -> Vals (xs.take n) (us.take n)
 | _, _, 0, _ => .nil
 | _, _, _ + 1, .nil => .nil
 | _, _, n + 1, .cons r t => .cons r (Vals.take n t)
theorem Vals.drop : ∀ {xs : List V} {us : List Value} (n : Nat), Vals xs us -> Vals (xs.drop n) (us.drop n)
 | _, _, 0, r => r
 | _, _, _ + 1, .nil => .nil
 | _, _, n + 1, .cons _ t => Vals.drop n t
def RelO : Option V -> Option Value -> Prop
 | some v, some u => RelV v u
 | none, none => True
 | _, _ => False
def KV {κ : Type} : List (κ × V) -> List (κ × Value) -> Prop := Paired fun (p : κ × V) (q : κ × Value) => p.1 = q.1 ∧ RelV p.2 q.2
def kV : Key -> V
 | .inl i => .int i
 | .inr x => .str x
inductive HO where
 | lst (xs : List V)
 | tup (xs : List V)
 | dK (kvs : List (Key × V)) | dT (kvs : List (List Key × V))
 | set (S : Int -> Bool) (n : Nat)
 | ins (C dx : Addr) (fs : List (Str × V))
 | own (x : Addr)
 | xd (fs : List (Str × V))
 | met (f x : Addr)
 | rng (lo hi : Int)
 | frz (o : Obj) (u : HO)
 | tbl (ps : Array Value)
 | ext (φ : Heap -> Prop)
abbrev Hp := Addr -> Option HO
def upd (H : Hp) (a : Addr) (o : HO) : Hp := fun b => if b = a then some o else H b
theorem upd_same {H : Hp} {a : Addr} {o : HO} : upd H a o a = some o := by unfold upd; rw [if_pos rfl]
theorem upd_ne {H : Hp} {a b : Addr} {o : HO} (h : b ≠ a) : upd H a o b = H b := by unfold upd; rw [if_neg h]
theorem ne_of {H : Hp} {a b : Addr} {o u : HO} (h : H a = some o) (h' : H b = some u) (d : o ≠ u) : a ≠ b := by
 intro e; subst e; rw [h] at h'; exact d (Option.some.inj h')
theorem ne_of_none {H : Hp} {a b : Addr} {o : HO} (h : H a = some o) (h' : H b = none) : a ≠ b := by
 intro e; subst e; rw [h] at h'; cases h'
section
variable (P : Program) (w : World)
def ObjOk (H : Hp) (h : Heap) (a : Addr) : HO -> Prop
 | .lst xs => xs.length <= sizeLine ∧ ∃ (its : List Value) (n : Nat), Vals xs its ∧ h.get? a = some { cls := .type "list", data := .seq its.toArray n }
 | .tup xs => xs.length <= sizeLine ∧ ∃ its : List Value, Vals xs its ∧ IsTup h a its.toArray
 | .dK kvs => kvs.length <= sizeLine ∧ (a == sysModules) = false ∧ ∃ vs, KV kvs vs ∧ h.DictOf (mixKind P w) a vs
 | .dT kvs => kvs.length <= sizeLine ∧ (a == sysModules) = false ∧ ∃ xs : List (List Key × Addr × Value),
  Paired (fun (p : List Key × V) (q : List Key × Addr × Value) => p.1 = q.1 ∧ H q.2.1 = some (.tup (p.1.map kV)) ∧ RelV p.2 q.2.2) kvs xs ∧
  ∃ o es ep, h.get? a = some o ∧ o.ExactDict ∧ o.data = .dict es ep ∧ es.toList = xs.map (entryOfKey (tupleKind (mixKind P w))) ∧ (xs.map (·.1)).Nodup
 | .set S n => h.SetOf (intKind P w) a S n
 | .ins C dx fs => H dx = some (.own a) ∧ fs.length <= 1000 ∧ dx ≠ a ∧ h.get? a = some (PySem.W.instObj C dx) ∧
  ∃ mA, h.Ns1 dx mA ∧ (∀ f, RelO (fs.lookup f) (mA f)) ∧ PySem.Within mA (fs.map (·.1))
 | .own _ => ∃ o, h.get? a = some o
 | .xd fs => ∃ mA, h.Ns1 a mA ∧ ∀ f, RelO (fs.lookup f) (mA f)
 | .rng lo hi => ∃ t u v, h.get? a = some { cls := .type "range", data := .fields #[.int lo t, .int hi u, .int 1 v] }
 | .frz o u => h.get? a = some o ∧ ObjOk H h a u
 | .tbl ps => h.get? a = some { cls := .none, data := .fields ps }
 | .met f x => h.get? a = some (PySem.W.methodObj (.ref f) (.ref x))
 | .ext φ => φ h ∧ (∃ o, h.get? a = some o) ∧ ∀ h1 h2 : Heap, φ h1 -> (∀ o, h1.get? a = some o -> h2.get? a = some o) -> φ h2
def HOk (H : Hp) (h : Heap) : Prop := ∀ a o, H a = some o -> ObjOk P w H h a o
end
section
variable {P : Program} {w : World} {H H' : Hp} {h h' : Heap} {a : Addr} {o : HO}
theorem ObjOk.lt (x : ObjOk P w H h a o) : a < h.objs.size := by
 cases o with
 | lst xs => obtain ⟨_, _, _, _, e⟩ := x; exact Heap.lt_size e
 | tup xs => obtain ⟨_, _, _, p⟩ := x; exact p.lt
 | dK kvs => obtain ⟨_, _, _, _, o, _, _, e, _⟩ := x; exact Heap.lt_size e
 | dT kvs => obtain ⟨_, _, _, _, o, _, _, e, _⟩ := x; exact Heap.lt_size e
 | set S n => obtain ⟨o, _, _, _, e, _⟩ := x; exact Heap.lt_size e
 | ins C dx fs => obtain ⟨_, _, _, e, _⟩ := x; exact Heap.lt_size e
 | own y => obtain ⟨_, e⟩ := x; exact Heap.lt_size e
 | xd fs => obtain ⟨_, ⟨_, _, _, e, _⟩, _⟩ := x; exact Heap.lt_size e
 | rng lo hi => obtain ⟨_, _, _, e⟩ := x; exact Heap.lt_size e
 | frz ob u => obtain ⟨e, _⟩ := x; exact Heap.lt_size e
 | tbl ps => exact Heap.lt_size (show h.get? a = some _ from x)
 | met f y => exact Heap.lt_size (show h.get? a = some _ from x)
 | ext φ => obtain ⟨_, ⟨_, e⟩, _⟩ := x; exact Heap.lt_size e
theorem Paired.mapP {α β : Type} {F G : α -> β -> Prop} : ∀ {l₁ : List α} {l₂ : List β}, Paired F l₁ l₂ -> (∀ a b, F a b -> G a b) -> Paired G l₁ l₂
 | _, _, .nil, _ => .nil
 | _, _, .cons r t, f => .cons (f _ _ r) (Paired.mapP t f)
theorem ObjOk.stay (x : ObjOk P w H h a o) (k : ∀ b u, (b = a ∨ H b = some (.own a)) -> h.get? b = some u -> h'.get? b = some u)
 (ho : ∀ b, H b = some (.own a) -> H' b = some (.own a)) (ht : ∀ b xs, H b = some (.tup xs) -> H' b = some (.tup xs)) : ObjOk P w H' h' a o := by
 induction o with
 | lst xs => obtain ⟨z, its, n, r, e⟩ := x; exact ⟨z, its, n, r, k _ _ (.inl rfl) e⟩
 | tup xs => obtain ⟨z, its, r, ob, e, c⟩ := x; exact ⟨z, its, r, ob, k _ _ (.inl rfl) e, c⟩
 | dK kvs => obtain ⟨z, y, vs, r, ob, es, ep, e, c⟩ := x; exact ⟨z, y, vs, r, ob, es, ep, k _ _ (.inl rfl) e, c⟩
 | dT kvs =>
  obtain ⟨z, y, xs, r, ob, es, ep, e, c⟩ := x
  exact ⟨z, y, xs, Paired.mapP r fun p q z => ⟨z.1, ht _ _ z.2.1, z.2.2⟩, ob, es, ep, k _ _ (.inl rfl) e, c⟩
 | set S n => obtain ⟨ob, es, ep, t, e, c⟩ := x; exact ⟨ob, es, ep, t, k _ _ (.inl rfl) e, c⟩
 | ins C dx fs =>
  obtain ⟨d, z, ne, e, mA, ⟨od, es, ep, e2, c⟩, r⟩ := x
  exact ⟨ho _ d, z, ne, k _ _ (.inl rfl) e, mA, ⟨od, es, ep, k _ _ (.inr d) e2, c⟩, r⟩
 | own y => obtain ⟨ob, e⟩ := x; exact ⟨ob, k _ _ (.inl rfl) e⟩
 | xd fs => obtain ⟨mA, ⟨od, es, ep, e, c⟩, r⟩ := x; exact ⟨mA, ⟨od, es, ep, k _ _ (.inl rfl) e, c⟩, r⟩
 | rng lo hi => obtain ⟨t, u, v, e⟩ := x; exact ⟨t, u, v, k _ _ (.inl rfl) e⟩
 | frz ob u ih => obtain ⟨e, q⟩ := x; exact ⟨k _ _ (.inl rfl) e, ih q⟩
 | tbl ps =>
  have e : h.get? a = some { cls := .none, data := .fields ps } := x
  show h'.get? a = some { cls := .none, data := .fields ps }
  exact k a _ (.inl rfl) e
 | met f y =>
  have e : h.get? a = some (PySem.W.methodObj (.ref f) (.ref y)) := x
  show h'.get? a = some (PySem.W.methodObj (.ref f) (.ref y))
  exact k a _ (.inl rfl) e
 | ext φ => obtain ⟨p, ⟨o, e⟩, st⟩ := x; exact ⟨st _ _ p fun o q => k _ _ (.inl rfl) q, ⟨o, k _ _ (.inl rfl) e⟩, st⟩
theorem HOk.lt (x : HOk P w H h) (e : H a = some o) : a < h.objs.size := (x a o e).lt
theorem HOk.fresh (x : HOk P w H h) (e : h.objs.size <= a) : H a = none := by
 cases q : H a with
 | none => rfl
 | some u => exact absurd (Nat.lt_of_lt_of_le (x.lt q) e) (Nat.lt_irrefl _)
theorem HOk.kept (x : HOk P w H h) (k : ∀ b u, h.get? b = some u -> h'.get? b = some u) : HOk P w H h' := fun a o e =>
 (x a o e).stay (fun b u _ q => k b u q) (fun _ q => q) fun _ _ q => q
theorem HOk.laid (x : HOk P w H h) (k : ∀ b u, h.get? b = some u -> h'.get? b = some u) (hp : h.objs.size <= a) (new : ObjOk P w (upd H a o) h' a o) : HOk P w (upd H a o) h' := fun b u e => by
 have hn := x.fresh hp
 by_cases hb : b = a
 · subst hb; rw [upd_same] at e; cases e; exact new
 · rw [upd_ne hb] at e
   exact (x b u e).stay (fun c v _ q => k c v q) (fun c q => by rw [upd_ne (ne_of_none q hn)]; exact q) fun c xs q => by rw [upd_ne (ne_of_none q hn)]; exact q
end
def Rd (H : Hp) (a : Addr) (u : HO) : Prop := H a = some u ∨ ∃ o, H a = some (.frz o u)
theorem Rd.ok {P : Program} {w : World} {H : Hp} {h : Heap} {a : Addr} {u : HO} (r : Rd H a u) (x : HOk P w H h) : ObjOk P w H h a u := by
 rcases r with r | ⟨o, r⟩
 · exact x a u r
 · obtain ⟨_, q⟩ := x a _ r
   exact q
def Mut : Option HO -> Prop
 | some (.lst _) => True
 | some (.dK _) => True
 | some (.dT _) => True
 | some (.set _ _) => True
 | some (.ins _ _ _) => True
 | some (.ext _) => True
 | _ => False
section
variable {P : Program} {w : World} {H : Hp} {h h' : Heap} {x e : Addr} {o' : HO}
theorem HOk.write (ok : HOk P w H h) (mu : Mut (H x)) (he : e = x ∨ H e = some (.own x)) (k : ∀ b u, b ≠ e -> h.get? b = some u -> h'.get? b = some u) (heo : ∃ u, h'.get? e = some u)
 (new : ObjOk P w (upd H x o') h' x o') : HOk P w (upd H x o') h' := fun b u q => by
 have nown : ∀ c y, H c = some (.own y) -> c ≠ x := fun c y r z => by subst z; rw [r] at mu; exact mu
 have ntup : ∀ c xs, H c = some (.tup xs) -> c ≠ x := fun c xs r z => by subst z; rw [r] at mu; exact mu
 by_cases hb : b = x
 · subst hb; rw [upd_same] at q; cases q; exact new
 · rw [upd_ne hb] at q
   by_cases hbe : b = e
   · have q' : H b = some (.own x) := by
      rcases he with z | z
      · exact absurd (hbe.trans z) hb
      · rw [hbe]; exact z
     rw [q] at q'; cases q'
     obtain ⟨v, hv⟩ := heo
     exact ⟨v, by rw [hbe]; exact hv⟩
   · refine (ok b u q).stay (fun c v hc r => k c v ?_ r) (fun c r => by rw [upd_ne (nown c b r)]; exact r) fun c xs r => by rw [upd_ne (ntup c xs r)]; exact r
     rcases hc with rfl | hc
     · exact hbe
     · rintro rfl
       rcases he with z | z
       · exact nown c b hc z
       · rw [hc] at z; cases z; exact hb rfl
end
structure Un (fs ex : List Addr) (H H' : Hp) (h h' : Heap) : Prop where
 keep : ∀ b o, h.get? b = some o -> H b = none -> b ∉ fs -> b ∉ ex -> h'.get? b = some o
 slot : ∀ b o, h.get? b = some o -> H b = none -> b ∈ fs -> b ∉ ex -> ∃ sl, h'.get? b = some { o with slots := sl }
 free : ∀ b o, h.get? b = some o -> H b = none -> b ∉ ex -> H' b = none
 there : ∀ b o, h.get? b = some o -> b ∉ ex -> ∃ o', h'.get? b = some o'
 tups : ∀ b xs, H b = some (.tup xs) -> H' b = some (.tup xs)
 frzs : ∀ b o u, H b = some (.frz o u) -> H' b = some (.frz o u)
 tbls : ∀ b ps, H b = some (.tbl ps) -> ∃ more, H' b = some (.tbl (ps ++ more))
section
variable {fs fs' ex ex' : List Addr} {H H1 H2 : Hp} {h h1 h2 h' : Heap} {a x e : Addr} {o : HO}
theorem Un.any (u : Un fs ex H H1 h h1) {b : Addr} {ob : Obj} (q : h.get? b = some ob) (n : H b = none) (hx : b ∉ ex) : ∃ sl, h1.get? b = some { ob with slots := sl } := by
 by_cases hb : b ∈ fs
 · exact u.slot b ob q n hb hx
 · exact ⟨ob.slots, u.keep b ob q n hb hx⟩
theorem Un.kept (k : ∀ b u, h.get? b = some u -> h'.get? b = some u) : Un fs ex H H h h' :=
 ⟨fun b ob q _ _ _ => k b ob q, fun b ob q _ _ _ => ⟨ob.slots, k b ob q⟩, fun _ _ _ n _ => n, fun b ob q _ => ⟨ob, k b ob q⟩, fun _ _ q => q, fun _ _ _ q => q, fun _ ps q => ⟨#[], by rw [q]; simp⟩⟩
theorem Un.refl : Un fs ex H H h h := Un.kept fun _ _ q => q
theorem Un.laid (k : ∀ b u, h.get? b = some u -> h'.get? b = some u) (hp : h.objs.size <= a) (hn : H a = none) : Un fs ex H (upd H a o) h h' where
 keep := fun b u q _ _ _ => k b u q
 slot := fun b u q _ _ _ => ⟨u.slots, k b u q⟩
 free := fun b u q n _ => by rw [upd_ne (Nat.ne_of_lt (Nat.lt_of_lt_of_le (Heap.lt_size q) hp))]; exact n
 there := fun b u q _ => ⟨u, k b u q⟩
 tups := fun b xs q => by rw [upd_ne (ne_of_none q hn)]; exact q
 frzs := fun b u xs q => by rw [upd_ne (ne_of_none q hn)]; exact q
 tbls := fun b ps q => ⟨#[], by rw [upd_ne (ne_of_none q hn), q]; simp⟩
theorem Un.write (mu : Mut (H x)) (he : e = x ∨ H e = some (.own x)) (k : ∀ b u, b ≠ e -> h.get? b = some u -> h'.get? b = some u) (heo : ∃ u, h'.get? e = some u) : Un fs ex H (upd H x o) h h' := by
 have hx : ∀ b, H b = none -> b ≠ x := fun b n z => by subst z; rw [n] at mu; exact mu
 have hb : ∀ b, H b = none -> b ≠ e := fun b n z => by
  subst z
  rcases he with r | r
  · exact hx b n r
  · rw [n] at r; cases r
 have hm : ∀ b u, H b = some u -> ¬ Mut (some u) -> b ≠ x := fun b u q nm z => by subst z; rw [q] at mu; exact nm mu
 refine ⟨fun b u q n _ _ => k b u (hb b n) q, fun b u q n _ _ => ⟨u.slots, k b u (hb b n) q⟩, fun b u q n _ => by rw [upd_ne (hx b n)]; exact n, fun b u q _ => ?_,
  fun b xs q => by rw [upd_ne (hm b _ q fun z => z)]; exact q, fun b u xs q => by rw [upd_ne (hm b _ q fun z => z)]; exact q, fun b ps q => ⟨#[], by rw [upd_ne (hm b _ q fun z => z), q]; simp⟩⟩
 by_cases hbe : b = e
 · subst hbe; exact heo
 · exact ⟨u, k b u hbe q⟩
end
def trk (h : Heap) (H : Hp) : List Addr := (List.range h.objs.size).filter fun a => (H a).isSome
def hidT (h : Heap) (H : Hp) : Heap := PySem.W.hideAll h (trk h H)
theorem hidT_size (h : Heap) (H : Hp) : (hidT h H).objs.size = h.objs.size := PySem.W.hideAll_size _ _
theorem hidT_get {h : Heap} {H : Hp} {b : Addr} {o : Obj} (e : h.get? b = some o) (n : H b = none) : (hidT h H).get? b = some o :=
 PySem.W.hideAll_get _ e fun hm => by
  have q : (H b).isSome = true := (List.mem_filter.mp hm).2
  rw [n] at q; simp at q
theorem of_hidT {h : Heap} {H : Hp} {b : Addr} {o : Obj} (e : (hidT h H).get? b = some o) : h.get? b = some o ∧ H b = none := by
 have e' : h.get? b = some o := PySem.W.of_hideAll (trk h H) e
 refine ⟨e', ?_⟩
 cases q : H b with
 | none => rfl
 | some x =>
  have hm : b ∈ trk h H := List.mem_filter.mpr ⟨List.mem_range.mpr (Heap.lt_size e'), by simp [q]⟩
  have z : (hidT h H).get? b = none := PySem.W.hideAll_none (trk h H) hm
  rw [z] at e; cases e
def allNews (g h : Heap) (L : Addr) : List (Addr × Obj) := (List.range h.objs.size).filterMap fun a => if a = L ∨ (g.get? a).isSome = true then none else (h.get? a).map fun o => (a, o)
def rest (g h : Heap) (L d : Addr) : List (Addr × Obj) := (allNews g h L).filter fun p => decide (p.1 ≠ d)
end L2
namespace L2
open PySem PySem.Spec PyProof.Rows
structure Mod (K : PySem.W.Frag) (mg : Str -> Option Value) (base : Heap) : Prop where
 kin : K.In base
 glob : base.Ns mainGlobals mg
 blt : ∃ mb, base.Ns builtinsNs mb ∧ ∀ x : Str, x ≠ "__name__" -> mb x = bootBuiltins x
 nolimit : base.NoLimit
structure Cx where
 prog : Program
 w : World
 K : PySem.W.Frag
 mg : Str -> Option Value
 base : Heap
 A : Around
 N : List Str
 s₀ : Shared
 H₀ : Hp
 env : Env
 outer : List Env
 stack : List Env
 ex : List Addr
 fn : Str -> Bool
 calm : Bool
 pn : List (Addr × Obj)
 xe : Value -> Shared -> Prop
def frs (l : List Env) : List Addr := l.filterMap (·.frame)
abbrev Cx.fs (X : Cx) : List Addr := frs X.outer
def Vis (sc : Scope) (x : Str) : Prop := sc.names.lookup x = some .local ∨ sc.names.lookup x = some .cell ∨ sc.names.lookup x = some .free
def Loc (sc : Scope) (x : Str) : Prop := sc.names.lookup x = some .local ∨ sc.names.lookup x = some .cell
def Look (env : Env) (h : Heap) (m : Str -> Option Value) (x : Str) (u : Value) : Prop :=
 (env.kindOf x = some .local ∧ m x = some u) ∨ ((env.kindOf x = some .cell ∨ env.kindOf x = some .free) ∧ ∃ c, env.cells.lookup x = some c ∧ h.IsCell c (some u))
structure Cx.Ok (X : Cx) : Prop where
 mod : Mod X.K X.mg X.base
 kind : X.env.scope.kind = .function
 glob : X.env.globals = mainGlobals
 blt : X.env.builtins = builtinsNs
 above : X.s₀.heap.objs.size <= X.env.locals
 inj : ∀ x y c, X.env.cells.lookup x = some c -> X.env.cells.lookup y = some c -> x = y
 has : ∀ x, (X.env.kindOf x = some .cell ∨ X.env.kindOf x = some .free) -> ∃ c, X.env.cells.lookup x = some c
 cab : ∀ x c, X.fn x = true -> X.env.cells.lookup x = some c -> X.s₀.heap.objs.size <= c
 hd : X.calm = true -> X.A.handled = none
 frames : X.A.frames = some X.stack
 stk : X.stack = X.outer ∨ (X.stack = X.env :: X.outer ∧ X.env.frame = some X.env.locals)
 exf : ∀ b ∈ X.ex, b ≠ X.env.locals ∧ ∀ x c, X.env.cells.lookup x = some c -> c ≠ b
 bs : ∀ b o, X.base.get? b = some o -> X.s₀.heap.get? b = some o ∧ X.H₀ b = none
 bsz : X.base.objs.size <= X.s₀.heap.objs.size
 noex : ∀ b o, X.base.get? b = some o -> b ∉ X.ex
 exfs : ∀ b ∈ X.ex, b ∉ X.fs
 funs : X.s₀.heap.FunFrames X.base X.outer
 frf : ∀ b ∈ X.fs, X.H₀ b = none
structure Inv (X : Cx) (pins : List (Addr × Obj)) (σ : List (Option V)) (H : Hp) (s : Shared) : Prop where
 ok : X.Ok
 os : s.os = X.s₀.os
 bare : AllBare s.gens
 base : Un X.fs X.ex X.H₀ H X.s₀.heap s.heap
 loc : ∃ m, s.heap.Ns X.env.locals m ∧ ∀ (i : Nat) (x : Str) (v : V), X.N[i]? = some x -> σ[i]? = some (some v) -> Vis X.env.scope x -> ∃ u, RelV v u ∧ Look X.env s.heap m x u
 cell : ∀ x c, X.env.cells.lookup x = some c -> ∃ v, s.heap.IsCell c v
 free : H X.env.locals = none
 freeC : ∀ x c, X.env.cells.lookup x = some c -> H c = none
 pin : ∀ p ∈ X.pn ++ pins, s.heap.get? p.1 = some p.2 ∧ H p.1 = none ∧ p.1 ≠ X.env.locals ∧ p.1 ∉ X.fs ∧ ∀ v, p.2.data ≠ .cell v
 hok : HOk X.prog X.w H s.heap
 len : σ.length = X.N.length
section
variable {X : Cx} {pins : List (Addr × Obj)} {σ : List (Option V)} {H H' : Hp} {s : Shared} {h' : Heap}
theorem Cx.Ok.nofr (ok : X.Ok) {b : Addr} {o : Obj} (e : X.base.get? b = some o) : b ∉ X.fs := fun hb => by
 have := (ok.funs.mem hb).1
 rw [e] at this; cases this
theorem Inv.bs (I : Inv X pins σ H s) : ∀ b o, X.base.get? b = some o -> s.heap.get? b = some o ∧ H b = none := fun b o e =>
 ⟨I.base.keep b o (I.ok.bs b o e).1 (I.ok.bs b o e).2 (I.ok.nofr e) (I.ok.noex b o e), I.base.free b o (I.ok.bs b o e).1 (I.ok.bs b o e).2 (I.ok.noex b o e)⟩
theorem Inv.bk (I : Inv X pins σ H s) : ∀ b o, X.base.get? b = some o -> s.heap.get? b = some o := fun b o e => (I.bs b o e).1
theorem Inv.mod (I : Inv X pins σ H s) : Mod X.K X.mg X.base := I.ok.mod
theorem Inv.kIn (I : Inv X pins σ H s) : X.K.In s.heap := I.ok.mod.kin.keeps I.bk
theorem Inv.nolimit (I : Inv X pins σ H s) : s.heap.NoLimit := I.ok.mod.nolimit.keeps I.bk
theorem Inv.lt (I : Inv X pins σ H s) : X.env.locals < s.heap.objs.size := let ⟨_, hn, _⟩ := I.loc; hn.lt
theorem Inv.sz (I : Inv X pins σ H s) : X.s₀.heap.objs.size <= s.heap.objs.size := Nat.le_trans I.ok.above (Nat.le_of_lt I.lt)
theorem Inv.nofs (I : Inv X pins σ H s) {a : Addr} (h : s.heap.objs.size <= a) : a ∉ X.fs := fun hb => by
 obtain ⟨_, o, ho, _⟩ := I.ok.funs.mem hb
 exact absurd (Nat.lt_of_lt_of_le (Heap.lt_size ho) (Nat.le_trans I.sz h)) (Nat.lt_irrefl _)
theorem Inv.cne (I : Inv X pins σ H s) : ∀ x c, X.env.cells.lookup x = some c -> c ≠ X.env.locals := fun x c e z => by
 obtain ⟨v, o, ho, hd⟩ := I.cell x c e
 obtain ⟨m, ⟨o', es, ep, ho', hd', _⟩, _⟩ := I.loc
 rw [z, ho'] at ho; cases ho; rw [hd'] at hd; cases hd
theorem Inv.funs (I : Inv X pins σ H s) : s.heap.FunFrames X.base X.outer := by
 have all : ∀ (l : List Env), (∀ b ∈ frs l, b ∈ X.fs) -> X.s₀.heap.FunFrames X.base l -> s.heap.FunFrames X.base l := by
  intro l
  induction l with
  | nil => intro _ _; trivial
  | cons env r ih =>
   intro hs hl
   obtain ⟨hk, ⟨L, o, hf, hn, ho, hd⟩, hr⟩ := hl
   have hL : L ∈ X.fs := hs L (by unfold frs; rw [List.filterMap_cons, hf]; exact List.mem_cons_self)
   obtain ⟨sl, e⟩ := I.base.slot L o ho (I.ok.frf L hL) hL fun z => I.ok.exfs L z hL
   exact ⟨hk, ⟨L, _, hf, hn, e, hd⟩, ih (fun b hb => hs b (by unfold frs; rw [List.filterMap_cons, hf]; exact List.mem_cons_of_mem _ hb)) hr⟩
 exact all X.outer (fun _ hb => hb) I.ok.funs
theorem Inv.stack (I : Inv X pins σ H s) : s.heap.FunFrames X.base X.stack := by
 rcases I.ok.stk with e | ⟨e, hf⟩
 · rw [e]; exact I.funs
 · rw [e]
   obtain ⟨m, hn, _⟩ := I.loc
   refine .cons (by rw [I.ok.kind]; decide) hf hn ?_ I.funs
   exact Heap.get?_none_of_le (Nat.le_trans I.ok.bsz I.ok.above)
theorem Inv.stkSub (I : Inv X pins σ H s) : ∀ b ∈ frs X.stack, b ∈ X.env.locals :: X.fs := fun b hb => by
 rcases I.ok.stk with e | ⟨e, hf⟩
 · rw [e] at hb; exact List.mem_cons_of_mem _ hb
 · rw [e] at hb
   unfold frs at hb
   rw [List.filterMap_cons, hf] at hb
   exact hb
theorem Inv.stkFree (I : Inv X pins σ H s) : ∀ b ∈ frs X.stack, H b = none := fun b hb => by
 rcases List.mem_cons.mp (I.stkSub b hb) with e | hb
 · rw [e]; exact I.free
 · obtain ⟨_, o, ho, _⟩ := I.ok.funs.mem hb
   exact I.base.free b o ho (I.ok.frf b hb) fun z => I.ok.exfs b z hb
theorem Inv.step {g' : Array GenState} {t' : Nat} {d' : Drawn} {ch : List Addr} (I : Inv X pins σ H s)
 (hch : ∀ b ∈ ch, (b ∈ X.ex ∨ X.s₀.heap.objs.size <= b) ∧ b ≠ X.env.locals ∧ (∀ x c, X.env.cells.lookup x = some c -> c ≠ b) ∧ ∀ p ∈ X.pn ++ pins, p.1 ≠ b)
 (keep : ∀ b o, b ≠ X.env.locals -> b ∉ X.fs -> b ∉ ch -> s.heap.get? b = some o -> H b = none -> h'.get? b = some o)
 (slot : ∀ b o, b ≠ X.env.locals -> b ∈ X.fs -> b ∉ ch -> s.heap.get? b = some o -> H b = none -> ∃ sl, h'.get? b = some { o with slots := sl }) (free : ∀ b o, b ∉ ch -> s.heap.get? b = some o -> H b = none -> H' b = none)
 (there : ∀ b o, b ∉ ch -> s.heap.get? b = some o -> ∃ o', h'.get? b = some o')
 (tups : ∀ b xs, H b = some (.tup xs) -> H' b = some (.tup xs)) (frzs : ∀ b o u, H b = some (.frz o u) -> H' b = some (.frz o u)) (tbls : ∀ b ps, H b = some (.tbl ps) -> ∃ more, H' b = some (.tbl (ps ++ more)))
 (ns : ∀ m, s.heap.Ns X.env.locals m -> h'.Ns X.env.locals m) (hok : HOk X.prog X.w H' h') (hg : AllBare g') :
 Inv X pins σ H' { s with heap := h', gens := g', drawn := d', toks := t' } := by
 have neL : ∀ b o, X.s₀.heap.get? b = some o -> b ≠ X.env.locals := fun b o e => Nat.ne_of_lt (Nat.lt_of_lt_of_le (Heap.lt_size e) I.ok.above)
 have neC : ∀ b o, X.s₀.heap.get? b = some o -> b ∉ X.ex -> b ∉ ch := fun b o e hx hb => by
  rcases (hch b hb).1 with z | z
  · exact hx z
  · exact absurd (Nat.lt_of_lt_of_le (Heap.lt_size e) z) (Nat.lt_irrefl _)
 have cellK : ∀ x c, X.env.cells.lookup x = some c -> ∀ v, s.heap.IsCell c v -> h'.IsCell c v := fun x c e v ⟨o, ho, hd⟩ => by
  have nch : c ∉ ch := fun z => (hch c z).2.2.1 x c e rfl
  by_cases hc : c ∈ X.fs
  · obtain ⟨sl, q⟩ := slot c o (I.cne x c e) hc nch ho (I.freeC x c e)
    exact ⟨_, q, hd⟩
  · exact ⟨o, keep c o (I.cne x c e) hc nch ho (I.freeC x c e), hd⟩
 refine ⟨I.ok, I.os, hg, ⟨fun b o e n hb hx => ?_, fun b o e n hb hx => ?_, fun b o e n hx => ?_, fun b o e hx => ?_, fun b xs e => tups b xs (I.base.tups b xs e), fun b o xs e => frzs b o xs (I.base.frzs b o xs e), fun b ps e => ?_⟩, ?_, fun x c e => ?_, ?_, fun x c e => ?_, fun p hp => ?_, hok, I.len⟩
 · exact keep b o (neL b o e) hb (neC b o e hx) (I.base.keep b o e n hb hx) (I.base.free b o e n hx)
 · obtain ⟨sl, e1⟩ := I.base.slot b o e n hb hx
   obtain ⟨sl', e2⟩ := slot b _ (neL b o e) hb (neC b o e hx) e1 (I.base.free b o e n hx)
   exact ⟨sl', e2⟩
 · obtain ⟨o', e1⟩ := I.base.there b o e hx
   exact free b o' (neC b o e hx) e1 (I.base.free b o e n hx)
 · obtain ⟨o', e1⟩ := I.base.there b o e hx
   exact there b o' (neC b o e hx) e1
 · obtain ⟨m1, e1⟩ := I.base.tbls b ps e
   obtain ⟨m2, e2⟩ := tbls b _ e1
   exact ⟨m1 ++ m2, by rw [e2, Array.append_assoc]⟩
 · obtain ⟨m, hn, hl⟩ := I.loc
   refine ⟨m, ns m hn, fun i x v e1 e2 e3 => ?_⟩
   obtain ⟨u, r, l⟩ := hl i x v e1 e2 e3
   refine ⟨u, r, ?_⟩
   rcases l with l | ⟨k, c, e, z⟩
   · exact .inl l
   · exact .inr ⟨k, c, e, cellK x c e _ z⟩
 · obtain ⟨v, z⟩ := I.cell x c e
   exact ⟨v, cellK x c e v z⟩
 · obtain ⟨m, ⟨o, _, _, ho, _⟩, _⟩ := I.loc
   exact free _ o (fun z => (hch _ z).2.1 rfl) ho I.free
 · obtain ⟨v, o, ho, hd⟩ := I.cell x c e
   exact free c o (fun z => (hch c z).2.2.1 x c e rfl) ho (I.freeC x c e)
 · obtain ⟨e, n, ne, nf, d⟩ := I.pin p hp
   have nch : p.1 ∉ ch := fun z => (hch p.1 z).2.2.2 p hp rfl
   exact ⟨keep p.1 p.2 ne nf nch e n, free p.1 p.2 nch e n, ne, nf, d⟩
theorem Inv.un {t' : Nat} (I : Inv X pins σ H s) (u : Un X.fs [] H H' s.heap h') (hok : HOk X.prog X.w H' h') : Inv X pins σ H' { s with heap := h', toks := t' } := by
 obtain ⟨m, ⟨o, es, ep, ho, r⟩, _⟩ := id I.loc
 obtain ⟨sl, hL⟩ := u.any ho I.free (by simp)
 exact I.step (g' := s.gens) (d' := s.drawn) (ch := []) (fun _ z => nomatch z) (fun b o _ hb _ e n => u.keep b o e n hb (by simp)) (fun b o _ hb _ e n => u.slot b o e n hb (by simp)) (fun b o _ e n => u.free b o e n (by simp)) (fun b o _ e => u.there b o e (by simp)) u.tups u.frzs u.tbls (fun m' hm => by
  obtain ⟨o', es', ep', ho', r'⟩ := hm
  rw [ho] at ho'; cases ho'
  exact ⟨_, es', ep', hL, r'⟩) hok I.bare
theorem Inv.call {g' : Array GenState} {t' : Nat} {d' : Drawn} {ch : List Addr} (I : Inv X pins σ H s) (u : Un (frs X.stack) ch H H' s.heap h') (hok : HOk X.prog X.w H' h') (hg : AllBare g')
 (hch : ∀ b ∈ ch, (b ∈ X.ex ∨ X.s₀.heap.objs.size <= b) ∧ b ≠ X.env.locals ∧ (∀ x c, X.env.cells.lookup x = some c -> c ≠ b) ∧ ∀ p ∈ X.pn ++ pins, p.1 ≠ b) :
 Inv X pins σ H' { s with heap := h', gens := g', drawn := d', toks := t' } := by
 obtain ⟨m, ⟨o, es, ep, ho, r⟩, _⟩ := id I.loc
 obtain ⟨sl, hL⟩ := u.any ho I.free fun z => (hch _ z).2.1 rfl
 exact I.step (ch := ch) hch (fun b o hL hb hc e n => u.keep b o e n (fun z => (List.mem_cons.mp (I.stkSub b z)).elim hL hb) hc) (fun b o _ _ hc e n => u.any e n hc) (fun b o hc e n => u.free b o e n hc) (fun b o hc e => u.there b o e hc) u.tups u.frzs u.tbls (fun m' hm => by
  obtain ⟨o', es', ep', ho', r'⟩ := hm
  rw [ho] at ho'; cases ho'
  exact ⟨_, es', ep', hL, r'⟩) hok hg
theorem Inv.turned {t' : Nat} {it : Addr} (I : Inv X pins σ H s) (k : ∀ b o, b ≠ it -> s.heap.get? b = some o -> h'.get? b = some o) (hn : H it = none) (hL : it ≠ X.env.locals)
 (h1 : it ∈ X.ex ∨ X.s₀.heap.objs.size <= it) (h2 : ∀ x c, X.env.cells.lookup x = some c -> c ≠ it) (h3 : ∀ p ∈ X.pn ++ pins, p.1 ≠ it) : Inv X pins σ H { s with heap := h', toks := t' } := by
 have nit : ∀ b u, H b = some u -> b ≠ it := fun b u e z => by rw [z, hn] at e; cases e
 refine I.step (g' := s.gens) (d' := s.drawn) (ch := [it]) (fun b hb => ?_) (fun b o _ _ hc e _ => k b o (fun z => hc (by simp [z])) e) (fun b o _ _ hc e _ => ⟨o.slots, k b o (fun z => hc (by simp [z])) e⟩) (fun _ _ _ _ n => n)
  (fun b o hc e => ⟨o, k b o (fun z => hc (by simp [z])) e⟩) (fun _ _ e => e) (fun _ _ _ e => e) (fun b ps e => ⟨#[], by rw [e]; simp⟩) (fun m hm => ?_) (fun b u e => ?_) I.bare
 · have e : b = it := by simpa using hb
   subst e
   exact ⟨h1, hL, h2, h3⟩
 · obtain ⟨o, es, ep, ho, r⟩ := hm
   exact ⟨o, es, ep, k _ o (Ne.symm hL) ho, r⟩
 · refine (I.hok b u e).stay (fun c v hc q => k c v ?_ q) (fun _ q => q) fun _ _ q => q
   rcases hc with z | z
   · rw [z]; exact nit b u e
   · exact nit c _ z
theorem Inv.tok (I : Inv X pins σ H s) (t : Nat) : Inv X pins σ H { s with toks := t } := I.un (h' := s.heap) (t' := t) Un.refl I.hok
theorem Inv.kept {t' : Nat} (I : Inv X pins σ H s) (k : ∀ b u, s.heap.get? b = some u -> h'.get? b = some u) : Inv X pins σ H { s with heap := h', toks := t' } := I.un (Un.kept k) (I.hok.kept k)
theorem Inv.laid {a : Addr} {o : HO} {t' : Nat} (I : Inv X pins σ H s) (k : ∀ b u, s.heap.get? b = some u -> h'.get? b = some u) (hp : s.heap.objs.size <= a) (new : ObjOk X.prog X.w (upd H a o) h' a o) :
 Inv X pins σ (upd H a o) { s with heap := h', toks := t' } := I.un (Un.laid k hp (I.hok.fresh hp)) (I.hok.laid k hp new)
theorem Inv.write {x e : Addr} {o : HO} {t' : Nat} (I : Inv X pins σ H s) (mu : Mut (H x)) (he : e = x ∨ H e = some (.own x)) (k : ∀ b u, b ≠ e -> s.heap.get? b = some u -> h'.get? b = some u) (heo : ∃ u, h'.get? e = some u)
 (new : ObjOk X.prog X.w (upd H x o) h' x o) : Inv X pins σ (upd H x o) { s with heap := h', toks := t' } := I.un (Un.write mu he k heo) (I.hok.write mu he k heo new)
theorem Inv.pins_of {pins' : List (Addr × Obj)} (I : Inv X pins σ H s) (h : ∀ p ∈ pins', s.heap.get? p.1 = some p.2 ∧ H p.1 = none ∧ p.1 ≠ X.env.locals ∧ p.1 ∉ X.fs ∧ ∀ v, p.2.data ≠ .cell v) : Inv X pins' σ H s :=
 ⟨I.ok, I.os, I.bare, I.base, I.loc, I.cell, I.free, I.freeC, fun p hp => (List.mem_append.mp hp).elim (fun z => I.pin p (List.mem_append_left _ z)) (h p), I.hok, I.len⟩
theorem nodup_ix {N : List Str} (hN : N.Nodup) {i j : Nat} {x : Str} (a : N[i]? = some x) (b : N[j]? = some x) : i = j := by
 obtain ⟨h1, e1⟩ := List.getElem?_eq_some_iff.mp a
 obtain ⟨h2, e2⟩ := List.getElem?_eq_some_iff.mp b
 exact (List.getElem_inj hN).mp (e1.trans e2.symm)
theorem store_ok2 {M : Model} {A : Around} {E : Value -> Shared -> Prop} {i : Nat} {x : Str} {v : V} {u : Value} {Q : Unit -> Shared -> Prop} (I : Inv X pins σ H s) (hN : X.N.Nodup) (hi : X.N[i]? = some x) (hx : Loc X.env.scope x) (r : RelV v u)
 (h : ∀ s', Inv X pins (σ.set i (some v)) H s' -> (∃ a, Heap.SameBut a s.heap s'.heap ∧ (a = X.env.locals ∨ X.env.cells.lookup x = some a)) -> Q () s') (hf : X.fn x = true ∨ X.env.scope.names.lookup x = some .local := by first | exact .inl rfl | exact .inr rfl | assumption) : wpAny M A (storeName X.env x u) Q E s := by
 obtain ⟨m, hn, hl⟩ := id I.loc
 have hcls : (X.env.scope.kind == .class || (X.env.scope.kind == .module && X.env.locals != X.env.globals)) = false := by rw [I.ok.kind]; rfl
 have hiσ : i < σ.length := by rw [I.len]; exact (List.getElem?_eq_some_iff.mp hi).1
 have cne := I.cne
 have tracked : ∀ {a : Addr} {h' : Heap}, (∃ o, s.heap.get? a = some o ∧ H a = none) -> Heap.SameBut a s.heap h' -> HOk X.prog X.w H h' := fun {a h'} ha hs b ob e => by
  obtain ⟨_, _, hfree⟩ := ha
  refine (I.hok b ob e).stay (fun c w' hc q => (hs.2 c ?_).trans q) (fun _ q => q) fun _ _ q => q
  rintro rfl
  rcases hc with rfl | hc
  · rw [hfree] at e; cases e
  · rw [hfree] at hc; cases hc
 rcases hx with hk | hk
 · refine wpAny_storeName_local hk hn (fun h' hn' hs => ?_) hcls
   obtain ⟨oL, _, _, hoL, _⟩ := id hn
   refine h _ ⟨I.ok, I.os, I.bare, ⟨fun b o e n hb hx => ?_, fun b o e n hb hx => ?_, I.base.free, fun b o e hx => ?_, I.base.tups, I.base.frzs, I.base.tbls⟩, ⟨_, hn', fun j y v' e1 e2 e3 => ?_⟩, fun y c e => ?_, I.free, I.freeC, fun p hp => ?_, tracked ⟨oL, hoL, I.free⟩ hs, by simpa using I.len⟩ ⟨_, hs, .inl rfl⟩
   · exact (hs.2 b (Nat.ne_of_lt (Nat.lt_of_lt_of_le (Heap.lt_size e) I.ok.above))).trans (I.base.keep b o e n hb hx)
   · obtain ⟨sl, e1⟩ := I.base.slot b o e n hb hx
     exact ⟨sl, (hs.2 b (Nat.ne_of_lt (Nat.lt_of_lt_of_le (Heap.lt_size e) I.ok.above))).trans e1⟩
   · obtain ⟨o', e1⟩ := I.base.there b o e hx
     exact ⟨o', (hs.2 b (Nat.ne_of_lt (Nat.lt_of_lt_of_le (Heap.lt_size e) I.ok.above))).trans e1⟩
   · by_cases hj : j = i
     · subst hj
       rw [hi] at e1; cases e1
       rw [List.getElem?_set_self hiσ] at e2
       cases e2
       exact ⟨u, r, .inl ⟨hk, by simp⟩⟩
     · rw [List.getElem?_set_ne (Ne.symm hj)] at e2
       obtain ⟨u', r', q⟩ := hl j y v' e1 e2 e3
       refine ⟨u', r', ?_⟩
       rcases q with ⟨k, e⟩ | ⟨k, c, e, z⟩
       · refine .inl ⟨k, ?_⟩
         have : y ≠ x := fun e => hj (nodup_ix hN e1 (e ▸ hi))
         simp [this, e]
       · exact .inr ⟨k, c, e, z.sameBut hs (cne y c e)⟩
   · obtain ⟨w', z⟩ := I.cell y c e
     exact ⟨w', z.sameBut hs (cne y c e)⟩
   · obtain ⟨e, n, ne, nf, d⟩ := I.pin p hp
     exact ⟨(hs.2 p.1 ne).trans e, n, ne, nf, d⟩
 · have hfn : X.fn x = true := by
    rcases hf with z | z
    · exact z
    · rw [z] at hk; cases hk
   obtain ⟨c, hc⟩ := I.ok.has x (.inl hk)
   obtain ⟨w', z⟩ := I.cell x c hc
   refine wpAny_storeName_cell I.ok.kind hk hc z (fun h' hc' hs => ?_)
   obtain ⟨oc, hoc, hocd⟩ := id z
   refine h { s with heap := h' } ⟨I.ok, I.os, I.bare, ⟨fun b o e n hb hx => ?_, fun b o e n hb hx => ?_, I.base.free, fun b o e hx => ?_, I.base.tups, I.base.frzs, I.base.tbls⟩, ⟨m, hn.sameBut hs (Ne.symm (cne x c hc)), fun j y v' e1 e2 e3 => ?_⟩, fun y c' e => ?_, I.free, I.freeC, fun p hp => ?_, tracked ⟨oc, hoc, I.freeC x c hc⟩ hs, by simpa using I.len⟩ ⟨c, hs, .inr hc⟩
   · exact (hs.2 b (Nat.ne_of_lt (Nat.lt_of_lt_of_le (Heap.lt_size e) (I.ok.cab x c hfn hc)))).trans (I.base.keep b o e n hb hx)
   · obtain ⟨sl, e1⟩ := I.base.slot b o e n hb hx
     exact ⟨sl, (hs.2 b (Nat.ne_of_lt (Nat.lt_of_lt_of_le (Heap.lt_size e) (I.ok.cab x c hfn hc)))).trans e1⟩
   · obtain ⟨o', e1⟩ := I.base.there b o e hx
     exact ⟨o', (hs.2 b (Nat.ne_of_lt (Nat.lt_of_lt_of_le (Heap.lt_size e) (I.ok.cab x c hfn hc)))).trans e1⟩
   · by_cases hj : j = i
     · subst hj
       rw [hi] at e1; cases e1
       rw [List.getElem?_set_self hiσ] at e2
       cases e2
       exact ⟨u, r, .inr ⟨.inl hk, c, hc, hc'⟩⟩
     · rw [List.getElem?_set_ne (Ne.symm hj)] at e2
       obtain ⟨u', r', q⟩ := hl j y v' e1 e2 e3
       refine ⟨u', r', ?_⟩
       rcases q with q | ⟨k, c', e, z'⟩
       · exact .inl q
       · refine .inr ⟨k, c', e, z'.sameBut hs ?_⟩
         rintro rfl
         exact hj (nodup_ix hN e1 (I.ok.inj _ _ _ e hc ▸ hi))
   · by_cases hcc : c' = c
     · subst hcc; exact ⟨_, hc'⟩
     · obtain ⟨w2, z2⟩ := I.cell y c' e
       exact ⟨w2, z2.sameBut hs hcc⟩
   · obtain ⟨e, n, ne, nf, d⟩ := I.pin p hp
     refine ⟨(hs.2 p.1 ?_).trans e, n, ne, nf, d⟩
     intro q
     rw [q, hoc] at e
     have q' : oc = p.2 := Option.some.inj e
     exact d w' (by rw [<- q']; exact hocd)
theorem store_ok {M : Model} {A : Around} {E : Value -> Shared -> Prop} {i : Nat} {x : Str} {v : V} {u : Value} {Q : Unit -> Shared -> Prop} (I : Inv X pins σ H s) (hN : X.N.Nodup) (hi : X.N[i]? = some x) (hx : Loc X.env.scope x) (r : RelV v u)
 (h : ∀ s', Inv X pins (σ.set i (some v)) H s' -> Q () s') (hf : X.fn x = true ∨ X.env.scope.names.lookup x = some .local := by first | exact .inl rfl | exact .inr rfl | assumption) : wpAny M A (storeName X.env x u) Q E s :=
 store_ok2 I hN hi hx r (fun s' I' _ => h s' I') hf
theorem Inv.call' {s' : Shared} {ch : List Addr} (I : Inv X pins σ H s) (ho : s'.os = s.os) (u : Un (frs X.stack) ch H H' s.heap s'.heap) (hok : HOk X.prog X.w H' s'.heap) (hg : AllBare s'.gens)
 (hch : ∀ b ∈ ch, (b ∈ X.ex ∨ X.s₀.heap.objs.size <= b) ∧ b ≠ X.env.locals ∧ (∀ x c, X.env.cells.lookup x = some c -> c ≠ b) ∧ ∀ p ∈ X.pn ++ pins, p.1 ≠ b) : Inv X pins σ H' s' := by
 obtain ⟨h', g', d', t', o'⟩ := s'
 have e : o' = s.os := ho
 subst e
 exact I.call (g' := g') (t' := t') (d' := d') u hok hg hch
end
abbrev XK := Value -> Option Addr -> Hp -> Prop
abbrev St := List (Option V)
abbrev VK := V -> Hp -> Prop
abbrev TE := St -> Hp -> VK -> Prop
abbrev TT := St -> Hp -> (Bool -> Hp -> Prop) -> Prop
abbrev TA := St -> Hp -> (List V -> Hp -> Prop) -> Prop
structure Ends where
 nx : St -> Hp -> Prop
 rt : VK
 bk : St -> Hp -> Prop := fun _ _ => False
 ct : St -> Hp -> Prop := fun _ _ => False
abbrev TS := Ends -> St -> Hp -> Prop
def EP (X : Cx) (pins : List (Addr × Obj)) (σ : St) (Q : VK) (u : Value) (s' : Shared) : Prop := ∃ v H', Inv X pins σ H' s' ∧ RelV v u ∧ Q v H'
def TP (X : Cx) (pins : List (Addr × Obj)) (σ : St) (Q : Bool -> Hp -> Prop) (b : Bool) (s' : Shared) : Prop := ∃ H', Inv X pins σ H' s' ∧ Q b H'
def AP (X : Cx) (pins : List (Addr × Obj)) (σ : St) (Q : List V -> Hp -> Prop) (us : List Value) (s' : Shared) : Prop := ∃ vs H', Inv X pins σ H' s' ∧ Vals vs us ∧ Q vs H'
def SP (X : Cx) (pins : List (Addr × Obj)) (D : Ends) (f : Flow) (s' : Shared) : Prop :=
 match f with
 | .next => ∃ σ' H', Inv X pins σ' H' s' ∧ D.nx σ' H'
 | .brk => ∃ σ' H', Inv X pins σ' H' s' ∧ D.bk σ' H'
 | .cont => ∃ σ' H', Inv X pins σ' H' s' ∧ D.ct σ' H'
 | .ret u => ∃ v σ' H', Inv X pins σ' H' s' ∧ RelV v u ∧ D.rt v H'
def PE (X : Cx) (e : Expr) (t : TE) : Prop :=
 ∀ (pins : List (Addr × Obj)) (s : Shared) (σ : St) (H : Hp) (Q : VK), Inv X pins σ H s -> t σ H Q -> wpAny (model X.prog X.w) X.A (eval e X.env) (EP X pins σ Q) X.xe s
def PT (X : Cx) (e : Expr) (t : TT) : Prop :=
 ∀ (pins : List (Addr × Obj)) (s : Shared) (σ : St) (H : Hp) (Q : Bool -> Hp -> Prop), Inv X pins σ H s -> t σ H Q -> wpAny (model X.prog X.w) X.A (isTrue e X.env (eval e X.env)) (TP X pins σ Q) X.xe s
def PW (X : Cx) (e : Expr) (t : TT) : Prop :=
 ∀ (whole : Sem Value) (pins : List (Addr × Obj)) (s : Shared) (σ : St) (H : Hp) (Q : Bool -> Hp -> Prop), Inv X pins σ H s -> t σ H Q -> wpAny (model X.prog X.w) X.A (isTrue e X.env whole) (TP X pins σ Q) X.xe s
theorem PW.pt {X : Cx} {e : Expr} {t : TT} (h : PW X e t) : PT X e t := h _
def PA (X : Cx) (es : List Expr) (t : TA) : Prop :=
 ∀ (pos : Pos) (pins : List (Addr × Obj)) (s : Shared) (σ : St) (H : Hp) (Q : List V -> Hp -> Prop), Inv X pins σ H s -> t σ H Q -> wpAny (model X.prog X.w) X.A (spliced (backTo pos (starEach es X.env))) (AP X pins σ Q) X.xe s
def PS (X : Cx) (st : Stmt) (t : TS) : Prop :=
 ∀ (pins : List (Addr × Obj)) (s : Shared) (σ : St) (H : Hp) (D : Ends), Inv X pins σ H s -> t D σ H -> wpAny (model X.prog X.w) X.A (exec st X.env) (SP X pins D) X.xe s
def PSs (X : Cx) (st : List Stmt) (t : TS) : Prop :=
 ∀ (pins : List (Addr × Obj)) (s : Shared) (σ : St) (H : Hp) (D : Ends), Inv X pins σ H s -> t D σ H -> wpAny (model X.prog X.w) X.A (execs st X.env) (SP X pins D) X.xe s
theorem thn {α : Type} {t : Sem α} {Q Q' : α -> Shared -> Prop} {M : Model} {A : Around} {E : Value -> Shared -> Prop} {s : Shared} (h : wpAny M A t Q E s) (hQ : ∀ a s, Q a s -> Q' a s) : wpAny M A t Q' E s := wpAny_mono h hQ fun _ _ x => x
end L2
namespace L2
open PySem PySem.Spec PyProof.Rows
section
variable {X : Cx}
def tVar (i : Nat) : TE := fun σ H Q => ∃ v, σ[i]? = some (some v) ∧ Q v H
def tC (v : V) : TE := fun _ H Q => Q v H
theorem pe_var {i : Nat} {x : Str} {pos : Pos} (hN : X.N[i]? = some x) (hv : Vis X.env.scope x) (hd : (x == ("__debug__" : Str)) = false := by decide) (hcd : (x == ("__classdict__" : Str)) = false := by decide) : PE X (.Name x pos) (tVar i) := by
 intro pins s σ H Q I h
 obtain ⟨v, e, h⟩ := h
 obtain ⟨m, hn, hl⟩ := I.loc
 obtain ⟨u, r, l⟩ := hl i x v hN e hv
 have fin : EP X pins σ Q u s := ⟨v, H, I, r, h⟩
 rcases l with ⟨hk, hm⟩ | ⟨hk, c, hc, hcell⟩
 · exact wpAny_Name (wpAny_loadName_local I.ok.kind hk hn hm fin) hd
 · rcases hk with hk | hk
   · exact wpAny_Name (wpAny_loadName_cell I.ok.kind hk hc hcell fin) hd
   · exact wpAny_Name (wpAny_loadName_free I.ok.kind hk hc hcell fin hcd) hd
theorem pe_int {i j pos} : PE X (.Constant (.int i) j pos) (tC (.int i)) := fun _ _ _ H _ I h => wpAny_Constant_int ⟨.int i, H, I.tok _, ⟨_, rfl⟩, h⟩
theorem pe_str {x j pos} : PE X (.Constant (.str x) j pos) (tC (.str x)) := fun _ _ _ H _ I h => Calls.Constant_str ⟨.str x, H, I.tok _, ⟨_, rfl⟩, h⟩
def Gl (X : Cx) (x : Str) : Prop := X.env.kindOf x = some .globalImplicit
theorem ld_glob {E : Value -> Shared -> Prop} {pins : List (Addr × Obj)} {s : Shared} {σ : St} {H : Hp} {x : Str} {u : Value} {pos : Pos} {Q : Value -> Shared -> Prop} (I : Inv X pins σ H s) (hg : Gl X x) (hm : X.mg x = some u) (h : Q u s)
 (hd : (x == ("__debug__" : Str)) = false := by decide) : wpAny (model X.prog X.w) X.A (eval (.Name x pos) X.env) Q E s :=
 Calls.Name_function_global I.ok.kind hg (Calls.loadGlobal_global (by rw [I.ok.glob]; exact I.mod.glob.keeps I.bk) hm h) hd
theorem ld_blt {E : Value -> Shared -> Prop} {pins : List (Addr × Obj)} {s : Shared} {σ : St} {H : Hp} {x : Str} {u : Value} {pos : Pos} {Q : Value -> Shared -> Prop} (I : Inv X pins σ H s) (hg : Gl X x) (hm : X.mg x = none) (hv : bootBuiltins x = some u) (h : Q u s)
 (hn : x ≠ "__name__" := by decide) (hd : (x == ("__debug__" : Str)) = false := by decide) : wpAny (model X.prog X.w) X.A (eval (.Name x pos) X.env) Q E s := by
 obtain ⟨mb, h1, h2⟩ := I.mod.blt
 exact Calls.Name_function_global I.ok.kind hg (Calls.loadGlobal_builtin (by rw [I.ok.glob]; exact I.mod.glob.keeps I.bk) hm (by rw [I.ok.blt]; exact h1.keeps I.bk) ((h2 x hn).trans hv) h) hd
theorem pe_bltn {x : Str} {v : V} {u : Value} {pos : Pos} (hg : Gl X x) (hm : X.mg x = none) (hv : bootBuiltins x = some u) (r : RelV v u) (hn : x ≠ "__name__" := by decide) (hd : (x == ("__debug__" : Str)) = false := by decide) : PE X (.Name x pos) (tC v) :=
 fun _ _ _ H _ I h => ld_blt I hg hm hv ⟨v, H, I, r, h⟩ hn hd
variable {a b : Expr} {ta tb : TE} {pos : Pos}
def PC (X : Cx) (op : CmpOp) (a b : Expr) (t : TE) : Prop :=
 ∀ (pins : List (Addr × Obj)) (s : Shared) (σ : St) (H : Hp) (Q : VK), Inv X pins σ H s -> t σ H Q ->
  wpAny (model X.prog X.w) X.A (eval a X.env) (fun v s₁ => wpAny (model X.prog X.w) X.A (eval b X.env) (fun u s₂ => wpAny (model X.prog X.w) X.A (compareOp op v u) (EP X pins σ Q) X.xe s₂) X.xe s₁) X.xe s
theorem nobehind (b : Expr) {op : CmpOp} (h : op ≠ .In) (h2 : op ≠ .NotIn) : behindInMarks op b = false := by
 have e1 : (op == CmpOp.In) = false := by cases op <;> first | rfl | exact absurd rfl h
 have e2 : (op == CmpOp.NotIn) = false := by cases op <;> first | rfl | exact absurd rfl h2
 cases b <;> simp [behindInMarks, e1, e2]
def tB (t : TE) : TT := fun σ H Q => t σ H fun x H1 => ∃ c, x = .bl c ∧ Q c H1
theorem pt_val {e : Expr} {t : TE} (h : PE X e t) (he : ∀ whole, isTrue e X.env whole = (do let v <- whole; standAt e.pos; holding [v] (truthy v)) := by intro _; rfl) : PT X e (tB t) := by
 intro pins s σ H Q I hw
 refine isTrue_plain (thn (h pins s σ H _ I hw) fun v s1 ⟨x, H1, I1, r1, q1⟩ => ?_) (he _)
 obtain ⟨d, rfl, q⟩ := q1
 cases r1
 exact wpAny_truthy_bool ⟨H1, I1, q⟩
variable {tA tB' : TT} {rest : List Expr}
def tAnd (t u : TT) : TT := fun σ H Q => t σ H fun c H1 => if c = true then u σ H1 Q else Q false H1
def tOr (t u : TT) : TT := fun σ H Q => t σ H fun c H1 => if c = true then Q true H1 else u σ H1 Q
def tNot (t : TT) : TT := fun σ H Q => t σ H fun c H1 => Q (!c) H1
theorem pw_and1 (ha : PT X a tA) : PW X (.BoolOp .And [a] pos) tA := by
 intro wh pins s σ H Q I h
 refine isTrue_and (thn (ha pins s σ H Q I h) fun c s1 e => ?_)
 cases c with
 | true => exact isTrue_and_nil e
 | false => exact e
theorem pw_or1 (ha : PT X a tA) : PW X (.BoolOp .Or [a] pos) tA := by
 intro wh pins s σ H Q I h
 refine isTrue_or (thn (ha pins s σ H Q I h) fun c s1 e => ?_)
 cases c with
 | false => exact isTrue_or_nil e
 | true => exact e
theorem pw_and (ha : PT X a tA) (hb : PW X (.BoolOp .And (b :: rest) pos) tB') : PW X (.BoolOp .And (a :: b :: rest) pos) (tAnd tA tB') := by
 intro wh pins s σ H Q I h
 refine isTrue_and (thn (ha pins s σ H _ I h) fun c s1 ⟨H1, I1, q1⟩ => ?_)
 cases c with
 | true => exact hb wh pins s1 σ H1 Q I1 q1
 | false => exact ⟨H1, I1, q1⟩
theorem pw_or (ha : PT X a tA) (hb : PW X (.BoolOp .Or (b :: rest) pos) tB') : PW X (.BoolOp .Or (a :: b :: rest) pos) (tOr tA tB') := by
 intro wh pins s σ H Q I h
 refine isTrue_or (thn (ha pins s σ H _ I h) fun c s1 ⟨H1, I1, q1⟩ => ?_)
 cases c with
 | true => exact ⟨H1, I1, q1⟩
 | false => exact hb wh pins s1 σ H1 Q I1 q1
theorem pt_not (ha : PT X a tA) : PT X (.UnaryOp .Not a pos) (tNot tA) := by
 intro pins s σ H Q I h
 exact isTrue_not (ha pins s σ H (fun c H1 => Q (!c) H1) I h)
def tAndV (ta tb : TE) : TE := fun σ H Q => ta σ H fun x H1 => ∃ c, x = .bl c ∧ if c = true then tb σ H1 Q else Q (.bl false) H1
def tNotV (ta : TE) : TE := fun σ H Q => ta σ H fun x H1 => ∃ c, x = .bl c ∧ Q (.bl (!c)) H1
theorem pe_one {op} {t : TE} (h : PE X a t) : PE X (.BoolOp op [a] pos) t := fun pins s σ H Q I hw => BoolOp_one (h pins s σ H Q I hw)
theorem pe_and (ha : PE X a ta) (hb : PE X (.BoolOp .And (b :: rest) pos) tb) : PE X (.BoolOp .And (a :: b :: rest) pos) (tAndV ta tb) := by
 intro pins s σ H Q I h
 refine BoolOp_and (thn (ha pins s σ H _ I h) fun v s1 ⟨x, H1, I1, r1, q1⟩ => ?_)
 obtain ⟨c, rfl, q1⟩ := q1
 cases r1
 refine wpAny_truthy_bool ?_
 cases c with
 | true => exact hb pins s1 σ H1 Q I1 q1
 | false => exact ⟨.bl false, H1, I1, rfl, q1⟩
theorem pe_not (ha : PE X a ta) : PE X (.UnaryOp .Not a pos) (tNotV ta) := by
 intro pins s σ H Q I h
 refine UnaryOp_ (thn (ha pins s σ H _ I h) fun v s1 ⟨x, H1, I1, r1, q1⟩ => ?_)
 obtain ⟨c, rfl, q1⟩ := q1
 cases r1
 exact not_of (wpAny_truthy_bool ⟨.bl (!c), H1, I1, rfl, q1⟩)
end
end L2
namespace L2
open PySem PySem.Spec PyProof.Rows
def SqL (K : PySem.W.Frag) (H : Hp) (a : Addr) (xs : List V) : Prop :=
 Rd H a (.lst xs) ∨
  ∃ (o : Obj) (its : Array Value) (n : Nat), K.lookup a = some o ∧ o.cls = .type "list" ∧ o.dict = none ∧ o.data = .seq its n ∧ its.size <= sizeLine ∧ Vals xs its.toList
def SqT (K : PySem.W.Frag) (H : Hp) (a : Addr) (xs : List V) : Prop :=
 Rd H a (.tup xs) ∨
  ∃ (o : Obj) (its : Array Value) (n : Nat), K.lookup a = some o ∧ o.cls = .type "tuple" ∧ o.data = .seq its n ∧ its.size <= sizeLine ∧ Vals xs its.toList
def absV : Value -> Option V
 | .none => some .non
 | .bool b => some (.bl b)
 | .int i _ => some (.int i)
 | .str x _ => some (.str x)
 | .bytes b _ => some (.byt b)
 | .float b _ => some (.flt b)
 | .ref a => some (.ref a)
 | .type n => some (.ty n)
 | _ => none
theorem RelV.abs {x : V} {u : Value} (r : RelV x u) : absV u = some x := by
 cases x with
 | non => cases r; rfl
 | bl _ => cases r; rfl
 | int _ => obtain ⟨t, rfl⟩ := r; rfl
 | str _ => obtain ⟨t, rfl⟩ := r; rfl
 | byt _ => obtain ⟨t, rfl⟩ := r; rfl
 | flt _ => obtain ⟨t, rfl⟩ := r; rfl
 | ref _ => cases r; rfl
 | ty _ => cases r; rfl
theorem RelV.inj {x y : V} {u : Value} (r : RelV x u) (q : RelV y u) : x = y := Option.some.inj (r.abs.symm.trans q.abs)
theorem Vals.inj : ∀ {xs ys : List V} {us : List Value}, Vals xs us -> Vals ys us -> xs = ys
 | _, _, _, .nil, .nil => rfl
 | _, _, _, .cons r t, .cons r' t' => by rw [r.inj r', Vals.inj t t']
section
variable {X : Cx} {pins : List (Addr × Obj)} {σ : St} {H : Hp} {s : Shared} {a : Addr} {xs ys : List V}
theorem SqL.of {K : PySem.W.Frag} (h : H a = some (.lst xs)) : SqL K H a xs := .inl (.inl h)
theorem Inv.list (I : Inv X pins σ H s) (h : SqL X.K H a xs) : ∃ its : List Value, Vals xs its ∧ PlainL s.heap a its.toArray ∧ xs.length <= sizeLine := by
 rcases h with h | ⟨o, its, n, hk, hc, hd, hs, hz, r⟩
 · obtain ⟨z, its, n, r, e⟩ := h.ok I.hok
   exact ⟨its, r, ⟨_, n, e, rfl, rfl, rfl⟩, z⟩
 · refine ⟨its.toList, r, ⟨o, n, I.kIn a o hk, hc, hd, by simpa using hs⟩, ?_⟩
   have e := r.length
   simp only [Array.length_toList] at e
   omega
theorem Inv.tuple (I : Inv X pins σ H s) (h : SqT X.K H a xs) : ∃ its : List Value, Vals xs its ∧ IsTup s.heap a its.toArray ∧ xs.length <= sizeLine := by
 rcases h with h | ⟨o, its, n, hk, hc, hs, hz, r⟩
 · obtain ⟨z, its, r, p⟩ := h.ok I.hok
   exact ⟨its, r, p, z⟩
 · refine ⟨its.toList, r, ⟨o, I.kIn a o hk, hc, n, by simpa using hs⟩, ?_⟩
   have e := r.length
   simp only [Array.length_toList] at e
   omega
theorem Inv.list_inj (I : Inv X pins σ H s) (h : SqL X.K H a xs) (h' : SqL X.K H a ys) : xs = ys := by
 obtain ⟨its, r, ⟨o, n, e, _, _, d⟩, _⟩ := I.list h
 obtain ⟨its', r', ⟨o', n', e', _, _, d'⟩, _⟩ := I.list h'
 rw [e] at e'; cases e'
 rw [d] at d'
 injection d' with d1 _
 have : its = its' := by simpa using congrArg Array.toList d1
 subst this
 exact r.inj r'
theorem Inv.tuple_inj (I : Inv X pins σ H s) (h : SqT X.K H a xs) (h' : SqT X.K H a ys) : xs = ys := by
 obtain ⟨its, r, ⟨o, e, _, n, d⟩, _⟩ := I.tuple h
 obtain ⟨its', r', ⟨o', e', _, n', d'⟩, _⟩ := I.tuple h'
 rw [e] at e'; cases e'
 rw [d] at d'
 injection d' with d1 _
 have : its = its' := by simpa using congrArg Array.toList d1
 subst this
 exact r.inj r'
end
abbrev Cx.wish (X : Cx) (E : Value -> Shared -> Prop) : Cx := { X with xe := E }
abbrev Cx.nox (X : Cx) : Cx := X.wish fun _ _ => False
theorem Cx.Ok.wish {X : Cx} (ok : X.Ok) (E : Value -> Shared -> Prop) : (X.wish E).Ok :=
 ⟨ok.mod, ok.kind, ok.glob, ok.blt, ok.above, ok.inj, ok.has, ok.cab, ok.hd, ok.frames, ok.stk, ok.exf, ok.bs, ok.bsz, ok.noex, ok.exfs, ok.funs, ok.frf⟩
theorem Cx.Ok.unwish {X : Cx} {E : Value -> Shared -> Prop} (ok : (X.wish E).Ok) : X.Ok :=
 ⟨ok.mod, ok.kind, ok.glob, ok.blt, ok.above, ok.inj, ok.has, ok.cab, ok.hd, ok.frames, ok.stk, ok.exf, ok.bs, ok.bsz, ok.noex, ok.exfs, ok.funs, ok.frf⟩
section
variable {X : Cx} {pins : List (Addr × Obj)} {σ : St} {H : Hp} {s : Shared} {E : Value -> Shared -> Prop}
theorem Inv.wish (I : Inv X pins σ H s) (E : Value -> Shared -> Prop) : Inv (X.wish E) pins σ H s := ⟨I.ok.wish E, I.os, I.bare, I.base, I.loc, I.cell, I.free, I.freeC, I.pin, I.hok, I.len⟩
theorem Inv.unwish (I : Inv (X.wish E) pins σ H s) : Inv X pins σ H s := ⟨I.ok.unwish, I.os, I.bare, I.base, I.loc, I.cell, I.free, I.freeC, I.pin, I.hok, I.len⟩
theorem SP.unwish {D : Ends} {f : Flow} {s' : Shared} (h : SP (X.wish E) pins D f s') : SP X pins D f s' := by
 cases f with
 | next => obtain ⟨σ', H', I, q⟩ := h; exact ⟨σ', H', I.unwish, q⟩
 | brk => obtain ⟨σ', H', I, q⟩ := h; exact ⟨σ', H', I.unwish, q⟩
 | cont => obtain ⟨σ', H', I, q⟩ := h; exact ⟨σ', H', I.unwish, q⟩
 | ret u => obtain ⟨v, σ', H', I, r, q⟩ := h; exact ⟨v, σ', H', I.unwish, r, q⟩
theorem PSs.nox {st : List Stmt} {t : TS} (h : PSs X.nox st t) : PSs X st t := fun pins s σ H D I hw =>
 wpAny_mono (h pins s σ H D (I.wish _) hw) (fun _ _ q => q.unwish) fun _ _ z => False.elim z
end
section
variable {X : Cx} {st : Stmt} {rest : List Stmt} {t u : TS} {e : Expr} {te : TE} {pos : Pos}
def tNext : TS := fun D σ H => D.nx σ H
def tSeq (t u : TS) : TS := fun D σ H => t { D with nx := u D } σ H
theorem pss_nil : PSs X [] tNext := fun _ _ σ H _ I h => wpAny_execs_nil ⟨σ, H, I, h⟩
theorem pss_cons (h1 : PS X st t) (h2 : PSs X rest u) : PSs X (st :: rest) (tSeq t u) := by
 intro pins s σ H D I h
 refine wpAny_execs_cons (thn (h1 pins s σ H { D with nx := u D } I h) fun f s1 q => ?_)
 cases f with
 | next =>
  obtain ⟨σ', H', I', q⟩ := q
  exact h2 pins s1 σ' H' D I' q
 | ret v => exact q
 | brk => exact q
 | cont => exact q
theorem Inv.quiet {pins : List (Addr × Obj)} {σ : St} {H : Hp} {s : Shared} (I : Inv X pins σ H s) : interactive X.env = false := by simp [interactive, I.ok.kind]
def tDrop (te : TE) : TS := fun D σ H => te σ H fun _ H1 => D.nx σ H1
theorem ps_expr (he : PE X e te) (hs : swapsWith e none pos.line X.env = pure false := by rfl) : PS X (.Expr e pos) (tDrop te) := by
 intro pins s σ H D I h
 exact wpAny_Expr_any (thn (he pins s σ H _ I h) fun v s1 ⟨x, H1, I1, r1, q1⟩ => ⟨σ, H1, I1, q1⟩) I.quiet hs
def tRet (te : TE) : TS := fun D σ H => te σ H D.rt
theorem ps_ret (he : PE X e te) : PS X (.Return (some e) pos) (tRet te) := by
 intro pins s σ H D I h
 exact wpAny_Return_some (thn (he pins s σ H _ I h) fun v s1 ⟨x, H1, I1, r1, q1⟩ => ⟨x, σ, H1, I1, r1, q1⟩)
def tIfS (c : TT) (t u : TS) : TS := fun D σ H => c σ H fun b H1 => if b = true then t D σ H1 else u D σ H1
theorem ps_if {c : Expr} {a b : List Stmt} {tc : TT} (hc : PT X c tc) (ha : PSs X a t) (hb : PSs X b u) : PS X (.If c a b pos) (tIfS tc t u) := by
 intro pins s σ H D I h
 refine wpAny_If (thn (hc pins s σ H _ I h) fun d s1 ⟨H1, I1, q1⟩ => ?_)
 cases d with
 | true => exact ha pins s1 σ H1 D I1 q1
 | false => exact hb pins s1 σ H1 D I1 q1
def tNever : TS := fun _ _ _ => False
theorem pss_never {sts : List Stmt} : PSs X sts tNever := fun _ _ _ _ _ _ h => h.elim
end
abbrev TG := V -> St -> Hp -> (St -> Hp -> Prop) -> Prop
abbrev TGs := List V -> St -> Hp -> (St -> Hp -> Prop) -> Prop
def PG (X : Cx) (target : Expr) (t : TG) : Prop :=
 ∀ (pins : List (Addr × Obj)) (s : Shared) (σ : St) (H : Hp) (v : V) (u : Value) (Q : St -> Hp -> Prop), Inv X pins σ H s -> RelV v u -> t v σ H Q ->
  wpAny (model X.prog X.w) X.A (assign target X.env u) (fun _ s' => ∃ σ' H', Inv X pins σ' H' s' ∧ Q σ' H') X.xe s
def PGs (X : Cx) (ts : List Expr) (t : TGs) : Prop :=
 ∀ (pins : List (Addr × Obj)) (s : Shared) (σ : St) (H : Hp) (vs : List V) (us : List Value) (Q : St -> Hp -> Prop), Inv X pins σ H s -> Vals vs us -> t vs σ H Q ->
  wpAny (model X.prog X.w) X.A (assignInOrder ((assignEach ts X.env).map (·.2)) us) (fun _ s' => ∃ σ' H', Inv X pins σ' H' s' ∧ Q σ' H') X.xe s
section
variable {X : Cx} {pos : Pos}
def gName (i : Nat) : TG := fun v σ H Q => Q (σ.set i (some v)) H
theorem pg_name {i : Nat} {x : Str} (hN : X.N.Nodup) (hi : X.N[i]? = some x) (hx : Loc X.env.scope x) (hf : X.fn x = true ∨ X.env.scope.names.lookup x = some .local := by first | exact .inl rfl | exact .inr rfl | assumption) : PG X (.Name x pos) (gName i) := by
 intro pins s σ H v u Q I r h
 exact wpAny_assign_Name (store_ok I hN hi hx r (fun s' I' => ⟨_, H, I', h⟩) hf)
def gNil : TGs := fun vs σ H Q => vs = [] ∧ Q σ H
def gCons (t : TG) (u : TGs) : TGs := fun vs σ H Q => ∃ v r, vs = v :: r ∧ t v σ H fun σ' H' => u r σ' H' Q
theorem pgs_nil : PGs X [] gNil := by
 intro pins s σ H vs us Q I r h
 obtain ⟨e, h⟩ := h
 subst e
 cases r
 exact assignInOrder_nil ⟨σ, H, I, h⟩
theorem pgs_cons {e : Expr} {es : List Expr} {t : TG} {u : TGs} (h1 : PG X e t) (h2 : PGs X es u)
 (hs : (assignEach (e :: es) X.env).map (·.2) = assign e X.env :: (assignEach es X.env).map (·.2) := by rfl) : PGs X (e :: es) (gCons t u) := by
 intro pins s σ H vs us Q I r h
 obtain ⟨v, vr, e1, h⟩ := h
 subst e1
 cases r with
 | cons r rr =>
  rw [hs]
  refine assignInOrder_cons (thn (h1 pins s σ H _ _ _ I r h) fun _ s1 ⟨σ1, H1, I1, q1⟩ => ?_)
  exact h2 pins s1 σ1 H1 _ _ Q I1 rr q1
def gTup (K : PySem.W.Frag) (n : Nat) (t : TGs) : TG := fun v σ H Q => ∃ a xs, v = .ref a ∧ SqT K H a xs ∧ xs.length = n ∧ t xs σ H Q
theorem pg_tup {es : List Expr} {k : Nat} {t : TGs} {n : Nat} (hc : X.calm = true) (h : PGs X es t)
 (hn : (assignEach es X.env).length = n := by rfl) (hst : (assignEach es X.env).findIdx? (·.1) = none := by rfl) : PG X (.Tuple es k pos) (gTup X.K n t) := by
 intro pins s σ H v u Q I r hw
 obtain ⟨a, xs, e1, hq, hl, hw⟩ := hw
 subst e1
 cases r
 obtain ⟨its, rv, ht, hz⟩ := I.tuple hq
 refine assign_Tuple_tuple (I.ok.hd hc) ht (by simp [hn, <- hl, rv.length]) hst fun h' hx => ?_
 have I1 : Inv X pins σ H { s with heap := h' } := I.kept (t' := s.toks) fun b o e => hx b o (Nat.ne_of_lt (Heap.lt_size e)) e
 exact h pins _ σ H xs _ Q I1 (by simpa using rv) hw
def tAsg (te : TE) (g : TG) : TS := fun D σ H => te σ H fun x H1 => g x σ H1 D.nx
theorem ps_set {i : Nat} {x : Str} {e : Expr} {te : TE} {pos' : Pos} (hN : X.N.Nodup) (hi : X.N[i]? = some x) (hx : Loc X.env.scope x) (he : PE X e te) (hs : swapsWith e (some (.Name x pos')) pos.line X.env = pure false := by rfl) (hf : X.fn x = true ∨ X.env.scope.names.lookup x = some .local := by first | exact .inl rfl | exact .inr rfl | assumption) :
 PS X (.Assign [.Name x pos'] e pos) (tAsg te (gName i)) := by
 intro pins s σ H D I h
 refine wpAny_Assign_Name (thn (he pins s σ H _ I h) fun v s1 ⟨y, H1, I1, r1, q1⟩ => ?_) hs
 exact store_ok I1 hN hi hx r1 (fun s2 I2 => ⟨_, H1, I2, q1⟩) hf
end
structure It where
 go : Nat -> Hp -> Prop
 yld : Nat -> Hp -> V -> Hp -> Prop
 stop : Nat -> Hp -> Prop
def FpOk (X : Cx) (pins : List (Addr × Obj)) (H : Hp) (b : Addr) : Prop :=
 H b = none ∧ b ≠ X.env.locals ∧ b ∉ X.fs ∧ (b ∈ X.ex ∨ X.s₀.heap.objs.size <= b) ∧ (∀ x c, X.env.cells.lookup x = some c -> c ≠ b) ∧ ∀ p ∈ X.pn ++ pins, p.1 ≠ b
theorem Inv.fpOk {X : Cx} {pins : List (Addr × Obj)} {σ : St} {H H' : Hp} {s : Shared} {b : Addr} (I : Inv X pins σ H s) (hb : s.heap.objs.size <= b) (hn : H' b = none) : FpOk X pins H' b := by
 refine ⟨hn, Nat.ne_of_gt (Nat.lt_of_lt_of_le I.lt hb), I.nofs hb, .inr (Nat.le_trans I.sz hb), fun x c e z => ?_, fun p hp z => ?_⟩
 · obtain ⟨v, q⟩ := I.cell x c e
   exact absurd (Nat.lt_of_lt_of_le q.lt (by rw [z]; exact hb)) (Nat.lt_irrefl _)
 · exact absurd (Nat.lt_of_lt_of_le (Heap.lt_size (I.pin p hp).1) (by rw [z]; exact hb)) (Nat.lt_irrefl _)
structure Turn (P : Program) (w : World) (K : PySem.W.Frag) (tg : Expr) (J : It) (fp : List Addr) (it : Addr) (tn : Nat -> Heap -> Prop) : Prop where
 mem : it ∈ fp
 obj : ∀ i h, tn i h -> ∀ b ∈ fp, ∃ o, h.get? b = some o ∧ ∀ v, o.data ≠ .cell v
 keep : ∀ i h h', tn i h -> (∀ b ∈ fp, ∀ o, h.get? b = some o -> h'.get? b = some o) -> tn i h'
 item : ∀ (X : Cx), X.prog = P -> X.w = w -> X.K = K -> X.calm = true -> ∀ (i : Nat) (pins : List (Addr × Obj)) (s : Shared) (σ : St) (H : Hp) (E : Value -> Shared -> Prop), Inv X pins σ H s -> (∀ b ∈ fp, FpOk X pins H b) -> tn i s.heap -> J.go i H ->
  wpAny (model P w) X.A (pyNext (.ref it)) (fun r s1 => ∃ u, r = some u ∧
   wpAny (model P w) X.A (letOwnedTupleGo tg (.ref it) u) (fun _ s2 => ∃ x H', Inv X pins σ H' s2 ∧ RelV x u ∧ J.yld i H x H' ∧ tn (i + 1) s2.heap ∧ ∀ b ∈ fp, H' b = none) E s1) E s
 done : ∀ (X : Cx), X.prog = P -> X.w = w -> X.K = K -> X.calm = true -> ∀ (i : Nat) (pins : List (Addr × Obj)) (s : Shared) (σ : St) (H : Hp) (E : Value -> Shared -> Prop), Inv X pins σ H s -> (∀ b ∈ fp, FpOk X pins H b) -> tn i s.heap -> J.stop i H ->
  wpAny (model P w) X.A (pyNext (.ref it)) (fun r s1 => r = none ∧ Inv X pins σ H s1) E s
 self : ∀ (A : Around) (i : Nat) (s : Shared) (Q : Value -> Shared -> Prop) (E : Value -> Shared -> Prop), tn i s.heap -> Q (.ref it) s -> wpAny (model P w) A (pyIter (.ref it)) Q E s
abbrev TI := St -> Hp -> (It -> Hp -> Prop) -> Prop
def PIE (X : Cx) (pins : List (Addr × Obj)) (σ : St) (tg : Expr) (R : It -> Hp -> Prop) (itv : Value) (s2 : Shared) : Prop :=
 ∃ (it : Addr) (fp : List Addr) (tn : Nat -> Heap -> Prop) (J : It) (H' : Hp), itv = .ref it ∧ Inv X pins σ H' s2 ∧ Turn X.prog X.w X.K tg J fp it tn ∧ tn 0 s2.heap ∧ (∀ b ∈ fp, FpOk X pins H' b) ∧ R J H'
def PI (X : Cx) (tg iter : Expr) (wi : TI) : Prop :=
 ∀ (pins : List (Addr × Obj)) (s : Shared) (σ : St) (H : Hp) (R : It -> Hp -> Prop), Inv X pins σ H s -> wi σ H R ->
  wpAny (model X.prog X.w) X.A (eval iter X.env) (fun v s1 => wpAny (model X.prog X.w) X.A (pyIter v) (PIE X pins σ tg R) X.xe s1) X.xe s
theorem go_of {M : Model} {A : Around} {E : Value -> Shared -> Prop} {s : Shared} {tg : Expr} {it : Addr} {u : Value} {o : Obj} {n : String} {vs : Array Value} {Q : Unit -> Shared -> Prop} (ho : s.heap.get? it = some o) (hc : o.cls = .type n) (hd : o.data = .fields vs)
    (hn : ["enumerate", "zip", "dict_itemiterator", "dict_reverseitemiterator", "odict_iterator", "itertools.zip_longest", "itertools.pairwise"].contains n = false) (hQ : Q () s) : wpAny M A (letOwnedTupleGo tg (.ref it) u) Q E s := by
  unfold letOwnedTupleGo
  cases tg <;> first
    | exact wpAny_pure hQ
    | (cases u <;> first
        | exact wpAny_pure hQ
        | (refine wpAny_bind (wpAny_load ho ?_)
           rw [hc, hd]
           show wpAny M A (if (["enumerate", "zip", "dict_itemiterator", "dict_reverseitemiterator", "odict_iterator", "itertools.zip_longest", "itertools.pairwise"].contains n && vs[0]? == some (rawInt _)) = true then _ else _) Q E s
           rw [if_neg (by intro h; rw [hn, Bool.false_and] at h; cases h)]
           exact wpAny_pure hQ))
def Itl (K : PySem.W.Frag) (a : Addr) : It :=
 ⟨fun i H => ∃ xs x, SqL K H a xs ∧ xs[i]? = some x, fun i H x H' => H' = H ∧ ∀ xs, SqL K H a xs -> xs[i]? = some x, fun i H => ∃ xs, SqL K H a xs ∧ xs.length <= i⟩
def Itr (lo : Int) (n : Nat) : It := ⟨fun i _ => i < n, fun i H x H' => H' = H ∧ x = .int (lo + i), fun i _ => n <= i⟩
theorem turn_list {P : Program} {w : World} {K : PySem.W.Frag} {tg : Expr} (a it : Addr) : Turn P w K tg (Itl K a) [it] it (fun i h => h.IsListIter it a i) where
 mem := by simp
 obj := fun i h st b hb => by
  have e : b = it := by simpa using hb
  subst e
  obtain ⟨o, e, c, d⟩ := st
  exact ⟨o, e, fun v z => by rw [d] at z; cases z⟩
 keep := fun i h h' st k => st.at fun o e => k it (by simp) o e
 item := by
  intro X hP hw hK hc i pins s σ H E I hf st hg
  subst hP hw hK
  obtain ⟨xs, x, hq, hx⟩ := hg
  obtain ⟨its, rv, p, hz⟩ := I.list hq
  obtain ⟨u, hu, ru⟩ := rv.get hx
  obtain ⟨f0, f1, f2, f3, f4, f5⟩ := hf it (by simp)
  refine wpAny_pyNext_list_item st p.isList (x := u) (by simpa using hu) fun h' st' sb => ?_
  have I1 : Inv X pins σ H { s with heap := h' } := I.turned (t' := s.toks) (fun b o hb e => (sb.2 b hb).trans e) f0 f1 f3 f4 f5
  obtain ⟨o, e, c, d⟩ := id st'
  exact ⟨u, rfl, go_of (s := { s with heap := h' }) e c d (by decide) ⟨x, H, I1, ru, ⟨rfl, fun ys hy => by rw [I.list_inj hy hq]; exact hx⟩, st', fun b hb => (hf b hb).1⟩⟩
 done := by
  intro X hP hw hK hc i pins s σ H E I hf st hg
  subst hP hw hK
  obtain ⟨xs, hq, hx⟩ := hg
  obtain ⟨its, rv, p, hz⟩ := I.list hq
  obtain ⟨f0, f1, f2, f3, f4, f5⟩ := hf it (by simp)
  have hl := rv.length
  exact wpAny_pyNext_list_end (I.ok.hd hc) st p.isList (by simp; omega) fun h' eb => ⟨rfl, I.turned (t' := s.toks) (fun b o hb e => eb b o hb e) f0 f1 f3 f4 f5⟩
 self := fun _ _ _ _ _ st h => wpAny_pyIter_listiter st h
theorem turn_range {P : Program} {w : World} {K : PySem.W.Frag} {tg : Expr} (it : Addr) (lo : Int) (n : Nat) : Turn P w K tg (Itr lo n) [it] it (fun i h => IsRangeIter h it (lo + (i : Nat) * 1) ((n : Int) - (i : Nat)) 1) where
 mem := by simp
 obj := fun i h st b hb => by
  have e : b = it := by simpa using hb
  subst e
  exact ⟨_, st, fun v z => by
   have z' : Data.fields _ = Data.cell v := z
   cases z'⟩
 keep := fun i h h' st k => k it (by simp) _ st
 item := by
  intro X hP hw hK hc i pins s σ H E I hf st hg
  subst hP hw hK
  obtain ⟨f0, f1, f2, f3, f4, f5⟩ := hf it (by simp)
  have W := Walks.range (prog := X.prog) (w := X.w) (I.ok.hd hc) it lo 1 n
  refine W.item i s _ _ hg st fun v h' tk hv st' kk => ?_
  obtain ⟨t, rfl⟩ := hv
  have I1 : Inv X pins σ H { s with heap := h', toks := tk } := I.turned (fun b o hb e => kk b o (by simpa using hb) e) f0 f1 f3 f4 f5
  refine ⟨_, rfl, go_of (s := { s with heap := h', toks := tk }) (n := "range_iterator") st' rfl rfl (by decide) ⟨.int (lo + i), H, I1, ⟨t, ?_⟩, ⟨rfl, rfl⟩, st', fun b hb => (hf b hb).1⟩⟩
  rw [Int.mul_one]
 done := by
  intro X hP hw hK hc i pins s σ H E I hf st hg
  subst hP hw hK
  obtain ⟨f0, f1, f2, f3, f4, f5⟩ := hf it (by simp)
  exact wpAny_pyNext_range_end (I.ok.hd hc) st (by have : n <= i := hg; omega) fun h' eb => ⟨rfl, I.turned (t' := s.toks) (fun b o hb e => eb b o hb e) f0 f1 f3 f4 f5⟩
 self := fun _ _ _ _ _ st h => wpAny_pyIter_rangeiter st h
end L2
namespace L2
open PySem PySem.Spec PyProof.Rows
section
variable {X : Cx} {tg : Expr}
def iList (K : PySem.W.Frag) (tl : TE) : TI := fun σ H R => tl σ H fun x H1 => ∃ a, x = .ref a ∧ (∃ xs, SqL K H1 a xs) ∧ R (Itl K a) H1
theorem pi_list {l : Expr} {tl : TE} (hl : PE X l tl) : PI X tg l (iList X.K tl) := by
 intro pins s σ H R I h
 refine thn (hl pins s σ H _ I h) fun v s1 ⟨x, H1, I1, r1, q1⟩ => ?_
 obtain ⟨a, e, ⟨xs, hq⟩, q⟩ := q1
 subst e
 cases r1
 obtain ⟨its, rv, p, hz⟩ := I1.list hq
 refine wpAny_pyIter_list p.isList ?_
 refine ⟨s1.heap.objs.size, [s1.heap.objs.size], _, _, H1, rfl, I1.kept (t' := s1.toks) fun b o e => Heap.get?_push_of_some _ e, turn_list a _, ⟨_, Heap.get?_push_size _ rfl, rfl, rfl⟩, fun b hb => ?_, q⟩
 have e : b = s1.heap.objs.size := by simpa using hb
 subst e
 exact I1.fpOk (Nat.le_refl _) (I1.hok.fresh (Nat.le_refl _))
theorem range_it {pins : List (Addr × Obj)} {σ : St} {H : Hp} {s : Shared} {R : It -> Hp -> Prop} {E : Value -> Shared -> Prop} {lo hi : Int} {t u v : Tok} {tk : Nat} (I : Inv X pins σ H s) (h1 : -(2 ^ 62) <= lo) (h2 : lo < 2 ^ 62) (h3 : -(2 ^ 62) <= hi) (h4 : hi < 2 ^ 62)
 (q : R (Itr lo (hi - lo).toNat) H) : wpAny (model X.prog X.w) X.A (pyIter (.ref s.heap.objs.size)) (PIE X pins σ tg R) E { s with heap := s.heap.push { cls := .type "range", data := .fields #[.int lo t, .int hi u, .int 1 v] }, toks := tk } := by
 refine wpAny_pyIter_range (IsRange.new ..) (small_one h1 h2 h3 h4) ?_
 have I1 : Inv X pins σ H { s with heap := s.heap.push { cls := .type "range", data := .fields #[.int lo t, .int hi u, .int 1 v] }, toks := tk } := I.kept fun b o e => Heap.get?_push_of_some _ e
 refine ⟨(s.heap.push { cls := .type "range", data := .fields #[.int lo t, .int hi u, .int 1 v] }).objs.size, [(s.heap.push { cls := .type "range", data := .fields #[.int lo t, .int hi u, .int 1 v] }).objs.size], _, _, H, rfl,
  I1.kept (t' := tk) fun b o e => Heap.get?_push_of_some _ e, turn_range _ lo (hi - lo).toNat, ?_, fun b hb => ?_, q⟩
 · have e1 : lo + ((0 : Nat) : Int) * 1 = lo := by simp
   have e2 : (((hi - lo).toNat : Nat) : Int) - ((0 : Nat) : Int) = Builtin.Range.rangeSize lo hi 1 := by rw [rangeSize_one]; split <;> omega
   show IsRangeIter _ _ (lo + ((0 : Nat) : Int) * 1) ((((hi - lo).toNat : Nat) : Int) - ((0 : Nat) : Int)) 1
   rw [e1, e2]
   exact Heap.get?_push_size _ rfl
 · have e : b = (s.heap.push { cls := .type "range", data := .fields #[.int lo t, .int hi u, .int 1 v] }).objs.size := by simpa using hb
   subst e
   exact I1.fpOk (Nat.le_refl _) (I1.hok.fresh (Nat.le_refl _))
def iRng1 (ta : TA) : TI := fun σ H R => ta σ H fun vs H1 => ∃ j : Int, vs = [.int j] ∧ -(2 ^ 62) <= j ∧ j < 2 ^ 62 ∧ R (Itr 0 j.toNat) H1
def iRng2 (ta : TA) : TI := fun σ H R => ta σ H fun vs H1 => ∃ i j : Int, vs = [.int i, .int j] ∧ (-(2 ^ 62) <= i ∧ i < 2 ^ 62 ∧ -(2 ^ 62) <= j ∧ j < 2 ^ 62) ∧ R (Itr i (j - i).toNat) H1
theorem pi_range1 {a : Expr} {ta : TA} {p pos : Pos} (hg : Gl X "range") (hm : X.mg "range" = none) (ha : PA X [a] ta) (hs : starEach [a] X.env = [(false, eval a X.env)] := by rfl) : PI X tg (.Call (.Name "range" p) [a] [] pos) (iRng1 ta) := by
 intro pins s σ H R I h
 refine Call_ (ld_blt I hg hm boot_range (PyProof.Rows.callWith_type1 (thn (ha pos pins s σ H _ I h) fun us s1 ⟨vs, H1, I1, r1, q1⟩ => ?_) hs rfl))
 obtain ⟨j, e, q1, q2, q⟩ := q1
 subst e
 cases r1 with
 | cons r rr =>
  cases rr
  obtain ⟨t, rfl⟩ := r
  exact call_range_1 (range_it I1 (by omega) (by omega) q1 q2 (by simpa using q))
theorem pi_range2 {a b : Expr} {ta : TA} {p pos : Pos} (hg : Gl X "range") (hm : X.mg "range" = none) (ha : PA X [a, b] ta) (hs : starEach [a, b] X.env = [(false, eval a X.env), (false, eval b X.env)] := by rfl) (hs2 : starEach [b] X.env = [(false, eval b X.env)] := by rfl) :
 PI X tg (.Call (.Name "range" p) [a, b] [] pos) (iRng2 ta) := by
 intro pins s σ H R I h
 refine Call_ (ld_blt I hg hm boot_range (PyProof.Rows.callWith_type1 (thn (ha pos pins s σ H _ I h) fun us s1 ⟨vs, H1, I1, r1, q1⟩ => ?_) (by rw [hs, hs2]) (by rw [hs2]; rfl)))
 obtain ⟨i, j, e, ⟨q1, q2, q3, q4⟩, q⟩ := q1
 subst e
 cases r1 with
 | cons r rr =>
  cases rr with
  | cons r' rr =>
   cases rr
   obtain ⟨t, rfl⟩ := r
   obtain ⟨t', rfl⟩ := r'
   exact call_range_2 (range_it I1 q1 q2 q3 q4 q)
def tFor (wi : TI) (g : TG) (tb : TS) : TS := fun D σ H => wi σ H fun J H1 => ∃ W : Nat -> Nat -> St -> Hp -> Prop, (∃ m, W 0 m σ H1) ∧ ∀ i m σ H, W i m σ H ->
 (J.stop i H ∧ D.nx σ H) ∨ (J.go i H ∧ ∃ N : St -> Hp -> Prop, (∀ σ' H', N σ' H' -> ∃ m', m' < m ∧ W (i + 1) m' σ' H') ∧ ∀ x H', J.yld i H x H' -> g x σ H' fun σ2 H2 => tb { D with nx := N, ct := N, bk := D.nx } σ2 H2)
def pinsAt (fp : List Addr) (h : Heap) : List (Addr × Obj) := fp.filterMap fun b => (h.get? b).map fun o => (b, o)
theorem mem_pinsAt {fp : List Addr} {h : Heap} {b : Addr} {o : Obj} (hb : b ∈ fp) (e : h.get? b = some o) : (b, o) ∈ pinsAt fp h := List.mem_filterMap.mpr ⟨b, hb, by rw [e]; rfl⟩
theorem of_pinsAt {fp : List Addr} {h : Heap} {p : Addr × Obj} (hp : p ∈ pinsAt fp h) : p.1 ∈ fp ∧ h.get? p.1 = some p.2 := by
 obtain ⟨b, hb, e⟩ := List.mem_filterMap.mp hp
 cases q : h.get? b with
 | none => rw [q] at e; cases e
 | some o =>
  rw [q] at e
  have e' : (b, o) = p := Option.some.inj e
  subst e'
  exact ⟨hb, q⟩
theorem Inv.pinned {pins : List (Addr × Obj)} {σ : St} {H : Hp} {s : Shared} {fp : List Addr} (I : Inv X pins σ H s) (hf : ∀ b ∈ fp, FpOk X pins H b) (ho : ∀ b ∈ fp, ∃ o, s.heap.get? b = some o ∧ ∀ v, o.data ≠ .cell v) : Inv X (pins ++ pinsAt fp s.heap) σ H s :=
 I.pins_of fun p hp => (List.mem_append.mp hp).elim (fun z => I.pin p (List.mem_append_right _ z)) fun z => by
  obtain ⟨hb, e⟩ := of_pinsAt z
  obtain ⟨f0, f1, f2, _⟩ := hf p.1 hb
  obtain ⟨o, e', d⟩ := ho p.1 hb
  rw [e] at e'; cases e'
  exact ⟨e, f0, f1, f2, d⟩
theorem Inv.unpinned {pins pl : List (Addr × Obj)} {σ : St} {H : Hp} {s : Shared} (I : Inv X (pins ++ pl) σ H s) : Inv X pins σ H s := I.pins_of fun p hp => I.pin p (List.mem_append_right _ (List.mem_append_left _ hp))
theorem ps_for {iter : Expr} {body : List Stmt} {wi : TI} {g : TG} {tb : TS} {pos : Pos} (hp : PassesOwn (model X.prog X.w) X.A X.env X.xe) (hc : X.calm = true) (hi : PI X tg iter wi) (hg : PG X tg g) (hb : PSs X body tb)
 (hs : ∀ x, foldedSetIterable iter X.env x = pure x := by intro _; rfl) : PS X (.For tg iter body [] pos) (tFor wi g tb) := by
 intro pins s σ H D I h
 refine wpAny_For (thn (hi pins s σ H _ I h) fun v s1 h1 => thn h1 fun itv s2 h2 => ?_) hs
 obtain ⟨it, fp, tn, J, H2, e, I2, T, st2, f2, W, ⟨m0, w0⟩, turn⟩ := h2
 subst e
 -- what stays true of the iterator's objects through the loop
 have stat : ∀ {H' : Hp}, (∀ b ∈ fp, H' b = none) -> ∀ b ∈ fp, FpOk X pins H' b := fun hn b hb => ⟨hn b hb, (f2 b hb).2⟩
 refine codeAny_forLoop_any (fun n s' => ∃ i σ' H', Inv X pins σ' H' s' ∧ tn i s'.heap ∧ (∀ b ∈ fp, H' b = none) ∧ W i n σ' H') ?_ m0 ⟨0, σ, H2, I2, st2, fun b hb => (f2 b hb).1, w0⟩
 rintro n s3 ⟨i, σ3, H3, I3, st3, fr3, w3⟩
 rcases turn i n σ3 H3 w3 with ⟨stop, qn⟩ | ⟨go, N, hN, step⟩
 · refine wpAny_passesOwn hp (thn (T.done X rfl rfl rfl hc i pins s3 σ3 H3 X.xe I3 (stat fr3) st3 stop) fun r s4 ⟨hr, I4⟩ => ?_)
   subst hr
   exact wpAny_execs_nil ⟨σ3, H3, I4, qn⟩
 · refine wpAny_passesOwn hp (thn (T.item X rfl rfl rfl hc i pins s3 σ3 H3 X.xe I3 (stat fr3) st3 go) fun r s4 ⟨u, hr, h4⟩ => ?_)
   subst hr
   refine wpAny_passesOwn hp (thn h4 fun _ s5 ⟨x, H5, I5, r5, y5, st5, fr5⟩ => ?_)
   have I5' := I5.pinned (stat fr5) (T.obj _ _ st5)
   refine wpAny_passesOwn hp (thn (hg _ s5 σ3 H5 x u _ I5' r5 (step x H5 y5)) fun _ s6 ⟨σ6, H6, I6, q6⟩ => ?_)
   refine wpAny_passesOwn hp (thn (hb _ s6 σ6 H6 _ I6 q6) fun f s7 q7 => ?_)
   have again : ∀ {σ7 : St} {H7 : Hp}, Inv X (pins ++ pinsAt fp s5.heap) σ7 H7 s7 -> N σ7 H7 -> ∃ m, m < n ∧ ∃ i σ' H', Inv X pins σ' H' s7 ∧ tn i s7.heap ∧ (∀ b ∈ fp, H' b = none) ∧ W i m σ' H' := fun {σ7 H7} I7 n7 => by
    obtain ⟨m', hm, w7⟩ := hN σ7 H7 n7
    refine ⟨m', hm, i + 1, σ7, H7, I7.unpinned, T.keep _ _ _ st5 fun b hb o e => (I7.pin (b, o) (List.mem_append_right _ (List.mem_append_right _ (mem_pinsAt hb e)))).1, fun b hb => ?_, w7⟩
    obtain ⟨o, e, d⟩ := T.obj _ _ st5 b hb
    exact (I7.pin (b, o) (List.mem_append_right _ (List.mem_append_right _ (mem_pinsAt hb e)))).2.1
   cases f with
   | next => obtain ⟨σ7, H7, I7, n7⟩ := q7; exact again I7 n7
   | cont => obtain ⟨σ7, H7, I7, n7⟩ := q7; exact again I7 n7
   | brk => obtain ⟨σ7, H7, I7, q7⟩ := q7; exact ⟨σ7, H7, I7.unpinned, q7⟩
   | ret v => obtain ⟨x7, σ7, H7, I7, r7, q7⟩ := q7; exact ⟨x7, σ7, H7, I7.unpinned, r7, q7⟩
end
end L2
namespace L2
open PySem PySem.Spec PyProof.Rows
abbrev R2 := V -> V -> Hp -> VK -> Prop
def OpR (X : Cx) (f : Value -> Value -> Sem Value) (r : R2) : Prop :=
 ∀ (pins : List (Addr × Obj)) (s : Shared) (σ : St) (H : Hp) (x y : V) (v u : Value) (Q : VK), Inv X pins σ H s -> RelV x v -> RelV y u -> r x y H Q ->
  wpAny (model X.prog X.w) X.A (f v u) (EP X pins σ Q) X.xe s
def UnR (X : Cx) (f : Value -> Sem Value) (r : V -> Hp -> VK -> Prop) : Prop :=
 ∀ (pins : List (Addr × Obj)) (s : Shared) (σ : St) (H : Hp) (x : V) (v : Value) (Q : VK), Inv X pins σ H s -> RelV x v -> r x H Q ->
  wpAny (model X.prog X.w) X.A (f v) (EP X pins σ Q) X.xe s
def CallR (X : Cx) (f : Value) (r : List V -> Hp -> VK -> Prop) : Prop :=
 ∀ (pins : List (Addr × Obj)) (s : Shared) (σ : St) (H : Hp) (xs : List V) (us : List Value) (Q : VK), Inv X pins σ H s -> Vals xs us -> r xs H Q ->
  wpAny (model X.prog X.w) X.A (call f us) (EP X pins σ Q) X.xe s
def tOp (r : R2) (ta tb : TE) : TE := fun σ H Q => ta σ H fun x H1 => tb σ H1 fun y H2 => r x y H2 Q
def tUn (r : V -> Hp -> VK -> Prop) (ta : TE) : TE := fun σ H Q => ta σ H fun x H1 => r x H1 Q
def rI (C : Int -> Int -> Prop) (g : Int -> Int -> V) : R2 := fun x y H Q => ∃ i j, x = .int i ∧ y = .int j ∧ C i j ∧ Q (g i j) H
def rI0 (g : Int -> Int -> V) : R2 := fun x y H Q => ∃ i j, x = .int i ∧ y = .int j ∧ Q (g i j) H
def rU (g : Int -> V) : V -> Hp -> VK -> Prop := fun x H Q => ∃ i, x = .int i ∧ Q (g i) H
section
variable {X : Cx} {a b c : Expr} {ta tb tc : TE} {pos : Pos}
theorem binT (ha : PE X a ta) (hb : PE X b tb) {pins : List (Addr × Obj)} {s : Shared} {σ : St} {H : Hp} {R : V -> V -> Hp -> Prop} (I : Inv X pins σ H s)
 (h : ta σ H fun x H1 => tb σ H1 fun y H2 => R x y H2) {Q : Value -> Shared -> Prop} {f : Value -> Value -> Sem Value}
 (hf : ∀ v u s2 x y H2, Inv X pins σ H2 s2 -> RelV x v -> RelV y u -> R x y H2 -> wpAny (model X.prog X.w) X.A (f v u) Q X.xe s2) :
 wpAny (model X.prog X.w) X.A (eval a X.env) (fun v s₁ => wpAny (model X.prog X.w) X.A (eval b X.env) (fun u s₂ => wpAny (model X.prog X.w) X.A (f v u) Q X.xe s₂) X.xe s₁) X.xe s := by
 refine thn (ha pins s σ H _ I h) fun v s1 ⟨x, H1, I1, r1, q1⟩ => ?_
 refine thn (hb pins s1 σ H1 _ I1 q1) fun u s2 ⟨y, H2, I2, r2, q2⟩ => ?_
 exact hf v u s2 x y H2 I2 r1 r2 q2
theorem pe_op {op : Operator} {r : R2} (ho : OpR X (binaryOp op) r) (ha : PE X a ta) (hb : PE X b tb) : PE X (.BinOp a op b pos) (tOp r ta tb) := by
 intro pins s σ H Q I h
 exact wpAny_BinOp (binT ha hb I h fun v u s2 x y H2 I2 rx ry q => ho pins s2 σ H2 x y v u Q I2 rx ry q)
theorem pe_un {op : UnaryOp} {r : V -> Hp -> VK -> Prop} (ho : UnR X (unaryOp op) r) (ha : PE X a ta) : PE X (.UnaryOp op a pos) (tUn r ta) := by
 intro pins s σ H Q I h
 exact UnaryOp_ (thn (ha pins s σ H _ I h) fun v s1 ⟨x, H1, I1, r1, q1⟩ => ho pins s1 σ H1 x v Q I1 r1 q1)
theorem opI {f : Value -> Value -> Sem Value} {C : Int -> Int -> Prop} {g : Int -> Int -> Int}
 (rule : ∀ (i j : Int) (t u : Tok) (s : Shared) (Q : Value -> Shared -> Prop) (E : Value -> Shared -> Prop), C i j -> Q (.int (g i j) s.toks) { s with toks := s.toks + 1 } -> wpAny (model X.prog X.w) X.A (f (.int i t) (.int j u)) Q E s) :
 OpR X f (rI C fun i j => .int (g i j)) := by
 intro pins s σ H x y v u Q I rx ry h
 obtain ⟨i, j, rfl, rfl, hc, q⟩ := h
 obtain ⟨t, rfl⟩ := rx
 obtain ⟨t', rfl⟩ := ry
 exact rule i j t t' s _ _ hc ⟨.int (g i j), H, I.tok _, ⟨_, rfl⟩, q⟩
theorem opI0 {f : Value -> Value -> Sem Value} {g : Int -> Int -> Int}
 (rule : ∀ (i j : Int) (t u : Tok) (s : Shared) (Q : Value -> Shared -> Prop) (E : Value -> Shared -> Prop), Q (.int (g i j) s.toks) { s with toks := s.toks + 1 } -> wpAny (model X.prog X.w) X.A (f (.int i t) (.int j u)) Q E s) :
 OpR X f (rI0 fun i j => .int (g i j)) := by
 intro pins s σ H x y v u Q I rx ry h
 obtain ⟨i, j, rfl, rfl, q⟩ := h
 obtain ⟨t, rfl⟩ := rx
 obtain ⟨t', rfl⟩ := ry
 exact rule i j t t' s _ _ ⟨.int (g i j), H, I.tok _, ⟨_, rfl⟩, q⟩
theorem opB0 {f : Value -> Value -> Sem Value} {g : Int -> Int -> Bool}
 (rule : ∀ (i j : Int) (t u : Tok) (s : Shared) (Q : Value -> Shared -> Prop) (E : Value -> Shared -> Prop), Q (.bool (g i j)) s -> wpAny (model X.prog X.w) X.A (f (.int i t) (.int j u)) Q E s) :
 OpR X f (rI0 fun i j => .bl (g i j)) := by
 intro pins s σ H x y v u Q I rx ry h
 obtain ⟨i, j, rfl, rfl, q⟩ := h
 obtain ⟨t, rfl⟩ := rx
 obtain ⟨t', rfl⟩ := ry
 exact rule i j t t' s _ _ ⟨.bl (g i j), H, I, rfl, q⟩
def CMul (i j : Int) : Prop := (-(2 ^ 64) < i ∧ i < 2 ^ 64) ∨ (-(2 ^ 64) < j ∧ j < 2 ^ 64)
theorem CMul.ok {i j : Int} (h : CMul i j) : IntMulOk i j := by
 rcases h with ⟨h1, h2⟩ | ⟨h1, h2⟩
 · exact .of_left (intBits_le_64 h1 h2)
 · exact .of_right (intBits_le_64 h1 h2)
theorem op_add : OpR X (binaryOp .Add) (rI0 fun i j => .int (i + j)) := opI0 fun _ _ _ _ _ _ _ q => add_int q
theorem op_sub : OpR X (binaryOp .Sub) (rI0 fun i j => .int (i - j)) := opI0 fun _ _ _ _ _ _ _ q => sub_int q
theorem op_mul : OpR X (binaryOp .Mult) (rI CMul fun i j => .int (i * j)) := opI fun _ _ _ _ _ _ _ hc q => mul_int q hc.ok
theorem op_mod : OpR X (binaryOp .Mod) (rI (fun _ j => 0 < j) fun i j => .int (i % j)) := opI fun i j _ _ _ _ _ hc q => by
 have h1 : (0 : Int) < j := hc
 exact mod_int' (by omega) (by rw [Int.fmod_eq_emod_of_nonneg i (by omega)]; exact q)
theorem unI {f : Value -> Sem Value} {g : Int -> Int}
 (rule : ∀ (i : Int) (t : Tok) (s : Shared) (Q : Value -> Shared -> Prop) (E : Value -> Shared -> Prop), Q (.int (g i) s.toks) { s with toks := s.toks + 1 } -> wpAny (model X.prog X.w) X.A (f (.int i t)) Q E s) :
 UnR X f (rU fun i => .int (g i)) := by
 intro pins s σ H x v Q I rx h
 obtain ⟨i, rfl, q⟩ := h
 obtain ⟨t, rfl⟩ := rx
 exact rule i t s _ _ ⟨.int (g i), H, I.tok _, ⟨_, rfl⟩, q⟩
theorem un_neg : UnR X (unaryOp .USub) (rU fun i => .int (-i)) := unI fun _ _ _ _ _ q => neg_int q
end
def scal : V -> V -> Bool
 | .non, .non => true | .non, .int _ => true | .int _, .non => true | .non, .bl _ => true | .bl _, .non => true | .non, .str _ => true | .str _, .non => true
 | .int _, .int _ => true | .bl _, .bl _ => true | .str _, .str _ => true | .byt _, .byt _ => true
 | .int _, .str _ => true | .str _, .int _ => true | .bl _, .str _ => true | .str _, .bl _ => true
 | _, _ => false
def rEq : R2 := fun x y H Q => scal x y = true ∧ Q (.bl (decide (x = y))) H
theorem dec_int {i j : Int} : decide (V.int i = V.int j) = (i == j) := by
 rw [Bool.eq_iff_iff]
 simp
theorem dec_bl {i j : Bool} : decide (V.bl i = V.bl j) = (i == j) := by
 rw [Bool.eq_iff_iff]
 simp
theorem dec_str {i j : Str} : decide (V.str i = V.str j) = (i == j) := by
 rw [Bool.eq_iff_iff]
 simp
theorem dec_byt {i j : Array UInt8} : decide (V.byt i = V.byt j) = (i.toList == j.toList) := by
 rw [Bool.eq_iff_iff]
 cases i
 cases j
 simp
section
variable {X : Cx} {a b c : Expr} {ta tb tc : TE} {pos : Pos}
theorem fin_bl {pins : List (Addr × Obj)} {σ : St} {H : Hp} {s : Shared} {Q : VK} {k k' : Bool} (I : Inv X pins σ H s) (q : Q (.bl k) H) (e : k = k') : EP X pins σ Q (.bool k') s := by
 subst e
 exact ⟨.bl k, H, I, rfl, q⟩
theorem op_eq : OpR X (compareOp .Eq) rEq := by
 intro pins s σ H x y v u Q I rx ry h
 obtain ⟨hs, q⟩ := h
 cases x with
 | non =>
  cases rx
  cases y with
  | non => cases ry; exact PySem.EqNone.eq_none_none (fin_bl I q (by simp))
  | bl j => cases ry; exact PySem.EqNone.eq_none_bool (fin_bl I q (by simp))
  | int j => obtain ⟨t', rfl⟩ := ry; exact PySem.EqNone.eq_none_int (fin_bl I q (by simp))
  | str j => obtain ⟨t', rfl⟩ := ry; exact PySem.EqNone.eq_none_str (fin_bl I q (by simp))
  | _ => exact absurd (show false = true from hs) Bool.false_ne_true
 | bl i =>
  cases rx
  cases y with
  | non => cases ry; exact PySem.EqNone.eq_bool_none (fin_bl I q (by simp))
  | bl j => cases ry; exact eq_bool (fin_bl I q dec_bl)
  | str j => obtain ⟨t', rfl⟩ := ry; exact PySem.EqMixed.eq_bool_str (fin_bl I q (by simp))
  | _ => exact absurd (show false = true from hs) Bool.false_ne_true
 | int i =>
  obtain ⟨t, rfl⟩ := rx
  cases y with
  | non => cases ry; exact PySem.EqNone.eq_int_none (fin_bl I q (by simp))
  | int j => obtain ⟨t', rfl⟩ := ry; exact eq_int (fin_bl I q dec_int)
  | str j => obtain ⟨t', rfl⟩ := ry; exact PySem.EqMixed.eq_int_str (fin_bl I q (by simp))
  | _ => exact absurd (show false = true from hs) Bool.false_ne_true
 | str i =>
  obtain ⟨t, rfl⟩ := rx
  cases y with
  | non => cases ry; exact PySem.EqNone.eq_str_none (fin_bl I q (by simp))
  | bl j => cases ry; exact PySem.EqMixed.eq_str_bool (fin_bl I q (by simp))
  | int j => obtain ⟨t', rfl⟩ := ry; exact PySem.EqMixed.eq_str_int (fin_bl I q (by simp))
  | str j => obtain ⟨t', rfl⟩ := ry; exact eq_str (fin_bl I q dec_str)
  | _ => exact absurd (show false = true from hs) Bool.false_ne_true
 | byt i =>
  obtain ⟨t, rfl⟩ := rx
  cases y with
  | byt j => obtain ⟨t', rfl⟩ := ry; exact PySem.W.eq_bytes (fin_bl I q dec_byt)
  | _ => exact absurd (show false = true from hs) Bool.false_ne_true
 | _ => cases y <;> exact absurd (show false = true from hs) Bool.false_ne_true
theorem op_lt : OpR X (compareOp .Lt) (rI0 fun i j => .bl (decide (i < j))) := opB0 fun _ _ _ _ _ _ _ q => lt_int q
theorem op_gt : OpR X (compareOp .Gt) (rI0 fun i j => .bl (decide (j < i))) := opB0 fun _ _ _ _ _ _ _ q => gt_int q
theorem nomark (b : Expr) {op : CmpOp} (h : op ≠ .In := by decide) (h2 : op ≠ .NotIn := by decide) : behindInMarks op b = false := by
 have e1 : (op == CmpOp.In) = false := by cases op <;> first | rfl | exact absurd rfl h
 have e2 : (op == CmpOp.NotIn) = false := by cases op <;> first | rfl | exact absurd rfl h2
 cases b <;> simp [behindInMarks, e1, e2]
theorem pe_cmpR {op : CmpOp} {r : R2} (ho : OpR X (compareOp op) r) (ha : PE X a ta) (hb : PE X b tb) (hm : behindInMarks op b = false) : PE X (.Compare a [op] [b] pos) (tOp r ta tb) := by
 intro pins s σ H Q I h
 exact wpAny_Compare1 (binT ha hb I h fun v u s2 x y H2 I2 rx ry q => ho pins s2 σ H2 x y v u Q I2 rx ry q) hm
def tTest (t : TE) : TT := fun σ H Q => t σ H fun x H' => ∃ k, x = .bl k ∧ Q k H'
theorem pt_cmpR {op : CmpOp} {r : R2} (ho : OpR X (compareOp op) r) (ha : PE X a ta) (hb : PE X b tb) (hm : behindInMarks op b = false) : PT X (.Compare a [op] [b] pos) (tTest (tOp r ta tb)) := by
 intro pins s σ H Q I h
 refine wpAny_isTrue_Compare1 (thn (ha pins s σ H _ I h) fun v s1 ⟨x, H1, I1, r1, q1⟩ => thn (hb pins s1 σ H1 _ I1 q1) fun u s2 ⟨y, H2, I2, r2, q2⟩ =>
  thn (ho pins s2 σ H2 x y v u _ I2 r1 r2 q2) fun c s3 ⟨z, H3, I3, r3, k, e, q3⟩ => ?_) hm
 subst e
 cases r3
 exact wpAny_truthy_bool ⟨H3, I3, q3⟩
theorem line63 : (sizeLine : Nat) < 2 ^ 63 := by rw [sizeLine_eq]; decide
theorem op_add_str : OpR X (binaryOp .Add) (fun x y H Q => ∃ i j, x = .str i ∧ y = .str j ∧ i.length + j.length <= sizeLine ∧ Q (.str (i ++ j)) H) := by
 intro pins s σ H x y v u Q I rx ry h
 obtain ⟨i, j, rfl, rfl, hz, q⟩ := h
 obtain ⟨t, rfl⟩ := rx
 obtain ⟨t', rfl⟩ := ry
 exact add_str (fun t' tk => ⟨.str (i ++ j), H, I.tok _, ⟨_, rfl⟩, q⟩) hz
theorem vals1 {x : V} {us : List Value} (r : Vals [x] us) : ∃ u, us = [u] ∧ RelV x u := by
 cases r with
 | cons r1 r2 => cases r2; exact ⟨_, rfl, r1⟩
theorem vals2 {x y : V} {us : List Value} (r : Vals [x, y] us) : ∃ u w', us = [u, w'] ∧ RelV x u ∧ RelV y w' := by
 cases r with
 | cons r1 r2 =>
  cases r2 with
  | cons r3 r4 => cases r4; exact ⟨_, _, rfl, r1, r3⟩
end
end L2
namespace L2
open PySem PySem.Spec PyProof.Rows
end L2
namespace L2
open PySem PySem.Spec PyProof.Rows
structure Room (k : Nat) (A : Around) : Prop where
 hd : A.handled = none
 dp : A.depth + 3 * k + 5 < recursionLimit
 un : A.units + 16 * k + 200 < cLine
theorem Room.mono {j k : Nat} {A : Around} (r : Room k A) (h : j <= k) : Room j A := ⟨r.hd, by have := r.dp; omega, by have := r.un; omega⟩
theorem Room.deeper {k : Nat} {A : Around} (r : Room (k + 1) A) (env : Env) : Room k (A.deeper env) :=
 ⟨r.hd, by have := r.dp; show A.depth + 1 + 3 * k + 5 < _; omega, by have := r.un; show A.units + 3 + 16 * k + 200 < _; omega⟩
theorem Room.in1 {k : Nat} {A : Around} (r : Room (k + 1) A) : Room k A.in1 :=
 ⟨r.hd, by have := r.dp; show A.depth + 3 * k + 5 < _; omega, by have := r.un; show A.units + 1 + 16 * k + 200 < _; omega⟩
theorem Room.depth {k : Nat} {A : Around} (r : Room k A) : A.depth < recursionLimit := by have := r.dp; omega
def tNil : TA := fun _ H Q => Q [] H
def tCons (ta : TE) (tr : TA) : TA := fun σ H Q => ta σ H fun x H1 => tr σ H1 fun xs H2 => Q (x :: xs) H2
section
variable {X : Cx} {e : Expr} {es : List Expr} {te : TE} {t : TA} {pos : Pos}
theorem pa_nil : PA X [] tNil := fun _ _ _ _ H Q I h => Calls.spliced_nil ⟨[], H, I, .nil, h⟩
theorem pa_cons (ha : PE X e te) (hr : PA X es t) (hs : starEach (e :: es) X.env = (false, eval e X.env) :: starEach es X.env := by rfl) : PA X (e :: es) (tCons te t) := by
 intro pos pins s σ H Q I h
 rw [hs]
 show wpAny _ _ (spliced ((false, eval e X.env) :: backTo pos (starEach es X.env))) _ _ s
 refine Calls.spliced_cons (thn (ha pins s σ H _ I h) fun u s1 ⟨x, H1, I1, r1, q1⟩ => ?_)
 exact thn (hr pos pins s1 σ H1 _ I1 q1) fun us s2 ⟨xs, H2, I2, r2, q2⟩ => ⟨x :: xs, H2, I2, .cons r1 r2, q2⟩
def tTup (t : TA) : TE := fun σ H Q => t σ H fun xs H1 => xs.length <= sizeLine ∧ ∀ p, H1 p = none -> Q (.ref p) (upd H1 p (.tup xs))
def tLst (t : TA) : TE := fun σ H Q => t σ H fun xs H1 => xs.length <= sizeLine ∧ ∀ p, H1 p = none -> Q (.ref p) (upd H1 p (.lst xs))
theorem pe_tup {x1} (h : PA X es t) : PE X (.Tuple es x1 pos) (tTup t) := by
 intro pins s σ H Q I hq
 refine wpAny_Tuple_spliced (thn (h pos pins s σ H _ I hq) fun us s1 ⟨xs, H1, I1, r, z, q⟩ => ⟨by rw [<- r.length]; exact z, ?_⟩)
 have hf : H1 s1.heap.objs.size = none := I1.hok.fresh (Nat.le_refl _)
 refine ⟨.ref s1.heap.objs.size, upd H1 s1.heap.objs.size (.tup xs), I1.laid (t' := s1.toks) (fun b u e => Heap.get?_push_of_some _ e) (Nat.le_refl _) ?_, rfl, q _ hf⟩
 exact ⟨z, us, r, ⟨_, Heap.get?_push_size _ rfl, rfl, _, rfl⟩⟩
theorem pe_lst (h : PA X es t) : PE X (.List es pos) (tLst t) := by
 intro pins s σ H Q I hq
 refine wpAny_List_spliced (thn (h pos pins s σ H _ I hq) fun us s1 ⟨xs, H1, I1, r, z, q⟩ => ⟨by rw [<- r.length]; exact z, ?_⟩)
 have hf : H1 s1.heap.objs.size = none := I1.hok.fresh (Nat.le_refl _)
 refine ⟨.ref s1.heap.objs.size, upd H1 s1.heap.objs.size (.lst xs), I1.laid (t' := s1.toks) (fun b u e => Heap.get?_push_of_some _ e) (Nat.le_refl _) ?_, rfl, q _ hf⟩
 exact ⟨z, us, 0, r, Heap.get?_push_size _ rfl⟩
end
abbrev Sp := List V -> Hp -> VK -> XK -> Prop
abbrev CXT := List Env -> Hp -> Shared -> XK -> Value -> Shared -> Prop
structure Env0 (P : Program) (w : World) (K : PySem.W.Frag) (mg : Str -> Option Value) (base : Heap) (A : Around) (outer : List Env) (s : Shared) (H : Hp) : Prop where
 frames : A.frames = some outer
 mod : Mod K mg base
 bs : ∀ b o, base.get? b = some o -> s.heap.get? b = some o ∧ H b = none
 bsz : base.objs.size <= s.heap.objs.size
 funs : s.heap.FunFrames base outer
 frf : ∀ b ∈ frs outer, H b = none
 hok : HOk P w H s.heap
 bare : AllBare s.gens
def CE (outer : List Env) (P : Program) (w : World) (H : Hp) (s : Shared) (Q : VK) (u : Value) (s' : Shared) : Prop :=
 ∃ v H', s'.os = s.os ∧ AllBare s'.gens ∧ Un (frs outer) [] H H' s.heap s'.heap ∧ HOk P w H' s'.heap ∧ RelV v u ∧ Q v H'
def CR (CX : CXT) (outer : List Env) (P : Program) (w : World) (H : Hp) (s : Shared) (Q : VK) (E : XK) (r : Result) (s' : Shared) : Prop :=
 match r with
 | .ok (.ret u) => CE outer P w H s Q u s'
 | .ok _ => False
 | .error e => CX outer H s E e s'
structure FnOk (P : Program) (w : World) (K : PySem.W.Frag) (mg : Str -> Option Value) (base : Heap) (CX : CXT) (k : Nat) (f : Addr) (fd : FuncData) (ps : List Str) (sp : Sp) : Prop where
 len : ∀ vs H Q E, sp vs H Q E -> vs.length = ps.length
 run : ∀ (A : Around) (outer : List Env) (s : Shared) (H : Hp) (args : Args) (us : List Value) (vs : List V) (Q : VK) (E : XK), Room k A -> Env0 P w K mg base A outer s H -> BindsTo s fd args (ps.zip us) -> Vals vs us -> sp vs H Q E ->
  codeAny (model P w) A (.call (.ref f) args) (CR CX outer P w H s Q E) s
theorem FnOk.imp {P : Program} {w : World} {K : PySem.W.Frag} {mg : Str -> Option Value} {base : Heap} {CX : CXT} {k : Nat} {f : Addr} {fd : FuncData} {ps : List Str} {sp sp' : Sp} (F : FnOk P w K mg base CX k f fd ps sp)
 (h : ∀ vs H Q E, sp' vs H Q E -> sp vs H Q E) : FnOk P w K mg base CX k f fd ps sp' :=
 ⟨fun vs H Q E q => F.len vs H Q E (h _ _ _ _ q), fun A outer s H args us vs Q E hr he hb hv hs => F.run A outer s H args us vs Q E hr he hb hv (h _ _ _ _ hs)⟩
section
variable {X : Cx} {pins : List (Addr × Obj)} {σ : St} {H : Hp} {s s' : Shared}
theorem Inv.env0 (I : Inv X pins σ H s) : Env0 X.prog X.w X.K X.mg X.base X.A X.stack s H :=
 ⟨I.ok.frames, I.ok.mod, I.bs, Nat.le_trans I.ok.bsz I.sz, I.stack, I.stkFree, I.hok, I.bare⟩
theorem Inv.after {Q : VK} {u : Value} (I : Inv X pins σ H s) (h : CE X.stack X.prog X.w H s Q u s') : EP X pins σ Q u s' := by
 obtain ⟨v, H', os, bare, un, hok, r, q⟩ := h
 obtain ⟨hh, g, d, t, os'⟩ := s'
 obtain rfl : os' = s.os := os
 exact ⟨v, H', I.call (h' := hh) (g' := g) (d' := d) (t' := t) (ch := []) un hok bare (fun b z => absurd z (by simp)), r, q⟩
end
def tCall (sp : Sp) (dvs : List V) (E : XK) (t : TA) : TE := fun σ H Q => t σ H fun vs H1 => sp (vs ++ dvs) H1 Q E
def Binds (K : PySem.W.Frag) (fd : FuncData) (ps : List Str) (ds : List Value) : Prop :=
 ∀ (s : Shared) (us : List Value), K.In s.heap -> (us ++ ds).length = ps.length -> BindsTo s fd ⟨us, []⟩ (ps.zip (us ++ ds))
theorem Binds.all {K : PySem.W.Frag} {fd : FuncData} {ps : List Str} (h : ∀ us : List Value, us.length = ps.length -> bindArgs fd ⟨us, []⟩ = pure (ps.zip us)) : Binds K fd ps [] := fun s us _ hl => by
 rw [List.append_nil] at hl ⊢
 exact .of_eq (h us hl)
def Passes (CX : CXT) (X : Cx) (E : XK) : Prop := ∀ (pins : List (Addr × Obj)) (σ : St) (H : Hp) (s : Shared) (e : Value) (s' : Shared), Inv X pins σ H s -> CX X.stack H s E e s' -> X.xe e s'
section
variable {X : Cx} {CX : CXT} {k : Nat} {f C : Addr} {fd : FuncData} {ps : List Str} {sp : Sp} {dvs : List V} {ds : List Value} {E : XK} {x m : Str} {p pos apos : Pos} {e o : Expr} {es : List Expr} {ta : TE} {t : TA}
theorem run_fn {pins : List (Addr × Obj)} {σ : St} {H : Hp} {s : Shared} {Q : VK} {us : List Value} {vs : List V} (F : FnOk X.prog X.w X.K X.mg X.base CX k f fd ps sp) (hr : Room k X.A) (hb : Binds X.K fd ps ds) (hd : Vals dvs ds) (hx : Passes CX X E)
 (I : Inv X pins σ H s) (r : Vals vs us) (h : sp (vs ++ dvs) H Q E) : wpAny (model X.prog X.w) X.A (call (.ref f) us) (EP X pins σ Q) X.xe s := by
 have r2 : Vals (vs ++ dvs) (us ++ ds) := r.append hd
 have hl : (us ++ ds).length = ps.length := by rw [<- r2.length]; exact F.len _ _ _ _ h
 refine wpAny_call (codeAny_mono (F.run X.A X.stack s H ⟨us, []⟩ (us ++ ds) (vs ++ dvs) Q E hr I.env0 (hb s us I.kIn hl) r2 h) fun r s' hq => ?_)
 cases r with
 | error e => exact hx pins σ H s e s' I hq
 | ok fl =>
  cases fl with
  | ret u => exact I.after hq
  | next => exact False.elim hq
  | brk => exact False.elim hq
  | cont => exact False.elim hq
theorem pe_call (F : FnOk X.prog X.w X.K X.mg X.base CX k f fd ps sp) (hr : Room k X.A) (hg : Gl X x) (hm : X.mg x = some (.ref f)) (hk : PySem.W.keepIn X.K (.ref f) = true) (hb : Binds X.K fd ps ds) (hd : Vals dvs ds) (hx : Passes CX X E)
 (ha : PA X (e :: es) t) (hdb : (x == ("__debug__" : Str)) = false := by decide) (he : starEach (e :: es) X.env = (false, eval e X.env) :: starEach es X.env := by rfl) (hpl : (backTo pos (starEach es X.env)).any (·.1) = false := by rfl) :
 PE X (.Call (.Name x p) (e :: es) [] pos) (tCall sp dvs E t) := by
 intro pins s σ H Q I h
 refine wpAny_Call_Name_kw (ld_glob I hg hm ?_ hdb)
 refine PySem.W.callWith_K (h₀ := X.base) I.ok.mod.kin hk (thn (ha pos pins s σ H _ I h) fun us s1 ⟨vs, H1, I1, r, q⟩ => ⟨I1.kIn, ?_⟩) he hpl
 exact run_fn F hr hb hd hx I1 r q
end
structure FnScope (N P : List Str) (sc : Scope) : Prop where
 kind : sc.kind = .function
 co : sc.isCoroutine = false
 gen : sc.isGenerator = false
 nd : N.Nodup
 pre : N.take P.length = P
 par : ∀ x ∈ P, sc.names.lookup x = some .local ∨ sc.names.lookup x = some .cell
 nofree : ∀ y ∈ sc.names, y.2 ≠ .free
theorem bindL_out {kindOf : Str -> Option NameKind} {x : Str} : ∀ {binds : List (Str × Value)} {m : Str -> Option Value}, (∀ v, (x, v) ∉ binds) -> bindL kindOf binds m x = m x
 | [], _, _ => rfl
 | (n, v) :: r, m, h => by
  unfold bindL
  rw [bindL_out fun w hw => h w (List.mem_cons_of_mem _ hw)]
  split
  · have : x ≠ n := by rintro rfl; exact h v List.mem_cons_self
    simp [this]
  · rfl
theorem bindC_out {kindOf : Str -> Option NameKind} {x : Str} : ∀ {binds : List (Str × Value)} {m : Str -> Option Value}, (∀ v, (x, v) ∉ binds) -> bindC kindOf binds m x = m x
 | [], _, _ => rfl
 | (n, v) :: r, m, h => by
  unfold bindC
  rw [bindC_out fun w hw => h w (List.mem_cons_of_mem _ hw)]
  split
  · rfl
  · have : x ≠ n := by rintro rfl; exact h v List.mem_cons_self
    simp [this]
theorem bindL_get {kindOf : Str -> Option NameKind} {x : Str} {v : Value} : ∀ {P : List Str} {vs : List Value} {i : Nat} {m : Str -> Option Value}, P.Nodup -> P[i]? = some x -> vs[i]? = some v -> kindOf x = some .local ->
 bindL kindOf (P.zip vs) m x = some v
 | [], _, _, _, _, h, _, _ => by simp at h
 | _ :: _, [], _, _, _, _, h, _ => by simp at h
 | p :: P, w :: vs, 0, m, nd, h1, h2, hk => by
  simp at h1 h2; subst h1; subst h2
  show bindL kindOf ((p, w) :: P.zip vs) m p = _
  unfold bindL
  rw [bindL_out fun v hv => (List.nodup_cons.mp nd).1 (List.of_mem_zip hv).1, if_pos hk]
  simp
 | p :: P, w :: vs, i + 1, m, nd, h1, h2, hk => by
  show bindL kindOf ((p, w) :: P.zip vs) m x = _
  unfold bindL
  exact bindL_get (i := i) (List.nodup_cons.mp nd).2 (by simpa using h1) (by simpa using h2) hk
theorem bindC_get {kindOf : Str -> Option NameKind} {x : Str} {v : Value} : ∀ {P : List Str} {vs : List Value} {i : Nat} {m : Str -> Option Value}, P.Nodup -> P[i]? = some x -> vs[i]? = some v -> kindOf x ≠ some .local ->
 bindC kindOf (P.zip vs) m x = some v
 | [], _, _, _, _, h, _, _ => by simp at h
 | _ :: _, [], _, _, _, _, h, _ => by simp at h
 | p :: P, w :: vs, 0, m, nd, h1, h2, hk => by
  simp at h1 h2; subst h1; subst h2
  show bindC kindOf ((p, w) :: P.zip vs) m p = _
  unfold bindC
  rw [bindC_out fun v hv => (List.nodup_cons.mp nd).1 (List.of_mem_zip hv).1, if_neg hk]
  simp
 | p :: P, w :: vs, i + 1, m, nd, h1, h2, hk => by
  show bindC kindOf ((p, w) :: P.zip vs) m x = _
  unfold bindC
  exact bindC_get (i := i) (List.nodup_cons.mp nd).2 (by simpa using h1) (by simpa using h2) hk
def start (N : List Str) (vs : List V) : St := vs.map some ++ List.replicate (N.length - vs.length) none
def cxOf (CX : CXT) (P : Program) (w : World) (K : PySem.W.Frag) (mg : Str -> Option Value) (base : Heap) (N : List Str) (qual : Str) (scope : Scope) (f : Addr) (cd : Value) (A : Around) (outer : List Env) (s : Shared) (H : Hp) (E : XK) : Cx where
 prog := P
 w := w
 K := K
 mg := mg
 base := base
 A := A.deeper (envOfC qual scope s.heap.objs.size f cd)
 N := N
 s₀ := s
 H₀ := H
 env := envOfC qual scope s.heap.objs.size f cd
 outer := outer
 stack := envOfC qual scope s.heap.objs.size f cd :: outer
 ex := []
 calm := true
 fn := fun _ => true
 pn := []
 xe := fun e s' => wpAny (model P w) (A.deeper (envOfC qual scope s.heap.objs.size f cd)) (leaving (envOfC qual scope s.heap.objs.size f cd) e) (fun _ s'' => CX outer H s E e s'') (fun e' s'' => CX outer H s E e' s'') s'
theorem cell_has {sc : Scope} {n : Nat} {x : Str} (h : sc.names.lookup x = some .cell) : ∃ c, (cellsFrom n sc.names []).lookup x = some c := by
 have q := PySem.W.cellsFrom_some sc.names n [] (.inl h)
 exact Option.isSome_iff_exists.mp q
theorem inv_start {CX : CXT} {P : Program} {w : World} {K : PySem.W.Frag} {mg : Str -> Option Value} {base : Heap} {N ps : List Str} {qual : Str} {scope : Scope} {f : Addr} {cd : Value} {A : Around} {outer : List Env} {s s1 : Shared} {H : Hp} {E : XK} {us : List Value} {vs : List V}
 (S : FnScope N ps scope) (hd : A.handled = none) (e0 : Env0 P w K mg base A outer s H) (hl : vs.length = ps.length) (r : Vals vs us)
 (x : InCallC s s.heap.objs.size (bindL (envOfC qual scope s.heap.objs.size f cd).kindOf (ps.zip us) fun _ => none) (cellsFrom (s.heap.objs.size + 1) scope.names []) (bindC (envOfC qual scope s.heap.objs.size f cd).kindOf (ps.zip us) fun _ => none) s1) :
 Inv (cxOf CX P w K mg base N qual scope f cd A outer s H E) [] (start N vs) H s1 := by
 have hpl : ps.length <= N.length := by have := congrArg List.length S.pre; rw [List.length_take] at this; omega
 obtain ⟨h1, tk, rfl, hk⟩ := x.done
 have noA : ∀ b : Addr, b ∉ (cxOf CX P w K mg base N qual scope f cd A outer s H E).ex := fun b z => absurd (show b ∈ ([] : List Addr) from z) (by simp)
 refine ⟨⟨e0.mod, S.kind, rfl, rfl, Nat.le_refl _, fun y z c h1 h2 => ?_, fun y hy => ?_, fun y c _ h => ?_, fun _ => hd, Around.frames_deeper e0.frames, .inr ⟨rfl, rfl⟩, fun b z => absurd z (noA b), e0.bs, e0.bsz, fun b _ _ => noA b, fun b z => absurd z (noA b), e0.funs, e0.frf⟩,
  rfl, e0.bare, Un.kept hk, ⟨_, x.toInCall.ns, fun i y v h1 h2 h3 => ?_⟩, fun y c h => ⟨_, x.cell y c h⟩, e0.hok.fresh (Nat.le_refl _), fun y c h => ?_, fun p hp => absurd (show p ∈ ([] : List (Addr × Obj)) from hp) (by simp), e0.hok.kept hk, ?_⟩
 · exact name_of_addr x.apart (PySem.mem_of_lookup h1) (PySem.mem_of_lookup h2)
 · have hy : scope.names.lookup y = some .cell ∨ scope.names.lookup y = some .free := hy
   rcases hy with hy | hy
   · exact cell_has hy
   · exact absurd rfl (S.nofree _ (PySem.mem_of_lookup hy))
 · exact Nat.le_of_lt (x.above y c (PySem.mem_of_lookup h))
 · have hi : i < vs.length := by
    unfold start at h2
    by_cases hi : i < vs.length
    · exact hi
    · rw [List.getElem?_append_right (by simpa using hi)] at h2
      rw [List.getElem?_replicate] at h2
      split at h2 <;> cases h2
   have ha : vs[i]? = some v := by
    unfold start at h2
    rw [List.getElem?_append_left (by simpa using hi), List.getElem?_map] at h2
    cases e : vs[i]? with
    | none => rw [e] at h2; cases h2
    | some a => rw [e] at h2; cases h2; rfl
   obtain ⟨u, hu, rv⟩ := r.get ha
   have hp : ps[i]? = some y := by
    rw [<- S.pre, List.getElem?_take_of_lt (by omega)]; exact h1
   have ndP : ps.Nodup := by rw [<- S.pre]; exact S.nd.sublist (List.take_sublist _ _)
   refine ⟨u, rv, ?_⟩
   rcases S.par y (List.mem_of_getElem? hp) with k | k
   · exact .inl ⟨k, bindL_get ndP hp hu k⟩
   · obtain ⟨c, e⟩ := cell_has (n := s.heap.objs.size + 1) k
     refine .inr ⟨.inl k, c, e, ?_⟩
     have q := x.cell y c e
     rw [bindC_get ndP hp hu (by show scope.names.lookup y ≠ _; rw [k]; decide)] at q
     exact q
 · exact e0.hok.fresh (Nat.le_of_lt (x.above y c (PySem.mem_of_lookup h)))
 · unfold start
   show _ = N.length
   rw [List.length_append, List.length_map, List.length_replicate]
   omega
theorem fn_of {CX : CXT} {P : Program} {w : World} {K : PySem.W.Frag} {mg : Str -> Option Value} {base : Heap} {k : Nat} {f : Addr} {name qual : Str} {params : Arguments} {body : List Stmt} {scope : Scope} {dV kV doc pm cdv ct oc : Value} {an od : Option Addr}
 {osl : Array (Option Value)} {N ps : List Str} {sp : Sp} (lk : K.lookup f = some ⟨oc, od, .func (PySem.W.fnOf name qual params body scope dV kV doc pm an cdv ct), osl⟩) (hcd : PySem.W.codeIn K cdv qual = true) (S : FnScope N ps scope)
 (len : ∀ vs H Q E, sp vs H Q E -> vs.length = ps.length)
 (hbody : ∀ (A : Around) (outer : List Env) (s : Shared) (H : Hp) (vs : List V) (Q : VK) (E : XK), Room k (A.deeper (envOfC qual scope s.heap.objs.size f cdv)) -> sp vs H Q E ->
  ∃ t, PSs (cxOf CX P w K mg base N qual scope f cdv A outer s H E) body t ∧ t { nx := fun _ H' => Q .non H', rt := Q } (start N vs) H) :
 FnOk P w K mg base CX (k + 1) f (PySem.W.fnOf name qual params body scope dV kV doc pm an cdv ct) ps sp := by
 refine ⟨len, fun A outer s H args us vs Q E hr e0 hb r hsp => ?_⟩
 have hl := len _ _ _ _ hsp
 have KX : K.In s.heap := e0.mod.kin.keeps fun b o e => (e0.bs b o e).1
 have lim : s.heap.NoLimit := e0.mod.nolimit.keeps fun b o e => (e0.bs b o e).1
 have hkind : ∀ y ∈ ps.zip us, scope.names.lookup y.1 = some .local ∨ (scope.names.lookup y.1 = some .cell ∧ ((cellsFrom (s.heap.objs.size + 1) scope.names []).lookup y.1).isSome = true) := fun ⟨n, v⟩ hy => by
  rcases S.par n (List.of_mem_zip hy).1 with q | q
  · exact .inl q
  · exact .inr ⟨q, PySem.W.cellsFrom_some _ _ _ (.inl q)⟩
 refine codeAny_call_function hr.depth (KX _ _ lk) rfl S.co S.gen rfl (PySem.W.codeRec_of KX hcd) (hb _ _ _ _ ?_)
 refine wpAny_newFunctionEnv_cells S.kind hkind fun env he s1 x => ?_
 subst he
 refine ⟨lim.keeps x.toInCall.keep, codeAny_func ?_⟩
 obtain ⟨t, ht, hq⟩ := hbody A outer s H vs Q E (hr.deeper _) hsp
 have I : Inv (cxOf CX P w K mg base N qual scope f cdv A outer s H E) [] (start N vs) H s1 := inv_start S hr.hd e0 hl r x
 refine wpAny_mono (ht [] s1 (start N vs) H _ I hq) (fun fl s' hs => ?_) fun e s' hs => hs
 have fin : ∀ {σ' : St} {H' : Hp} {v : V} {u : Value}, Inv (cxOf CX P w K mg base N qual scope f cdv A outer s H E) [] σ' H' s' -> RelV v u -> Q v H' -> CE outer P w H s Q u s' :=
  fun {σ' H' v u} J rv q => ⟨v, H', J.os, J.bare, J.base, J.hok, rv, q⟩
 cases fl with
 | ret u =>
  obtain ⟨v, σ', H', J, rv, q⟩ := hs
  exact fin J rv q
 | next =>
  obtain ⟨σ', H', J, q⟩ := hs
  exact fin (v := V.non) (u := Value.none) J rfl q
 | brk =>
  obtain ⟨_, _, _, q⟩ := hs
  exact False.elim q
 | cont =>
  obtain ⟨_, _, _, q⟩ := hs
  exact False.elim q
end L2
namespace L2
open PySem PySem.Spec PyProof.Rows
section
variable {X : Cx} {x : Str} {p pos : Pos} {e : Expr} {es : List Expr} {t : TA} {id T : String} {r : List V -> Hp -> VK -> Prop}
def tCB (r : List V -> Hp -> VK -> Prop) (t : TA) : TE := fun σ H Q => t σ H fun vs H1 => r vs H1 Q
theorem pe_callB (hc : CallR X (.builtin id) r) (hg : Gl X x) (hm : X.mg x = none) (hv : bootBuiltins x = some (.builtin id)) (ha : PA X (e :: es) t) (hn : x ≠ "__name__" := by decide) (hdb : (x == ("__debug__" : Str)) = false := by decide)
 (he : starEach (e :: es) X.env = (false, eval e X.env) :: starEach es X.env := by rfl) (hpl : (backTo pos (starEach es X.env)).any (·.1) = false := by rfl) : PE X (.Call (.Name x p) (e :: es) [] pos) (tCB r t) := by
 intro pins s σ H Q I h
 refine wpAny_Call_Name_kw (ld_blt I hg hm hv ?_ hn hdb)
 exact PyProof.Rows.callWith_builtin1 (thn (ha pos pins s σ H _ I h) fun us s1 ⟨vs, H1, I1, r1, q1⟩ => hc pins s1 σ H1 vs us Q I1 r1 q1) he hpl
theorem pe_callTy (hc : CallR X (.type T) r) (hg : Gl X x) (hm : X.mg x = none) (hv : bootBuiltins x = some (.type T)) (ha : PA X (e :: es) t) (hn : x ≠ "__name__" := by decide) (hdb : (x == ("__debug__" : Str)) = false := by decide)
 (he : starEach (e :: es) X.env = (false, eval e X.env) :: starEach es X.env := by rfl) (hpl : (backTo pos (starEach es X.env)).any (·.1) = false := by rfl) : PE X (.Call (.Name x p) (e :: es) [] pos) (tCB r t) := by
 intro pins s σ H Q I h
 refine wpAny_Call_Name_kw (ld_blt I hg hm hv ?_ hn hdb)
 exact PyProof.Rows.callWith_type1 (thn (ha pos pins s σ H _ I h) fun us s1 ⟨vs, H1, I1, r1, q1⟩ => hc pins s1 σ H1 vs us Q I1 r1 q1) he hpl
end
end L2
namespace HT
open PySem PyProof.Rows
section
variable {prog : Program} {w : World} {A : Around} {E : Value -> Shared -> Prop} {s : Shared}
def sIx (n d : Nat) : Option Int -> Nat
 | none => d
 | some v => if v < 0 then (v + (n : Int)).toNat else min v.toNat n
theorem sIx_none (n d : Nat) : sIx n d none = d := rfl
theorem sIx_nat (n d k : Nat) : sIx n d (some (k : Int)) = min k n := by
 show (if (k : Int) < 0 then ((k : Int) + (n : Int)).toNat else min (k : Int).toNat n) = min k n
 rw [if_neg (by omega), Int.toNat_natCast]
end
end HT
namespace L2
open PySem PySem.Spec PyProof.Rows
abbrev TO := St -> Hp -> (Option Int -> Hp -> Prop) -> Prop
def PO (X : Cx) (e : Option Expr) (t : TO) : Prop :=
 ∀ (pins : List (Addr × Obj)) (s : Shared) (σ : St) (H : Hp) (Q : Option Int -> Hp -> Prop), Inv X pins σ H s -> t σ H Q ->
  wpAny (model X.prog X.w) X.A (evalPart e X.env) (fun u s' => ∃ o H', Inv X pins σ H' s' ∧ IsPart u o ∧ Q o H') X.xe s
def tNoPart : TO := fun _ H Q => Q none H
def tPart (t : TE) : TO := fun σ H Q => t σ H fun x H1 => ∃ i, x = .int i ∧ Q (some i) H1
section
variable {X : Cx} {e : Expr} {te : TE} {lo hi : Option Expr} {tl th : TO} {pos p2 : Pos}
theorem po_none : PO X none tNoPart := by
 intro pins s σ H Q I h
 rw [evalPart_none]
 exact wpAny_pure ⟨none, H, I, .none, h⟩
theorem po_some (h : PE X e te) : PO X (some e) (tPart te) := by
 intro pins s σ H Q I hw
 rw [evalPart_some]
 refine thn (h pins s σ H _ I hw) fun u s1 ⟨x, H1, I1, r1, q1⟩ => ?_
 obtain ⟨i, rfl, q⟩ := q1
 obtain ⟨t, rfl⟩ := r1
 exact ⟨some i, H1, I1, .int i t, q⟩
def SlR (X : Cx) (r : V -> Option Int -> Option Int -> Hp -> VK -> Prop) : Prop :=
 ∀ (pins : List (Addr × Obj)) (s : Shared) (σ : St) (H : Hp) (x : V) (v vl vu : Value) (lo hi : Option Int) (sl : Addr) (Q : VK), Inv X pins σ H s -> RelV x v -> s.heap.IsSliceOf sl vl vu .none -> IsPart vl lo -> IsPart vu hi -> r x lo hi H Q ->
  ∃ T id, typeLookup (.type T) "__getitem__" = pure (some (.builtin id)) ∧ s.TypeIs v T ∧ wpAny (model X.prog X.w) X.A (getItem v (.ref sl)) (EP X pins σ Q) X.xe s
def tSl (r : V -> Option Int -> Option Int -> Hp -> VK -> Prop) (te : TE) (tl th : TO) : TE := fun σ H Q => te σ H fun x H1 => tl σ H1 fun l H2 => th σ H2 fun u H3 => r x l u H3 Q
theorem pe_slice {r : V -> Option Int -> Option Int -> Hp -> VK -> Prop} (hr : SlR X r) (he : PE X e te) (hl : PO X lo tl) (hu : PO X hi th) : PE X (.Subscript e (.Slice lo hi none p2) pos) (tSl r te tl th) := by
 intro pins s σ H Q I h
 refine Subscript_ (thn (he pins s σ H _ I h) fun v s1 ⟨x, H1, I1, r1, q1⟩ => ?_)
 refine wpAny_Slice (thn (hl pins s1 σ H1 _ I1 q1) fun vl s2 ⟨l, H2, I2, pl, q2⟩ => thn (hu pins s2 σ H2 _ I2 q2) fun vu s3 ⟨u, H3, I3, pu, q3⟩ => ?_)
 rw [evalPart_none]
 refine wpAny_pure ?_
 have I4 : Inv X pins σ H3 { s3 with heap := s3.heap.push { cls := .type "slice", data := .fields #[vl, vu, .none] } } := I3.kept (t' := s3.toks) fun b ob q => Heap.get?_push_of_some _ q
 obtain ⟨T, id, hT, ht, hg⟩ := hr pins { s3 with heap := s3.heap.push { cls := .type "slice", data := .fields #[vl, vu, .none] } } σ H3 x v vl vu l u s3.heap.objs.size Q I4 r1 (Heap.IsSliceOf.new ..) pl pu q3
 show wpAny (model X.prog X.w) X.A (subscriptTail e (.Slice lo hi none p2) v (.ref s3.heap.objs.size)) (EP X pins σ Q) X.xe { s3 with heap := s3.heap.push { cls := .type "slice", data := .fields #[vl, vu, .none] } }
 exact tail_any (ops := [.ref s3.heap.objs.size, v]) ht hT hg (by with_unfolding_all rfl)
def cutV (xs : List V) (lo hi : Option Int) : List V := (xs.drop (HT.sIx xs.length 0 lo)).take (HT.sIx xs.length xs.length hi - HT.sIx xs.length 0 lo)
theorem cutV_length (xs : List V) (lo hi : Option Int) : (cutV xs lo hi).length <= xs.length := by
 unfold cutV
 rw [List.length_take, List.length_drop]
 omega
end
end L2
namespace L2
open PySem PySem.Spec PyProof.Rows
def ixN (n : Nat) (i : Int) : Option Nat := if 0 <= i then (if i < n then some i.toNat else none) else if -(n : Int) <= i then some (i + n).toNat else none
def atI {α : Type} (xs : List α) (i : Int) : Option α := (ixN xs.length i).bind fun j => xs[j]?
theorem ixN_seq {n : Nat} {i : Int} {j : Nat} (h : ixN n i = some j) : seqIndex? i n = some j ∧ j < n ∧ -(n : Int) <= i ∧ i < n := by
 unfold ixN at h
 by_cases h0 : 0 <= i
 · rw [if_pos h0] at h
   by_cases h1 : i < n
   · rw [if_pos h1] at h
     have e : i.toNat = j := Option.some.inj h
     exact ⟨by rw [seqIndex_of h0 h1, e], by omega, by omega, h1⟩
   · rw [if_neg h1] at h; cases h
 · rw [if_neg h0] at h
   by_cases h1 : -(n : Int) <= i
   · rw [if_pos h1] at h
     have e : (i + n).toNat = j := Option.some.inj h
     exact ⟨by rw [seqIndex_neg (by omega) h1, e], by omega, h1, by omega⟩
   · rw [if_neg h1] at h; cases h
theorem atI_get {α : Type} {xs : List α} {i : Int} {v : α} (h : atI xs i = some v) : ∃ j, seqIndex? i xs.length = some j ∧ xs[j]? = some v ∧ j < xs.length ∧ -(xs.length : Int) <= i ∧ i < xs.length := by
 unfold atI at h
 cases e : ixN xs.length i with
 | none => rw [e] at h; cases h
 | some j =>
  rw [e] at h
  obtain ⟨h1, h2, h3, h4⟩ := ixN_seq e
  exact ⟨j, h1, h, h2, h3, h4⟩
theorem atI_nat {α : Type} {xs : List α} {j : Nat} {v : α} (h : xs[j]? = some v) : atI xs (j : Int) = some v := by
 have hj : j < xs.length := (List.getElem?_eq_some_iff.mp h).1
 have e : ixN xs.length (j : Int) = some j := by
  unfold ixN
  rw [if_pos (by omega), if_pos (by omega)]; simp
 unfold atI; rw [e]; exact h
theorem atI_last {α : Type} (xs : List α) (v : α) : atI (xs ++ [v]) (-1) = some v := by
 have hl : (xs ++ [v]).length = xs.length + 1 := by simp
 have e : ixN (xs ++ [v]).length (-1) = some xs.length := by
  unfold ixN
  rw [hl, if_neg (by decide), if_pos (by omega)]
  congr 1
  omega
 unfold atI
 rw [e]
 show (xs ++ [v])[xs.length]? = some v
 simp
def PlainIx (b : Expr) : Prop := ∀ o i, subscripted b false o i = operate [o, i] (getItem o i)
def IxR (X : Cx) (r : R2) : Prop :=
 ∀ (value slice : Expr) (pins : List (Addr × Obj)) (s : Shared) (σ : St) (H : Hp) (x y : V) (v u : Value) (Q : VK), Inv X pins σ H s -> RelV x v -> RelV y u -> r x y H Q ->
  subscripted slice false v u = operate [v, u] (getItem v u) -> wpAny (model X.prog X.w) X.A (subscriptTail value slice v u) (EP X pins σ Q) X.xe s
def MtR (X : Cx) (id : String) (r : V -> List V -> Hp -> VK -> Prop) : Prop :=
 ∀ (pins : List (Addr × Obj)) (s : Shared) (σ : St) (H : Hp) (x : V) (xs : List V) (v : Value) (us : List Value) (Q : VK), Inv X pins σ H s -> RelV x v -> Vals xs us -> r x xs H Q ->
  wpAny (model X.prog X.w) X.A (call (.builtin id) (v :: us)) (EP X pins σ Q) X.xe s
section
variable {X : Cx} {a b : Expr} {ta tb : TE} {pos : Pos}
theorem pe_ix {r : R2} (hr : IxR X r) (ha : PE X a ta) (hb : PE X b tb) (hs : PlainIx b) : PE X (.Subscript a b pos) (tOp r ta tb) := by
 intro pins s σ H Q I h
 exact Subscript_ (binT ha hb I h fun v u s2 x y H2 I2 rx ry q => hr a b pins s2 σ H2 x y v u Q I2 rx ry q (hs _ _))
def rIxL (K : PySem.W.Frag) : R2 := fun x y H Q => ∃ p xs i v, x = .ref p ∧ y = .int i ∧ SqL K H p xs ∧ atI xs i = some v ∧ Q v H
def rIxT (K : PySem.W.Frag) : R2 := fun x y H Q => ∃ p xs i v, x = .ref p ∧ y = .int i ∧ SqT K H p xs ∧ atI xs i = some v ∧ Q v H
def rIxS : R2 := fun x y H Q => ∃ z i c, x = .str z ∧ y = .int i ∧ z.length <= sizeLine ∧ atI z.cps.toList i = some c ∧ Q (.str ⟨#[c]⟩) H
theorem ix_list : IxR X (rIxL X.K) := by
 intro value slice pins s σ H x y v u Q I rx ry h hs
 obtain ⟨p, xs, i, z, rfl, rfl, hq, he, q⟩ := h
 cases rx
 obtain ⟨t, rfl⟩ := ry
 obtain ⟨its, r, pl, hz⟩ := I.list hq
 obtain ⟨j, h1, h2, h3, h4, h5⟩ := atI_get he
 obtain ⟨w, ew, rw'⟩ := r.get h2
 have hl := r.length
 have hn := line63
 have fin : EP X pins σ Q w s := ⟨z, H, I, rw', q⟩
 by_cases h0 : 0 <= i
 · have hj : i.toNat = j := by
    rw [seqIndex_of h0 h5] at h1
    exact Option.some.inj h1
   exact item_listR pl.isList h0 (by omega) (by rw [hj]; simpa using ew) fin hs
 · have hj : (i + (its.toArray.size : Int)).toNat = j := by
    rw [seqIndex_neg (by omega) h4] at h1
    rw [List.size_toArray, <- hl]
    exact Option.some.inj h1
   exact subscriptTail_builtinR (x := w) pl.isList.typeIs slot_list_getitem.lookup
    (wpAny_getItem_list_neg (Q := fun r s' => r = w ∧ EP X pins σ Q r s') pl.isList (by omega) (by rw [List.size_toArray] <;> omega) (by omega) (by rw [hj]; simpa using ew) ⟨rfl, fin⟩) hs
theorem ix_tup : IxR X (rIxT X.K) := by
 intro value slice pins s σ H x y v u Q I rx ry h hs
 obtain ⟨p, xs, i, z, rfl, rfl, hq, he, q⟩ := h
 cases rx
 obtain ⟨t, rfl⟩ := ry
 obtain ⟨its, r, pl, hz⟩ := I.tuple hq
 obtain ⟨j, h1, h2, h3, h4, h5⟩ := atI_get he
 obtain ⟨w, ew, rw'⟩ := r.get h2
 have hl := r.length
 have hn := line63
 have fin : EP X pins σ Q w s := ⟨z, H, I, rw', q⟩
 exact subscriptTail_builtinR (x := w) pl.typeIs slot_tuple_getitem.lookup
  (getItem_tuple (j := j) (Q := fun r s' => r = w ∧ EP X pins σ Q r s') pl (by omega) (by omega) (by rw [List.size_toArray, <- hl]; exact h1) (by simpa using ew) ⟨rfl, fin⟩) hs
theorem ix_str : IxR X rIxS := by
 intro value slice pins s σ H x y v u Q I rx ry h hs
 obtain ⟨z, i, c, rfl, rfl, hz, he, q⟩ := h
 obtain ⟨t, rfl⟩ := rx
 obtain ⟨t', rfl⟩ := ry
 obtain ⟨j, h1, h2, h3, h4, h5⟩ := atI_get he
 have hl : z.cps.toList.length = z.length := by simp [Str.length]
 rw [hl] at h1 h4 h5
 have hn := line63
 exact tail_any (typeIs_str s z t) slot_str_getitem.lookup (getItem_str (c := c) (by
  have e1 : decide (i < -(2 ^ 63 : Int)) = false := decide_eq_false (by omega)
  have e2 : decide (i ≥ 2 ^ 63) = false := decide_eq_false (by omega)
  rw [e1, e2, Bool.or_false]) (by rw [h1]; simpa using h2) ⟨.str ⟨#[c]⟩, H, I.tok _, ⟨_, rfl⟩, q⟩) hs
theorem slice_bounds (lo hi : Option Int) (n : Nat) : (sliceBounds lo hi none n).1 = ((HT.sIx n 0 lo : Nat) : Int) ∧ (sliceBounds lo hi none n).2.1 = ((HT.sIx n n hi : Nat) : Int) ∧ (sliceBounds lo hi none n).2.2 = 1 := by
 refine ⟨?_, ?_, rfl⟩
 · cases lo with
   | none => simp [sliceBounds, HT.sIx]
   | some i =>
    simp only [sliceBounds, HT.sIx, Option.getD_none, show (1 : Int) > 0 by decide, if_true]
    by_cases h : i < 0
    · simp only [h, if_true] <;> omega
    · simp only [h, if_false] <;> omega
 · cases hi with
   | none => simp [sliceBounds, HT.sIx]
   | some i =>
    simp only [sliceBounds, HT.sIx, Option.getD_none, show (1 : Int) > 0 by decide, if_true]
    by_cases h : i < 0
    · simp only [h, if_true] <;> omega
    · simp only [h, if_false] <;> omega
theorem slicePick_cut (its : List Value) (lo hi : Option Int) : slicePick its.toArray lo hi none = ((its.drop (HT.sIx its.length 0 lo)).take (HT.sIx its.length its.length hi - HT.sIx its.length 0 lo)).toArray := by
 obtain ⟨h1, h2, h3⟩ := slice_bounds lo hi its.toArray.size
 unfold slicePick
 rw [h1, h2, h3]
 simp only [sliceRange_one, pick_run, List.size_toArray] <;> rfl
def rSlL (K : PySem.W.Frag) : V -> Option Int -> Option Int -> Hp -> VK -> Prop := fun x lo hi H Q => ∃ a xs, x = .ref a ∧ SqL K H a xs ∧ ∀ p, H p = none -> Q (.ref p) (upd H p (.lst (cutV xs lo hi)))
theorem sl_list : SlR X (rSlL X.K) := by
 intro pins s σ H x v vl vu lo hi sl Q I rx hs pl pu h
 obtain ⟨a, xs, rfl, hx, q⟩ := h
 cases rx
 obtain ⟨its, r, ht, hz⟩ := I.list hx
 have hlen := r.length
 refine ⟨"list", _, slot_list_getitem.lookup, ht.isList.typeIs, ?_⟩
 refine wpAny_getItem_list_slice ht.isList hs pl pu .none (by simp) ?_ (by rw [List.size_toArray] <;> omega)
 rw [slicePick_cut, <- hlen]
 refine ⟨.ref s.heap.objs.size, _, I.laid (t' := s.toks) (o := .lst (cutV xs lo hi)) (fun b ob q => Heap.get?_push_of_some _ q) (Nat.le_refl _) ?_, rfl, q _ (I.hok.fresh (Nat.le_refl _))⟩
 exact ⟨Nat.le_trans (cutV_length xs lo hi) hz, _, 0, (r.drop (HT.sIx xs.length 0 lo)).take (HT.sIx xs.length xs.length hi - HT.sIx xs.length 0 lo), Heap.get?_push_size _ rfl⟩
def flatV : V -> Bool
 | .non => true
 | .bl _ => true
 | .int _ => true
 | .str _ => true
 | _ => false
theorem call_len_seq : CallR X (.builtin "len") (fun xs H Q => ∃ p ys, xs = [.ref p] ∧ (SqL X.K H p ys ∨ SqT X.K H p ys) ∧ Q (.int ys.length) H) := by
 intro pins s σ H xs us Q I r h
 obtain ⟨p, ys, rfl, hq, q⟩ := h
 obtain ⟨u, rfl, rx⟩ := vals1 r
 cases rx
 have hn := line63
 rcases hq with hq | hq
 · obtain ⟨its, r', pl, hz⟩ := I.list hq
   have hlen := r'.length
   exact Calls.call_len_list pl.isList (by simp only [List.size_toArray] <;> omega) ⟨.int ys.length, H, I.tok _, ⟨s.toks + 1, by rw [List.size_toArray, hlen]⟩, q⟩
 · obtain ⟨its, r', pl, hz⟩ := I.tuple hq
   have hlen := r'.length
   exact len_tuple pl (by simp only [List.size_toArray] <;> omega) ⟨.int ys.length, H, I.tok _, ⟨s.toks + 1, by rw [List.size_toArray, hlen]⟩, q⟩
theorem call_list_of : CallR X (.type "list") (fun xs H Q => ∃ p ys, xs = [.ref p] ∧ (SqL X.K H p ys ∨ SqT X.K H p ys) ∧ ∀ l, H l = none -> Q (.ref l) (upd H l (.lst ys))) := by
 intro pins s σ H xs us Q I r h
 obtain ⟨p, ys, rfl, hq, q⟩ := h
 obtain ⟨u, rfl, rx⟩ := vals1 r
 cases rx
 have fin : ∀ (its : List Value), Vals ys its -> ys.length <= sizeLine -> ∀ (h' : Heap) (c' : Nat), (∀ b o', s.heap.get? b = some o' -> h'.get? b = some o') ->
  h'.get? s.heap.objs.size = some { cls := .type "list", dict := none, data := .seq its.toArray c', slots := #[] } -> EP X pins σ Q (.ref s.heap.objs.size) { s with heap := h' } := fun its r' hz h' c' kp e =>
  ⟨.ref s.heap.objs.size, _, I.laid (t' := s.toks) kp (Nat.le_refl _) (show ObjOk X.prog X.w _ h' _ (.lst ys) from ⟨hz, its, c', r', e⟩), rfl, q _ (I.hok.fresh (Nat.le_refl _))⟩
 rcases hq with hq | hq
 · obtain ⟨its, r', pl, hz⟩ := I.list hq
   have hlen := r'.length
   obtain ⟨o, ho, hc, n, hd⟩ := pl.isList
   exact call_list_seq p (.inl rfl) ho hc hd (fun h' c' kp e => fin its r' hz h' c' kp e) (by simp only [List.size_toArray] <;> omega)
 · obtain ⟨its, r', pl, hz⟩ := I.tuple hq
   have hlen := r'.length
   obtain ⟨o, ho, hc, n, hd⟩ := pl
   exact call_list_seq p (.inr rfl) ho hc hd (fun h' c' kp e => fin its r' hz h' c' kp e) (by simp only [List.size_toArray] <;> omega)
def tyV (K : PySem.W.Frag) (T : String) (x : V) (H : Hp) : Prop := match x with
 | .str _ => T = "str"
 | .int _ => T = "int"
 | .ref p => (T = "list" ∧ ∃ xs, SqL K H p xs) ∨ (T = "tuple" ∧ ∃ o, K.lookup p = some o ∧ o.cls = .type "tuple" ∧ o.dict = none) ∨
  (T = "dict" ∧ ((∃ kvs, H p = some (.dK kvs)) ∨ ∃ kvs, H p = some (.dT kvs))) ∨ (T = "set" ∧ ∃ S n, H p = some (.set S n))
 | _ => False
theorem tyV_is {pins : List (Addr × Obj)} {σ : St} {H : Hp} {s : Shared} {T : String} {x : V} {v : Value} (I : Inv X pins σ H s) (r : RelV x v) (ty : tyV X.K T x H) :
 s.TypeIs v T ∧ ∀ a, v = .ref a -> ∃ ob, s.heap.get? a = some ob ∧ ob.dict = none := by
 cases x with
 | str z =>
  obtain ⟨t, rfl⟩ := r
  cases (show T = "str" from ty)
  exact ⟨typeIs_str s z t, fun _ e => nomatch e⟩
 | int i =>
  obtain ⟨t, rfl⟩ := r
  cases (show T = "int" from ty)
  exact ⟨typeIs_int s i t, fun _ e => nomatch e⟩
 | ref p =>
  cases r
  rcases ty with ⟨rfl, xs, hq⟩ | ⟨rfl, o, hk, hc, hd⟩ | ⟨rfl, hk⟩ | ⟨rfl, S, n, hk⟩
  · obtain ⟨its, _, pl, _⟩ := I.list hq
    refine ⟨pl.isList.typeIs, fun a e => ?_⟩
    cases e
    obtain ⟨o, n, e, c, hd, _⟩ := pl
    exact ⟨o, e, hd⟩
  · refine ⟨⟨o, I.kIn p o hk, hc⟩, fun a e => ?_⟩
    cases e
    exact ⟨o, I.kIn _ o hk, hd⟩
  · have z : ∃ o, s.heap.get? p = some o ∧ o.ExactDict := by
     rcases hk with ⟨kvs, hk⟩ | ⟨kvs, hk⟩
     · obtain ⟨_, _, _, _, o, _, _, e, ex, _⟩ := I.hok p _ hk
       exact ⟨o, e, ex⟩
     · obtain ⟨_, _, _, _, o, _, _, e, ex, _⟩ := I.hok p _ hk
       exact ⟨o, e, ex⟩
    obtain ⟨o, e, ex⟩ := z
    refine ⟨⟨o, e, ex.1⟩, fun a e2 => ?_⟩
    cases e2
    exact ⟨o, e, ex.2.1⟩
  · obtain ⟨o, _, _, _, e, ex, _⟩ := I.hok p _ hk
    refine ⟨⟨o, e, ex.1⟩, fun a e2 => ?_⟩
    cases e2
    exact ⟨o, e, ex.2.1⟩
 | _ => exact False.elim ty
def tBM0 (K : PySem.W.Frag) (T : String) (r : V -> List V -> Hp -> VK -> Prop) (to : TE) : TE := fun σ H Q => to σ H fun x H1 => tyV K T x H1 ∧ r x [] H1 Q
def tBM (K : PySem.W.Frag) (T : String) (r : V -> List V -> Hp -> VK -> Prop) (to : TE) (t : TA) : TE := fun σ H Q => to σ H fun x H1 => tyV K T x H1 ∧ t σ H1 fun xs H2 => r x xs H2 Q
variable {o e : Expr} {es : List Expr} {to : TE} {t : TA} {name : Str} {apos cpos : Pos} {T id : String} {r : V -> List V -> Hp -> VK -> Prop}
theorem pe_bm0 (pa : PlainAttrs T) (slot : Slot T name id) (hty : typeOf (.builtin id) = pure (.type "method_descriptor")) (hm : MtR X id r) (ho : PE X o to)
 (hbase : attributeBase o name X.env (eval o X.env) = eval o X.env := by rfl) (hline : (apos.endLine == cpos.line) = true := by rfl) : PE X (.Call (.Attribute o name apos) [] [] cpos) (tBM0 X.K T r to) := by
 intro pins s σ H Q I h
 refine wpAny_Call_method0_late hbase hline (thn (ho pins s σ H _ I h) fun v s1 ⟨x, H1, I1, r1, ty, q1⟩ => ?_)
 obtain ⟨h1, h2⟩ := tyV_is I1 r1 ty
 exact ⟨T, id, pa, slot, hty, h1, h2, Calls.callWith_builtin rfl (PySem.evalArgs_none (hm pins s1 σ H1 x [] v [] Q I1 r1 .nil q1))⟩
theorem pe_bm (pa : PlainAttrs T) (slot : Slot T name id) (hty : typeOf (.builtin id) = pure (.type "method_descriptor")) (hm : MtR X id r) (ho : PE X o to) (ha : PA X (e :: es) t)
 (hbase : attributeBase o name X.env (eval o X.env) = eval o X.env := by rfl)
 (hfew : ((backTo cpos (starEach (e :: es) X.env)).all (fun x => !x.1) && (backToKw cpos (keywordEach [] X.env)).all (fun x => x.1.isSome)
  && decide ((e :: es).length + ([] : List Keyword).length + (if ([] : List Keyword).isEmpty then 0 else 1) < 30)) = true := by rfl)
 (hline : (apos.endLine == cpos.line) = true := by rfl) (hs : starEach (e :: es) X.env = (false, eval e X.env) :: starEach es X.env := by rfl) (hplain : (backTo cpos (starEach es X.env)).any (·.1) = false := by rfl) :
 PE X (.Call (.Attribute o name apos) (e :: es) [] cpos) (tBM X.K T r to t) := by
 intro pins s σ H Q I h
 refine wpAny_Call_method_late hbase hfew hline rfl (thn (ho pins s σ H _ I h) fun v s1 ⟨x, H1, I1, r1, ty, q1⟩ => ?_)
 obtain ⟨h1, h2⟩ := tyV_is I1 r1 ty
 refine ⟨T, id, pa, slot, hty, h1, h2, ?_⟩
 have hA := ha cpos pins s1 σ H1 _ I1 q1
 rw [hs] at hA ⊢
 refine Calls.callWith_builtin (by show (false || (backTo cpos (starEach es X.env)).any (·.1)) = false; rw [hplain] <;> rfl) (Calls.evalArgs_plain ?_)
 exact thn hA fun us s2 ⟨vs, H2, I2, r2, q2⟩ => hm pins s2 σ H2 x vs v us Q I2 r1 r2 q2
end
end L2
namespace L2
open PySem PySem.Spec PyProof.Rows
def MtM (X : Cx) (id : String) (r : V -> List V -> Hp -> VK -> Prop) : Prop :=
 ∀ (pins : List (Addr × Obj)) (s : Shared) (σ : St) (H : Hp) (x : V) (xs : List V) (v : Value) (us : List Value) (Q : VK), Inv X pins σ H s -> RelV x v -> Vals xs us -> r x xs H Q ->
  wpAny (model X.prog X.w) X.A (call (.builtin id) (v :: us)) (EP X pins σ Q) X.xe s
theorem Vals.one : ∀ {x : V} {us : List Value}, Vals [x] us -> ∃ u, us = [u] ∧ RelV x u
 | _, _, .cons r .nil => ⟨_, rfl, r⟩
theorem Vals.zero : ∀ {us : List Value}, Vals [] us -> us = []
 | _, .nil => rfl
section
variable {X : Cx} {pins : List (Addr × Obj)} {σ : St} {H : Hp} {s : Shared} {l b : Addr} {xs ys zs : List V}
theorem Inv.lset {its its' : List Value} {n : Nat} {f : Array Value -> Array Value} {t' : Nat} (I : Inv X pins σ H s) (hH : H l = some (.lst xs))
 (e : s.heap.get? l = some { cls := .type "list", data := .seq its.toArray n }) (hf : f its.toArray = its'.toArray) (hv : Vals ys its') (hz : ys.length <= sizeLine) :
 Inv X pins σ (upd H l (.lst ys)) { s with heap := s.heap.update l (Obj.mapSeq f), toks := t' } := by
 have q := PySem.IsL.update e f
 rw [hf] at q
 refine I.write (x := l) (e := l) (by rw [hH]; exact trivial) (.inl rfl) (fun b' u hb hu => (Heap.get?_update_other s.heap (Obj.mapSeq f) (Ne.symm hb)).trans hu) ⟨_, q⟩ ?_
 exact ⟨hz, its', _, hv, q⟩
theorem Inv.lnew {its : List Value} {t' : Nat} (I : Inv X pins σ H s) (hv : Vals ys its) (hz : ys.length <= sizeLine) :
 Inv X pins σ (upd H s.heap.objs.size (.lst ys)) { s with heap := s.heap.push { cls := .type "list", data := .seq its.toArray }, toks := t' } :=
 I.laid (fun _ _ q => Heap.get?_push_of_some _ q) (Nat.le_refl _) ⟨hz, its, 0, hv, Heap.get?_push_size _ rfl⟩
theorem Inv.fresh (I : Inv X pins σ H s) : H s.heap.objs.size = none := I.hok.fresh (Nat.le_refl _)
theorem Inv.lstM (I : Inv X pins σ H s) (hH : H l = some (.lst xs)) : xs.length <= sizeLine ∧ ∃ (its : List Value) (n : Nat), Vals xs its ∧ xs.length = its.length ∧ s.heap.get? l = some { cls := .type "list", data := .seq its.toArray n } := by
 obtain ⟨z, its, n, r, e⟩ := I.hok l _ hH
 exact ⟨z, its, n, r, r.length, e⟩
end
section
variable {X : Cx}
def rAppend : V -> List V -> Hp -> VK -> Prop := fun x vs H Q => ∃ l xs y, x = .ref l ∧ vs = [y] ∧ H l = some (.lst xs) ∧ xs.length < sizeLine ∧ Q .non (upd H l (.lst (xs ++ [y])))
theorem mt_append : MtM X "list.append" rAppend := by
 intro pins s σ H x vs v us Q I rx rv h
 obtain ⟨l, xs, y, rfl, rfl, hH, hz, q⟩ := h
 cases rx
 obtain ⟨u, rfl, ru⟩ := rv.one
 obtain ⟨z, its, n, r, hl, e⟩ := I.lstM hH
 refine call_meets F.slot_list_append ⟨_, e, rfl⟩ F.entry_list_append (F.args_list_append_2 _ _) (PySem.list_append l its.toArray n u (by rw [List.size_toArray]; omega)) ⟨e, ?_⟩
 refine ⟨.non, _, I.lset (its' := its ++ [u]) hH e (by simp) (r.append (.cons ru .nil)) ?_, rfl, q⟩
 rw [List.length_append, List.length_singleton]
 omega
def rPop : V -> List V -> Hp -> VK -> Prop := fun x vs H Q => ∃ l xs y, x = .ref l ∧ vs = [] ∧ H l = some (.lst xs) ∧ xs[xs.length - 1]? = some y ∧ Q y (upd H l (.lst xs.dropLast))
def rClear : V -> List V -> Hp -> VK -> Prop := fun x vs H Q => ∃ l xs, x = .ref l ∧ vs = [] ∧ H l = some (.lst xs) ∧ Q .non (upd H l (.lst []))
theorem mt_clear : MtM X "list.clear" rClear := by
 intro pins s σ H x vs v us Q I rx rv h
 obtain ⟨l, xs, rfl, rfl, hH, q⟩ := h
 cases rx
 have hus := rv.zero
 subst hus
 obtain ⟨z, its, n, r, hl, e⟩ := I.lstM hH
 refine call_meets F.slot_list_clear ⟨_, e, rfl⟩ F.entry_list_clear (F.args_list_clear_1 _) (AutoSeq1.list_clear_list_0 l its.toArray n (by rw [List.size_toArray]; omega)) ⟨e, ?_⟩
 exact ⟨.non, _, I.lset (its' := []) (ys := []) hH e rfl .nil (Nat.zero_le _), rfl, q⟩
end
end L2
namespace Att
open PySem PySem.W PySem.Calls PyProof.Rows
theorem ints_of_wellAll {P : Params} {h : Heap} : ∀ (ns : List Int) (vs : List Value), WellAll P h vs (ns.map WData.int) -> IntsAre vs ns := by
 intro ns
 induction ns with
 | nil =>
  intro vs w
  rw [List.map_nil] at w
  cases w
  exact .nil
 | cons n ns ih =>
  intro vs w
  rw [List.map_cons] at w
  cases w with
  | cons a b =>
   cases a
   exact .cons _ _ (ih _ b)
theorem script_of {l : OpenLaw} {n : Nat} (hn : l.most = some n) {P : Params} {h : Heap} {args : List WData} {vals : List Value}
 (hpre : l.row.toRowW.claim.pre args = true) (hwl : WellAll P h vals args) :
 ∃ a vs ns, vals = [Value.ref a] ∧ args = [WData.list (ns.map WData.int)] ∧ h.get? a = some { cls := .type "list", data := .seq vs.toArray } ∧ IntsAre vs ns ∧ ns.length <= n := by
 have hsh : WShape.hasAll [] args [.list .int] = true := (pre_splitW hpre).1
 have hc : l.pre.holds [] { args := args } = true := (pre_splitW hpre).2
 obtain ⟨d, r, rfl, h1, h2⟩ := hasAllW_cons hsh
 obtain rfl := hasAllW_nil h2
 obtain ⟨xs, rfl, h3⟩ := hasW_list h1
 obtain ⟨ns, rfl⟩ := items_int h3
 have hlen : ns.length <= n := by
  unfold OpenLaw.pre at hc
  have h4 : (WTm.not (.lt (.lit (.int (n : Int))) (.len (.arg 0)))).holds [] { args := [.list (ns.map .int)] } = true := by
   have h4 := (holds_andW hc).1
   rw [hn] at h4
   exact h4
  have h5 := condW_of h4 (w_not (w_lt w_lit (w_len_list (w_arg rfl))))
  rw [List.length_map] at h5
  refine Nat.le_of_not_lt fun q => ?_
  have q' : (n : Int) < ((ns.length : Nat) : Int) := by omega
  first
   | (rw [decide_eq_true q'] at h5; exact absurd h5 (by decide))
   | (simp at h5; omega)
 cases hwl with
 | cons w1 w2 =>
  cases w2
  cases w1 with
  | list ho hall => exact ⟨_, _, ns, rfl, rfl, ho, ints_of_wellAll ns _ hall, hlen⟩
theorem post_true (l : OpenLaw) (args : List WData) : l.row.toRowW.claim.post args (.bool true) args = true :=
 postW_of (r := l.row.toRowW) (X := (true == true))
  (show WShape.has [] (.bool true) .bool = true by first | rfl | decide | simp [WShape.has, WShape.arms, WShape.armsAll])
  (show (WTm.eq .res (.lit (.bool true))).value [] { args := args, res := some (.bool true), after := args } = some (.bool (true == true)) from w_eq_bool (w_res rfl) w_lit) rfl
theorem attach {l : OpenLaw} {n : Nat} {q : Program} {loose : List Str} {XP : (Str -> Option Value) -> Heap -> Prop} {YP : World -> Heap -> Prop} {d : DefRec} {x : Str}
 (hn : l.most = some n) (hdf : d.params.defaults = [])
 (hbind : ∀ pm cd doc v : Value, bindArgs (docDef d.name d.params d.body d.scope pm cd doc) ⟨[v], []⟩ = pure [(x, v)])
 (hx : d.scope.names.lookup x = some .local ∨ d.scope.names.lookup x = some .cell)
 (hk : d.scope.kind = .function) (hco : d.scope.isCoroutine = false) (hgen : d.scope.isGenerator = false)
 (body : ∀ (w : World) (s₀ s₁ s : Shared) (mg mb : Str -> Option Value) (fa : Addr) (o : Obj) (pm cd doc : Value) (a : Addr) (vs : List Value) (ns : List Int),
  Ground q loose [] XP w s₀ mg mb s₁.heap -> YP w s₁.heap ->
  s₁.heap.get? fa = some o -> o.data = .func (docDef d.name d.params d.body d.scope pm cd doc) -> s₁.heap.CodeRec cd d.name -> mg d.name = some (.ref fa) ->
  s₁.heap.get? a = some { cls := .type "list", data := .seq vs.toArray } -> IntsAre vs ns -> ns.length <= n ->
  s.gens = #[] -> s.os = s₁.os ->
  Fr s₁.heap s₁.heap.objs.size s.heap (bindL (envOfC d.name d.scope s₁.heap.objs.size fa cd).kindOf [(x, .ref a)] fun _ => none) ->
  Cl s₁.heap.objs.size (cellsFrom (s₁.heap.objs.size + 1) d.scope.names []) s.heap (bindC (envOfC d.name d.scope s₁.heap.objs.size fa cd).kindOf [(x, .ref a)] fun _ => none) ->
  wpAny (model l.prog w) (callerA.deeper (envOfC d.name d.scope s₁.heap.objs.size fa cd)) (execs d.body (envOfC d.name d.scope s₁.heap.objs.size fa cd))
   (fun f s' => f = .ret (.bool true) ∧ OldK s₁.heap s'.heap ∧ s'.os = s₁.os ∧ AllBare s'.gens) (fun _ _ => False) s) :
 WalkO q loose XP YP l.row.toRowW d [] (fun f vs => PySem.call f vs) := by
 intro w s₀ s₁ mg mb G Y fa o pm cd doc dV kV ho hd hcd hD hmg hg args vals as hpre hlay hrd hwl hlo
 obtain rfl : dV = .none := Dflts.none hD hdf
 obtain rfl : kV = .none := Dflts.noKw hD
 obtain ⟨a, vs, ns, rfl, rfl, hobj, hints, hlen⟩ := script_of hn hpre hwl
 refine enter_call ?_
 refine call_cells_ret (o := o) (by rw [depth_caller]; decide) ho (fd_plain hd) G.T.nolimit hcd (hbind pm cd doc (.ref a)) (fun y hy => ?_) (fun h₁ tk F X => ?_) hco hgen hk
 · obtain rfl : y = (x, Value.ref a) := List.mem_singleton.mp hy
   rcases hx with e | e
   · exact .inl e
   · exact .inr ⟨e, cellsFrom_some _ _ _ (.inl e)⟩
 · refine wpAny_mono (body w s₀ s₁ { s₁ with heap := h₁, toks := tk } mg mb fa o pm cd doc a vs ns G Y ho (fd_plain hd) hcd hmg hobj hints hlen hg rfl F X) (fun f s' hq => ?_) (fun _ _ hq => hq)
   obtain ⟨rfl, h2, h3, h4⟩ := hq
   exact ⟨.inl ⟨.bool true, .bool true, [], rfl, fun _ => rfl, .bool true, post_true l _, fun _ => ⟨List.Pairwise.nil, fun _ hm => (nomatch hm)⟩⟩, h2, h3, h4⟩
theorem attach_call {l : OpenLaw} {n : Nat} {q : Program} {loose : List Str} {XP : (Str -> Option Value) -> Heap -> Prop} {YP : World -> Heap -> Prop} {d : DefRec}
 (hn : l.most = some n) (hdf : d.params.defaults = [])
 (call : ∀ (w : World) (s₀ s₁ : Shared) (mg mb : Str -> Option Value) (fa : Addr) (o : Obj) (pm cd doc : Value) (a : Addr) (vs : List Value) (ns : List Int),
  Ground q loose [] XP w s₀ mg mb s₁.heap -> YP w s₁.heap ->
  s₁.heap.get? fa = some o -> o.data = .func (docDef d.name d.params d.body d.scope pm cd doc) -> s₁.heap.CodeRec cd d.name -> mg d.name = some (.ref fa) ->
  s₁.heap.get? a = some { cls := .type "list", data := .seq vs.toArray } -> IntsAre vs ns -> ns.length <= n -> s₁.gens = #[] ->
  codeAny (model l.prog w) callerA (.call (.ref fa) ⟨[.ref a], []⟩) (fun r s' => r = .ok (.ret (.bool true)) ∧ OldK s₁.heap s'.heap ∧ s'.os = s₁.os ∧ AllBare s'.gens) s₁) :
 WalkO q loose XP YP l.row.toRowW d [] (fun f vs => PySem.call f vs) := by
 intro w s₀ s₁ mg mb G Y fa o pm cd doc dV kV ho hd hcd hD hmg hg args vals as hpre hlay hrd hwl hlo
 obtain rfl : dV = .none := Dflts.none hD hdf
 obtain rfl : kV = .none := Dflts.noKw hD
 obtain ⟨a, vs, ns, rfl, rfl, hobj, hints, hlen⟩ := script_of hn hpre hwl
 refine enter_call (codeAny_mono (call w s₀ s₁ mg mb fa o pm cd doc a vs ns G Y ho (fd_plain hd) hcd hmg hobj hints hlen hg) fun r s' hq => ?_)
 obtain ⟨rfl, h2, h3, h4⟩ := hq
 exact ⟨.inl ⟨.bool true, .bool true, [], rfl, fun _ => rfl, .bool true, post_true l _, fun _ => ⟨List.Pairwise.nil, fun _ hm => (nomatch hm)⟩⟩, h2, h3, h4⟩
end Att
namespace L2
open PySem PySem.Spec PyProof.Rows
theorem vals_ints : ∀ {vs : List Value} {ns : List Int}, IntsAre vs ns -> Vals (ns.map V.int) vs
 | _, _, .nil => .nil
 | _, _, .cons n t h => .cons ⟨t, rfl⟩ (vals_ints h)
def Only (H : Hp) : Prop := ∀ b, H b = none ∨ ∃ o xs, H b = some (.frz o (.lst xs))
theorem law_call {P : Program} {w : World} {K : PySem.W.Frag} {mg mb : Str -> Option Value} {CX : CXT} {k : Nat} {fa a : Addr} {fd : FuncData} {x : Str} {sp : Sp} {s₁ : Shared} {vs : List Value} {ns : List Int}
 (KX : K.In s₁.heap) (hns : s₁.heap.Ns mainGlobals mg) (hb : s₁.heap.Ns builtinsNs mb) (hbb : ∀ x : Str, x ≠ "__name__" -> mb x = bootBuiltins x) (hlim : s₁.heap.NoLimit) (hg : s₁.gens = #[])
 (ha : s₁.heap.get? a = some { cls := .type "list", data := .seq vs.toArray }) (hi : IntsAre vs ns) (hl : ns.length <= sizeLine) (hr : Room k callerA)
 (F : ∀ base : Heap, K.In base -> base.Ns mainGlobals mg -> FnOk P w K mg base CX k fa fd [x] sp) (hbind : ∀ (s : Shared) (u : Value), BindsTo s fd ⟨[u], []⟩ [(x, u)])
 (hsp : ∀ H : Hp, Only H -> SqL K H a (ns.map V.int) -> sp [.ref a] H (fun v _ => v = .bl true) fun _ _ _ => False)
 (hCX : ∀ H e s', CX [] H s₁ (fun _ _ _ => False) e s' -> False) :
 codeAny (model P w) callerA (.call (.ref fa) ⟨[.ref a], []⟩) (fun r s' => r = .ok (.ret (.bool true)) ∧ OldK s₁.heap s'.heap ∧ s'.os = s₁.os ∧ AllBare s'.gens) s₁ := by
 have rv := vals_ints hi
 have lenV := hi.length
 -- from an abstract heap in which nothing but the script may be tracked
 have core : ∀ H : Hp, Only H -> SqL K H a (ns.map V.int) -> HOk P w H s₁.heap -> (∀ b, H b ≠ none -> b = a) -> (H a ≠ none -> K.lookup a = none) ->
  codeAny (model P w) callerA (.call (.ref fa) ⟨[.ref a], []⟩) (fun r s' => r = .ok (.ret (.bool true)) ∧ OldK s₁.heap s'.heap ∧ s'.os = s₁.os ∧ AllBare s'.gens) s₁ := by
  intro H hO hS hok hA hK
  have base_of : ∀ {b : Addr} {o : Obj}, s₁.heap.get? b = some o -> H b = none -> (hidT s₁.heap H).get? b = some o := fun e n => hidT_get e n
  have noA : ∀ {b : Addr} {o : Obj} {es : Array DictEntry} {ep : Nat}, s₁.heap.get? b = some o -> o.data = .dict es ep -> H b = none := fun {b o es ep} e d => by
   cases q : H b with
   | none => rfl
   | some u =>
    have e' : b = a := hA b (by rw [q]; simp)
    subst e'
    rw [ha] at e; cases e
    have d' : Data.seq vs.toArray _ = Data.dict es ep := d
    cases d'
  have nsK : ∀ {b : Addr} {m : Str -> Option Value}, s₁.heap.Ns b m -> (hidT s₁.heap H).Ns b m := fun {b m} ⟨o, es, ep, e, d, r⟩ => ⟨o, es, ep, base_of e (noA e d), d, r⟩
  have hKb : K.In (hidT s₁.heap H) := fun b o e => base_of (KX b o e) (by
   cases q : H b with
   | none => rfl
   | some u =>
    have e' : b = a := hA b (by rw [q]; simp)
    subst e'
    rw [hK (by rw [q]; simp)] at e; cases e)
  have hM : Mod K mg (hidT s₁.heap H) := ⟨hKb, nsK hns, ⟨mb, nsK hb, hbb⟩, let ⟨mc, h1, h2⟩ := hlim; ⟨mc, nsK h1, h2⟩⟩
  have e0 : Env0 P w K mg (hidT s₁.heap H) callerA [] s₁ H := ⟨rfl, hM, fun b o e => of_hidT e, Nat.le_of_eq (hidT_size _ _), trivial, fun b hb => absurd (show b ∈ ([] : List Addr) from hb) (by simp), hok, .of_eq hg⟩
  refine codeAny_mono ((F _ hKb (nsK hns)).run callerA [] s₁ H ⟨[.ref a], []⟩ [.ref a] [.ref a] _ _ hr e0 (hbind s₁ (.ref a)) (.cons rfl .nil) (hsp H hO hS)) fun r s' h => ?_
  cases r with
  | error e => exact (hCX H e s' h).elim
  | ok fl =>
   cases fl with
   | next => exact False.elim h
   | brk => exact False.elim h
   | cont => exact False.elim h
   | ret u =>
    obtain ⟨v, H', os, bare, un, hok', r', q⟩ := h
    have q' : v = .bl true := q
    subst q'
    obtain rfl : u = Value.bool true := r'
    refine ⟨rfl, OldK.of_keep fun b o e => ?_, os, bare⟩
    cases q : H b with
    | none => exact un.keep b o e q (by intro z; exact absurd (show b ∈ ([] : List Addr) from z) (by simp)) (by simp)
    | some u =>
     rcases hO b with z | ⟨ob, xs, z⟩
     · rw [q] at z; cases z
     · have z2 := un.frzs b ob _ z
       obtain ⟨e1, _⟩ := hok b _ z
       obtain ⟨e2, _⟩ := hok' b _ z2
       rw [e] at e1; cases e1
       exact e2
 cases hk : K.lookup a with
 | some o =>
  -- the script is one of the module's own objects
  have e := KX a o hk
  rw [ha] at e
  cases e
  refine core (fun _ => none) (fun _ => .inl rfl) (.inr ⟨_, vs.toArray, _, hk, rfl, rfl, rfl, by rw [List.size_toArray, lenV]; exact hl, by simpa using rv⟩) (fun b u z => by have z' : (none : Option HO) = some u := z; cases z') (fun b z => absurd rfl z) fun z => absurd rfl z
 | none =>
  refine core (fun b => if b = a then some (.frz { cls := .type "list", data := .seq vs.toArray } (.lst (ns.map V.int))) else none) (fun b => ?_) (.inl (.inr ⟨{ cls := .type "list", data := .seq vs.toArray }, if_pos rfl⟩)) (fun b u z => ?_) (fun b z => ?_) fun _ => hk
  · by_cases hb : b = a
    · exact .inr ⟨_, _, if_pos hb⟩
    · exact .inl (if_neg hb)
  · by_cases hb : b = a
    · have z' := (if_pos hb).symm.trans z
      cases z'
      subst hb
      exact ⟨ha, by rw [List.length_map]; exact hl, vs, _, rv, ha⟩
    · have z' := (if_neg hb).symm.trans z
      cases z'
  · by_cases hb : b = a
    · exact hb
    · exact absurd (if_neg hb) z
end L2
namespace L2
open PySem PySem.Spec PyProof.Rows
theorem walk_of {l : PySem.W.OpenLaw} {n k : Nat} {q : Program} {loose : List Str} {XP : (Str -> Option Value) -> Heap -> Prop} {YP : World -> Heap -> Prop} {d : DefRec} {K : Params -> PySem.W.Frag} {CX : World -> CXT} {sp : World -> Sp} {x : Str}
 (hn : l.most = some n) (hn2 : n <= sizeLine) (hdf : d.params.defaults = []) (hr : Room k callerA)
 (hY : ∀ (w : World) (h : Heap), YP w h -> (K w.params).In h)
 (F : ∀ (w : World) (mg : Str -> Option Value) (fa : Addr) (h : Heap), (K w.params).In h -> h.Ns mainGlobals mg -> mg d.name = some (.ref fa) ->
  ∃ fd : FuncData, (∀ (s : Shared) (u : Value), BindsTo s fd ⟨[u], []⟩ [(x, u)]) ∧
   ∀ base : Heap, (K w.params).In base -> base.Ns mainGlobals mg -> FnOk l.prog w (K w.params) mg base (CX w) k fa fd [x] (sp w))
 (hsp : ∀ (w : World) (H : Hp) (a : Addr) (ns : List Int), ns.length <= n -> Only H -> SqL (K w.params) H a (ns.map V.int) -> sp w [.ref a] H (fun v _ => v = .bl true) fun _ _ _ => False)
 (hCX : ∀ (w : World) (H : Hp) (s : Shared) (e : Value) (s' : Shared), CX w [] H s (fun _ _ _ => False) e s' -> False) :
 PySem.W.WalkO q loose XP YP l.row.toRowW d [] (fun f vs => PySem.call f vs) := by
 refine Att.attach_call hn hdf fun w s₀ s₁ mg mb fa o pm cd doc a vs ns G Y ho hd hcd hmg hobj hints hlen hg => ?_
 have KX := hY w _ Y
 obtain ⟨fd, hb, hF⟩ := F w mg fa _ KX G.T.g hmg
 exact law_call KX G.T.g G.T.b G.T.builtins G.T.nolimit hg hobj hints (Nat.le_trans hlen hn2) hr hF hb (fun H hO hS => hsp w H a ns hlen hO hS) fun H e s' => hCX w H s₁ e s'
end L2
namespace L2
open PySem PySem.Spec PyProof.Rows
def defArgs (s : Stmt) : Arguments := match s with
 | .FunctionDef _ a _ _ _ _ _ _ _ _ => a
 | _ => { posonlyargs := [], args := [], vararg := none, kwonlyargs := [], kw_defaults := [], kwarg := none, defaults := [] }
def defBody (s : Stmt) : List Stmt := match s with
 | .FunctionDef _ _ b _ _ _ _ _ _ _ => b
 | _ => []
def defScope (s : Stmt) : Scope := match s with
 | .FunctionDef _ _ _ _ _ _ sc _ _ _ => sc
 | _ => { kind := .function, names := [], isGenerator := false, isCoroutine := false }
abbrev CX0 : CXT := fun _ _ _ _ _ _ => False
abbrev E0 : XK := fun _ _ _ => False
theorem pass0 {X : Cx} : Passes CX0 X E0 := fun _ _ _ _ _ _ _ h => h.elim
structure Fun (K : PySem.W.Frag) (x qual : Str) (st : Stmt) (f : Addr) (fd : FuncData) : Prop where
 ex : ∃ (oc : Value) (od : Option Addr) (kV doc pm : Value) (an : Option Addr) (cdv ct : Value) (osl : Array (Option Value)),
  fd = PySem.W.fnOf x qual (defArgs st) (defBody st) (defScope st) .none kV doc pm an cdv ct ∧ K.lookup f = some ⟨oc, od, .func fd, osl⟩ ∧ PySem.W.codeIn K cdv qual = true
 kp : PySem.W.keepIn K (.ref f) = true
section
variable {P : Program} {w : World} {K : PySem.W.Frag} {mg : Str -> Option Value} {base : Heap}
theorem Fun.ok {x qual : Str} {st : Stmt} {f : Addr} {fd : FuncData} {N ps : List Str} {k : Nat} {sp : Sp} (F : Fun K x qual st f fd) (S : FnScope N ps (defScope st)) (len : ∀ vs H Q E, sp vs H Q E -> vs.length = ps.length)
 (hbody : ∀ (cdv : Value) (A : Around) (outer : List Env) (s : Shared) (H : Hp) (vs : List V) (Q : VK) (E : XK), Room k (A.deeper (envOfC qual (defScope st) s.heap.objs.size f cdv)) -> sp vs H Q E ->
  ∃ t, PSs (cxOf CX0 P w K mg base N qual (defScope st) f cdv A outer s H E).nox (defBody st) t ∧ t { nx := fun _ H' => Q .non H', rt := Q } (start N vs) H) : FnOk P w K mg base CX0 (k + 1) f fd ps sp := by
 obtain ⟨oc, od, kV, doc, pm, an, cdv, ct, osl, rfl, lk, hcd⟩ := F.ex
 refine fn_of lk hcd S len fun A outer s H vs Q E hr hsp => ?_
 obtain ⟨t, h, q⟩ := hbody cdv A outer s H vs Q E hr hsp
 exact ⟨t, h.nox, q⟩
theorem Fun.binds {x qual : Str} {st : Stmt} {f : Addr} {fd : FuncData} {ps : List Str} (F : Fun K x qual st f fd)
 (h : ∀ (kV doc pm : Value) (an : Option Addr) (cdv ct : Value) (us : List Value), us.length = ps.length -> bindArgs (PySem.W.fnOf x qual (defArgs st) (defBody st) (defScope st) .none kV doc pm an cdv ct) ⟨us, []⟩ = pure (ps.zip us)) : Binds K fd ps [] := by
 obtain ⟨oc, od, kV, doc, pm, an, cdv, ct, osl, rfl, lk, hcd⟩ := F.ex
 exact .all (h kV doc pm an cdv ct)
theorem fun_mk {x qual : Str} {st : Stmt} {f : Addr} {oc : Value} {od an : Option Addr} {osl : Array (Option Value)} {kV doc pm cdv ct : Value} (l : K.lookup f = some ⟨oc, od, .func (PySem.W.fnOf x qual (defArgs st) (defBody st) (defScope st) .none kV doc pm an cdv ct), osl⟩)
 (c : PySem.W.codeIn K cdv qual = true) (k : PySem.W.keepIn K (.ref f) = true) : Fun K x qual st f (PySem.W.fnOf x qual (defArgs st) (defBody st) (defScope st) .none kV doc pm an cdv ct) := ⟨⟨oc, od, kV, doc, pm, an, cdv, ct, osl, rfl, l, c⟩, k⟩
end
theorem small1000 {n : Nat} (h : n <= 1000) : n < sizeLine := Nat.lt_of_le_of_lt h (by decide)
theorem iteF {A B : Prop} (h : B) : if false = true then A else B := by
 rw [if_neg Bool.false_ne_true]
 exact h
theorem iteT {A B : Prop} (h : A) : if true = true then A else B := by
 rw [if_pos rfl]
 exact h
def Same (H H' : Hp) : Prop := ∀ b o, H b = some o -> H' b = some o
theorem Same.refl (H : Hp) : Same H H := fun _ _ h => h
theorem Same.trans {H H1 H2 : Hp} (a : Same H H1) (b : Same H1 H2) : Same H H2 := fun c o h => b c o (a c o h)
theorem Same.free {H H' : Hp} (e : Same H H') {l : Addr} (h : H' l = Option.none) : H l = Option.none := by
 cases q : H l with
 | none => rfl
 | some o =>
  rw [e l o q] at h
  cases h
theorem Same.seq {K : PySem.W.Frag} {H H' : Hp} {a : Addr} {xs : List V} (e : Same H H') (h : SqL K H a xs) : SqL K H' a xs := by
 rcases h with (h | ⟨o, h⟩) | h
 · exact .inl (.inl (e _ _ h))
 · exact .inl (.inr ⟨o, e _ _ h⟩)
 · exact .inr h
end L2
namespace L2
open PySem PySem.Spec PyProof.Rows
end L2
namespace L2
open PySem PySem.Spec PyProof.Rows
end L2
namespace L2
open PySem PySem.Spec PyProof.Rows
end L2
namespace L2
open PySem PySem.Spec PyProof.Rows
end L2
namespace L2
open PySem PySem.Spec PyProof.Rows
end L2
namespace L2
open PySem PySem.Spec PyProof.Rows
end L2
namespace L2
open PySem PySem.Spec PyProof.Rows
end L2
namespace L2
open PySem PySem.Spec PyProof.Rows
end L2
namespace L2
open PySem PySem.Spec PyProof.Rows
end L2
namespace L2
open PySem PySem.Spec PyProof.Rows
end L2
namespace L2
open PySem PySem.Spec PyProof.Rows
theorem kV_is {P : Program} {w : World} {k : Key} {u : Value} (r : RelV (kV k) u) : (mixKind P w).is k u = true := by
 cases k with
 | inl i => obtain ⟨t, e⟩ := (show ∃ t, u = Value.int i t from r); subst e; exact mixKind_int P w i t
 | inr x => obtain ⟨t, e⟩ := (show ∃ t, u = Value.str x t from r); subst e; exact mixKind_str P w x t
theorem kV_inj {a b : Key} (e : kV a = kV b) : a = b := by
 cases a with
 | inl i => cases b with
  | inl j => have e' : V.int i = V.int j := e; injection e' with e'; rw [e']
  | inr y => exact nomatch (show V.int i = V.str y from e)
 | inr x => cases b with
  | inl j => exact nomatch (show V.str x = V.int j from e)
  | inr y => have e' : V.str x = V.str y := e; injection e' with e'; rw [e']
theorem kVs_inj : ∀ {a b : List Key}, a.map kV = b.map kV -> a = b
 | [], [], _ => rfl
 | [], _ :: _, e => by simp at e
 | _ :: _, [], e => by simp at e
 | x :: xs, y :: ys, e => by
  rw [List.map_cons, List.map_cons] at e
  injection e with e1 e2
  rw [kV_inj e1, kVs_inj e2]
theorem items_are {P : Program} {w : World} : ∀ {ks : List Key} {us : List Value}, Vals (ks.map kV) us -> ItemsAre (mixKind P w) ks us
 | [], _, r => by rw [List.map_nil] at r; cases r; exact .nil
 | k :: ks, _, r => by
  rw [List.map_cons] at r
  cases r with
  | cons h t => exact .cons (kV_is h) (items_are t)
abbrev KT (H : Hp) : List (List Key × V) -> List (List Key × Addr × Value) -> Prop := Paired fun p q => p.1 = q.1 ∧ H q.2.1 = some (.tup (p.1.map kV)) ∧ RelV p.2 q.2.2
section
variable {P : Program} {w : World} {H : Hp} {h : Heap} {a : Addr}
theorem rd_of {u : HO} (ok : HOk P w H h) (e : Rd H a u) : ObjOk P w H h a u := e.ok ok
theorem dk_rd {kvs : List (Key × V)} (ok : HOk P w H h) (e : Rd H a (.dK kvs)) : kvs.length <= sizeLine ∧ (a == sysModules) = false ∧ ∃ vs, KV kvs vs ∧ h.DictOf (mixKind P w) a vs :=
 show ObjOk P w H h a (.dK kvs) from rd_of ok e
theorem dk_of {kvs : List (Key × V)} (ok : HOk P w H h) (e : H a = some (.dK kvs)) : kvs.length <= sizeLine ∧ (a == sysModules) = false ∧ ∃ vs, KV kvs vs ∧ h.DictOf (mixKind P w) a vs := dk_rd ok (.inl e)
theorem key_of {ks : List Key} (ok : HOk P w H h) (e : H a = some (.tup (ks.map kV))) : (tupleKind (mixKind P w)).is h ks a := by
 obtain ⟨_, its, r, o, h1, h2, n, h3⟩ := (show ObjOk P w H h a (.tup (ks.map kV)) from ok a _ e)
 exact ⟨o, its.toArray, n, h1, h2, h3, by simpa using items_are r⟩
theorem dt_rd {kvs : List (List Key × V)} (ok : HOk P w H h) (e : Rd H a (.dT kvs)) : kvs.length <= sizeLine ∧ (a == sysModules) = false ∧
 ∃ xs, KT H kvs xs ∧ h.DictOfH (tupleKind (mixKind P w)) a xs := by
 obtain ⟨z, y, xs, r, o, es, ep, h1, h2, h3, h4, h5⟩ := (show ObjOk P w H h a (.dT kvs) from rd_of ok e)
 refine ⟨z, y, xs, r, o, es, ep, h1, h2, h3, h4, fun x hx => ?_, h5⟩
 have all : ∀ {l : List (List Key × V)} {m : List (List Key × Addr × Value)}, KT H l m -> ∀ x ∈ m, (tupleKind (mixKind P w)).is h x.1 x.2.1 := by
  intro l m q
  induction q with
  | nil => intro x hx; exact nomatch hx
  | @cons p q ps qs hq t ih =>
   intro x hx
   rcases List.mem_cons.mp hx with e | hx
   · subst e
     exact key_of ok (by rw [<- hq.1]; exact hq.2.1)
   · exact ih x hx
 exact all r x hx
theorem dt_of {kvs : List (List Key × V)} (ok : HOk P w H h) (e : H a = some (.dT kvs)) : kvs.length <= sizeLine ∧ (a == sysModules) = false ∧
 ∃ xs, KT H kvs xs ∧ h.DictOfH (tupleKind (mixKind P w)) a xs := dt_rd ok (.inl e)
end
end L2
namespace Att
open PySem PySem.W PySem.Calls PyProof.Rows
end Att
namespace L2
open PySem PySem.Spec PyProof.Rows
end L2
namespace L2
open PySem PySem.Spec PyProof.Rows
end L2
namespace L2
open PySem PySem.Spec PyProof.Rows
end L2
namespace Y.DEq
open PySem PySem.SeqAt PySem.MeetsSeq PySem.AutoSeq1
abbrev dob (dd : Option Addr) (es : Array DictEntry) (n : Nat) (sl : Array (Option Value)) : Obj := ⟨.type "dict", dd, .dict es n, sl⟩
abbrev lob (T : String) (dd : Option Addr) (xs : Array Value) (n : Nat) (sl : Array (Option Value)) : Obj := ⟨.type T, dd, .seq xs n, sl⟩
section
variable (l b : Addr) (es : Array DictEntry) (xs : Array Value) (n m : Nat) (dd de : Option Addr) (sl sm : Array (Option Value)) (q : Bool) (i : Int) (z : Str) (t : Tok)
theorem dict_none : Meets (Builtin.«dict.__eq__» ⟨[.ref l, .none], []⟩) (fun _ R s => s.heap.get? l = some (dob dd es n sl) ∧ R (.ok (.ret .notImplemented)) s) :=
 .of_wp fun prog w A R s h => by
  obtain ⟨hp, g, d, tk, os⟩ := s
  obtain ⟨hl, h⟩ := h
  have f1 := F.sub_NoneType_dict
  wp_walk using wpAny_loadPart' hl
  exact ⟨_, rfl, h⟩
theorem dict_bool : Meets (Builtin.«dict.__eq__» ⟨[.ref l, .bool q], []⟩) (fun _ R s => s.heap.get? l = some (dob dd es n sl) ∧ R (.ok (.ret .notImplemented)) s) :=
 .of_wp fun prog w A R s h => by
  obtain ⟨hp, g, d, tk, os⟩ := s
  obtain ⟨hl, h⟩ := h
  have f1 := F.sub_bool_dict
  wp_walk using wpAny_loadPart' hl
  exact ⟨_, rfl, h⟩
theorem dict_int : Meets (Builtin.«dict.__eq__» ⟨[.ref l, .int i t], []⟩) (fun _ R s => s.heap.get? l = some (dob dd es n sl) ∧ R (.ok (.ret .notImplemented)) s) :=
 .of_wp fun prog w A R s h => by
  obtain ⟨hp, g, d, tk, os⟩ := s
  obtain ⟨hl, h⟩ := h
  have f1 := F.sub_int_dict
  wp_walk using wpAny_loadPart' hl
  exact ⟨_, rfl, h⟩
theorem dict_str : Meets (Builtin.«dict.__eq__» ⟨[.ref l, .str z t], []⟩) (fun _ R s => s.heap.get? l = some (dob dd es n sl) ∧ R (.ok (.ret .notImplemented)) s) :=
 .of_wp fun prog w A R s h => by
  obtain ⟨hp, g, d, tk, os⟩ := s
  obtain ⟨hl, h⟩ := h
  have f1 := F.sub_str_dict
  wp_walk using wpAny_loadPart' hl
  exact ⟨_, rfl, h⟩
theorem dict_list : Meets (Builtin.«dict.__eq__» ⟨[.ref l, .ref b], []⟩) (fun _ R s => s.heap.get? l = some (dob dd es n sl) ∧ s.heap.get? b = some (lob "list" de xs m sm) ∧ R (.ok (.ret .notImplemented)) s) :=
 .of_wp fun prog w A R s h => by
  obtain ⟨hp, g, d, tk, os⟩ := s
  obtain ⟨hl, hb, h⟩ := h
  have f1 := F.sub_list_dict
  wp_walk using wpAny_loadPart' hl, wpAny_loadPart' hb
  exact ⟨_, rfl, h⟩
theorem list_dict : Meets (Builtin.«list.__eq__» ⟨[.ref b, .ref l], []⟩) (fun _ R s => s.heap.get? l = some (dob dd es n sl) ∧ s.heap.get? b = some (lob "list" de xs m sm) ∧ R (.ok (.ret .notImplemented)) s) :=
 .of_wp fun prog w A R s h => by
  obtain ⟨hp, g, d, tk, os⟩ := s
  obtain ⟨hl, hb, h⟩ := h
  have f1 := F.sub_dict_list
  wp_walk using wpAny_loadPart' hl, wpAny_loadPart' hb
  exact ⟨_, rfl, h⟩
theorem dict_tuple : Meets (Builtin.«dict.__eq__» ⟨[.ref l, .ref b], []⟩) (fun _ R s => s.heap.get? l = some (dob dd es n sl) ∧ s.heap.get? b = some (lob "tuple" de xs m sm) ∧ R (.ok (.ret .notImplemented)) s) :=
 .of_wp fun prog w A R s h => by
  obtain ⟨hp, g, d, tk, os⟩ := s
  obtain ⟨hl, hb, h⟩ := h
  have f1 := F.sub_tuple_dict
  wp_walk using wpAny_loadPart' hl, wpAny_loadPart' hb
  exact ⟨_, rfl, h⟩
theorem tuple_dict : Meets (Builtin.«tuple.__eq__» ⟨[.ref b, .ref l], []⟩) (fun _ R s => s.heap.get? l = some (dob dd es n sl) ∧ s.heap.get? b = some (lob "tuple" de xs m sm) ∧ R (.ok (.ret .notImplemented)) s) :=
 .of_wp fun prog w A R s h => by
  obtain ⟨hp, g, d, tk, os⟩ := s
  obtain ⟨hl, hb, h⟩ := h
  have f1 := F.sub_dict_tuple
  wp_walk using wpAny_loadPart' hl, wpAny_loadPart' hb
  exact ⟨_, rfl, h⟩
theorem bool_dict : Meets (Builtin.«int.__eq__» ⟨[.bool q, .ref l], []⟩) (fun _ R s => s.heap.get? l = some (dob dd es n sl) ∧ R (.ok (.ret .notImplemented)) s) :=
 .of_wp fun prog w A R s h => by
  obtain ⟨hp, g, d, tk, os⟩ := s
  obtain ⟨hl, h⟩ := h
  wp_walk using wpAny_loadPart' hl, wpAny_load hl
  exact ⟨_, rfl, h⟩
theorem int_dict : Meets (Builtin.«int.__eq__» ⟨[.int i t, .ref l], []⟩) (fun _ R s => s.heap.get? l = some (dob dd es n sl) ∧ R (.ok (.ret .notImplemented)) s) :=
 .of_wp fun prog w A R s h => by
  obtain ⟨hp, g, d, tk, os⟩ := s
  obtain ⟨hl, h⟩ := h
  wp_walk using wpAny_loadPart' hl, wpAny_load hl
  exact ⟨_, rfl, h⟩
theorem str_dict : Meets (Builtin.«str.__eq__» ⟨[.str z t, .ref l], []⟩) (fun _ R s => s.heap.get? l = some (dob dd es n sl) ∧ R (.ok (.ret .notImplemented)) s) :=
 .of_wp fun prog w A R s h => by
  obtain ⟨hp, g, d, tk, os⟩ := s
  obtain ⟨hl, h⟩ := h
  wp_walk using wpAny_loadPart' hl, wpAny_load hl
  exact ⟨_, rfl, h⟩
end
def IsDct (h : Heap) (a : Addr) : Prop := ∃ dd es n sl, h.get? a = some (dob dd es n sl)
section
variable {A : Around} {s : Shared} {l b : Addr}
theorem rc_none  (hl : IsDct s.heap l) (hu : A.units < cLine) : RcAt A s (.none) (.ref l) false := fun prog w E Q h => by
 obtain ⟨dd, es, n, sl, ho⟩ := hl
 refine rc_eq_decline_or (k := false) (Ta := "NoneType") (rfl) ⟨_, ho, rfl⟩ (by decide) F.sub_dict_NoneType F.slot_NoneType_eq F.slot_dict_eq_refl (fun _ hq => ?_) (fun _ hq => ?_) (fun _ hq => wpAny_of_eq (rfl : isSame (.none) (.ref l) = pure false) hq) (.inr hu) h
 · exact call_gives F.slot_NoneType_eq rfl F.entry_NoneType_eq (F.args_NoneType_eq_2 _ _) (NoneType___eq___none_ref_0 l) hq
 · exact call_meets F.slot_dict_eq_refl ⟨_, ho, rfl⟩ F.entry_dict_eq (F.args_dict_eq_2 _ _) (dict_none l es n dd sl) ⟨ho, hq⟩
theorem at_none  (hl : IsDct s.heap l) (hu : A.units < cLine) : EqAt A s (.none) (.ref l) false := fun prog w E Q h => by
 unfold eqBool
 refine wpAny_holding (wpAny_ite_split (fun hab => absurd (eq_of_beq hab) nofun) fun _ => ?_)
 exact wpAny_bind (rc_none  hl hu prog w E _ (wpAny_truthy_bool h))
theorem rc_bool (q : Bool) (hl : IsDct s.heap l) (hu : A.units < cLine) : RcAt A s (.bool q) (.ref l) false := fun prog w E Q h => by
 obtain ⟨dd, es, n, sl, ho⟩ := hl
 refine rc_eq_decline_or (k := false) (Ta := "bool") (rfl) ⟨_, ho, rfl⟩ (by decide) F.sub_dict_bool F.slot_bool_eq F.slot_dict_eq_refl (fun _ hq => ?_) (fun _ hq => ?_) (fun _ hq => wpAny_of_eq (rfl : isSame (.bool q) (.ref l) = pure false) hq) (.inr hu) h
 · exact call_meets F.slot_bool_eq rfl F.entry_int_eq (F.args_int_eq_2 _ _) (bool_dict l es n dd sl q) ⟨ho, hq⟩
 · exact call_meets F.slot_dict_eq_refl ⟨_, ho, rfl⟩ F.entry_dict_eq (F.args_dict_eq_2 _ _) (dict_bool l es n dd sl q) ⟨ho, hq⟩
theorem at_bool (q : Bool) (hl : IsDct s.heap l) (hu : A.units < cLine) : EqAt A s (.bool q) (.ref l) false := fun prog w E Q h => by
 unfold eqBool
 refine wpAny_holding (wpAny_ite_split (fun hab => absurd (eq_of_beq hab) nofun) fun _ => ?_)
 exact wpAny_bind (rc_bool q hl hu prog w E _ (wpAny_truthy_bool h))
theorem rc_int (i : Int) (t : Tok) (hl : IsDct s.heap l) (hu : A.units < cLine) : RcAt A s (.int i t) (.ref l) false := fun prog w E Q h => by
 obtain ⟨dd, es, n, sl, ho⟩ := hl
 refine rc_eq_decline_or (k := false) (Ta := "int") (typeIs_int s i t) ⟨_, ho, rfl⟩ (by decide) F.sub_dict_int F.slot_int_eq F.slot_dict_eq_refl (fun _ hq => ?_) (fun _ hq => ?_) (fun _ hq => wpAny_of_eq (rfl : isSame (.int i t) (.ref l) = pure false) hq) (.inr hu) h
 · exact call_meets F.slot_int_eq (typeIs_int s i t) F.entry_int_eq (F.args_int_eq_2 _ _) (int_dict l es n dd sl i t) ⟨ho, hq⟩
 · exact call_meets F.slot_dict_eq_refl ⟨_, ho, rfl⟩ F.entry_dict_eq (F.args_dict_eq_2 _ _) (dict_int l es n dd sl i t) ⟨ho, hq⟩
theorem at_int (i : Int) (t : Tok) (hl : IsDct s.heap l) (hu : A.units < cLine) : EqAt A s (.int i t) (.ref l) false := fun prog w E Q h => by
 unfold eqBool
 refine wpAny_holding (wpAny_ite_split (fun hab => absurd (eq_of_beq hab) nofun) fun _ => ?_)
 exact wpAny_bind (rc_int i t hl hu prog w E _ (wpAny_truthy_bool h))
theorem rc_str (z : Str) (t : Tok) (hl : IsDct s.heap l) (hu : A.units < cLine) : RcAt A s (.str z t) (.ref l) false := fun prog w E Q h => by
 obtain ⟨dd, es, n, sl, ho⟩ := hl
 refine rc_eq_decline_or (k := false) (Ta := "str") (typeIs_str s z t) ⟨_, ho, rfl⟩ (by decide) F.sub_dict_str F.slot_str_eq F.slot_dict_eq_refl (fun _ hq => ?_) (fun _ hq => ?_) (fun _ hq => wpAny_of_eq (rfl : isSame (.str z t) (.ref l) = pure false) hq) (.inr hu) h
 · exact call_meets F.slot_str_eq (typeIs_str s z t) F.entry_str_eq (F.args_str_eq_2 _ _) (str_dict l es n dd sl z t) ⟨ho, hq⟩
 · exact call_meets F.slot_dict_eq_refl ⟨_, ho, rfl⟩ F.entry_dict_eq (F.args_dict_eq_2 _ _) (dict_str l es n dd sl z t) ⟨ho, hq⟩
theorem at_str (z : Str) (t : Tok) (hl : IsDct s.heap l) (hu : A.units < cLine) : EqAt A s (.str z t) (.ref l) false := fun prog w E Q h => by
 unfold eqBool
 refine wpAny_holding (wpAny_ite_split (fun hab => absurd (eq_of_beq hab) nofun) fun _ => ?_)
 exact wpAny_bind (rc_str z t hl hu prog w E _ (wpAny_truthy_bool h))
theorem ne_list {xs : Array Value} (hb : s.heap.IsList b xs) (hl : IsDct s.heap l) : b ≠ l := fun e => by
 subst e
 obtain ⟨o, ho, hc, _⟩ := hb
 obtain ⟨dd, es, n, sl, ho2⟩ := hl
 rw [ho] at ho2
 cases ho2
 exact absurd hc (by simp)
theorem rc_list {xs : Array Value} (hb : s.heap.IsList b xs) (hl : IsDct s.heap l) (hu : A.units < cLine) : RcAt A s (.ref b) (.ref l) false := fun prog w E Q h => by
 have hne := ne_list hb hl
 obtain ⟨dd, es, n, sl, ho⟩ := hl
 obtain ⟨⟨cls, de, data, sm⟩, hb1, hc, m, hd⟩ := id hb
 simp only at hc hd
 subst hc hd
 refine rc_eq_decline_or (k := false) (Ta := "list") ⟨_, hb1, rfl⟩ ⟨_, ho, rfl⟩ (by decide) F.sub_dict_list F.slot_list_eq F.slot_dict_eq_refl (fun _ hq => ?_) (fun _ hq => ?_) (fun _ hq => wpAny_isSame_ref_other hne hb1 ho (by simp) hq) (.inr hu) h
 · exact call_meets F.slot_list_eq ⟨_, hb1, rfl⟩ F.entry_list_eq (F.args_list_eq_2 _ _) (list_dict l b es xs n m dd de sl sm) ⟨ho, hb1, hq⟩
 · exact call_meets F.slot_dict_eq_refl ⟨_, ho, rfl⟩ F.entry_dict_eq (F.args_dict_eq_2 _ _) (dict_list l b es xs n m dd de sl sm) ⟨ho, hb1, hq⟩
theorem at_list {xs : Array Value} (hb : s.heap.IsList b xs) (hl : IsDct s.heap l) (hu : A.units < cLine) : EqAt A s (.ref b) (.ref l) false := .of_refs (ne_list hb hl) (rc_list hb hl hu)
theorem ne_tuple {xs : Array Value} (hb : s.heap.IsTuple b xs) (hl : IsDct s.heap l) : b ≠ l := fun e => by
 subst e
 obtain ⟨o, ho, hc, _⟩ := hb
 obtain ⟨dd, es, n, sl, ho2⟩ := hl
 rw [ho] at ho2
 cases ho2
 exact absurd hc (by simp)
theorem rc_tuple {xs : Array Value} (hb : s.heap.IsTuple b xs) (hl : IsDct s.heap l) (hu : A.units < cLine) : RcAt A s (.ref b) (.ref l) false := fun prog w E Q h => by
 have hne := ne_tuple hb hl
 obtain ⟨dd, es, n, sl, ho⟩ := hl
 obtain ⟨⟨cls, de, data, sm⟩, hb1, hc, m, hd⟩ := id hb
 simp only at hc hd
 subst hc hd
 refine rc_eq_decline_or (k := false) (Ta := "tuple") ⟨_, hb1, rfl⟩ ⟨_, ho, rfl⟩ (by decide) F.sub_dict_tuple F.slot_tuple_eq F.slot_dict_eq_refl (fun _ hq => ?_) (fun _ hq => ?_) (fun _ hq => wpAny_isSame_ref_other' hne hb1 ho (by simp) hq) (.inr hu) h
 · exact call_meets F.slot_tuple_eq ⟨_, hb1, rfl⟩ F.entry_tuple_eq (F.args_tuple_eq_2 _ _) (tuple_dict l b es xs n m dd de sl sm) ⟨ho, hb1, hq⟩
 · exact call_meets F.slot_dict_eq_refl ⟨_, ho, rfl⟩ F.entry_dict_eq (F.args_dict_eq_2 _ _) (dict_tuple l b es xs n m dd de sl sm) ⟨ho, hb1, hq⟩
theorem at_tuple {xs : Array Value} (hb : s.heap.IsTuple b xs) (hl : IsDct s.heap l) (hu : A.units < cLine) : EqAt A s (.ref b) (.ref l) false := .of_refs (ne_tuple hb hl) (rc_tuple hb hl hu)
end
end Y.DEq
set_option autoImplicit false
set_option maxHeartbeats 4000000
namespace Y
open PySem PySem.Spec PyProof.Rows L2
theorem el13 {α : Sort _} {B C D : α → Prop} {R : Prop} (h : ∃ a, B a ∧ C a ∧ D a) (f : ∀ a, B a → C a → D a → R) : R := by
 obtain ⟨a, b, c, d⟩ := h
 exact f a b c d
theorem el33 {α β γ : Sort _} {B C D : α → β → γ → Prop} {R : Prop} (h : ∃ a b c, B a b c ∧ C a b c ∧ D a b c) (f : ∀ a b c, B a b c → C a b c → D a b c → R) : R := by
 obtain ⟨a, b, c, x, y, z⟩ := h
 exact f a b c x y z
abbrev St := L2.St
class Tabs where
 T : List (Addr × Str)
variable [Tabs]
def isT : HO -> Bool
 | .tbl _ => true
 | _ => false
def recO (c : Addr) (q : Str) : HO := .ext fun h => h.CodeRec (.ref c) q
def TabsOk (H : Hp) : Prop := ∀ P ∈ Tabs.T, ∃ ps, H P.1 = some (.tbl ps) ∧ TriplesOk ps.toList ∧ ∀ pos cv, codeAmong pos ps.toList = some cv -> ∃ c, cv = .ref c ∧ H c = some (recO c P.2)
structure Same (H H' : Hp) : Prop where
 get : ∀ b o, H b = some o -> isT o = false -> H' b = some o
 tbl : ∀ b ps, H b = some (.tbl ps) -> ∃ ps', H' b = some (.tbl ps')
 tabs : TabsOk H -> TabsOk H'
theorem Same.at {H H' : Hp} (s : Same H H') {b : Addr} {o : HO} (h : H b = some o) (n : isT o = false := by rfl) : H' b = some o := s.get b o h n
theorem Same.refl (H : Hp) : Same H H := ⟨fun _ _ h _ => h, fun _ ps h => ⟨ps, h⟩, fun t => t⟩
theorem Same.trans {H H1 H2 : Hp} (a : Same H H1) (b : Same H1 H2) : Same H H2 :=
 ⟨fun c o h n => b.get c o (a.get c o h n) n, fun c ps h => let ⟨ps', e⟩ := a.tbl c ps h; b.tbl c ps' e, fun t => b.tabs (a.tabs t)⟩
theorem Same.free {H H' : Hp} (e : Same H H') {l : Addr} (h : H' l = Option.none) : H l = Option.none := by
 cases q : H l with
 | none => rfl
 | some o =>
  cases n : isT o with
  | false => rw [e.get l o q n] at h; cases h
  | true =>
   cases o with
   | tbl ps => obtain ⟨ps', z⟩ := e.tbl l ps q; rw [z] at h; cases h
   | _ => cases n
theorem Same.seq {K : PySem.W.Frag} {H H' : Hp} {a : Addr} {xs : List V} (e : Same H H') (h : SqL K H a xs) : SqL K H' a xs := by
 rcases h with (h | ⟨o, h⟩) | h
 · exact .inl (.inl (e.at h))
 · exact .inl (.inr ⟨o, e.at h⟩)
 · exact .inr h
inductive DO where
 | k (kvs : List (Key × V))
 | t (kvs : List (List Key × V))
def DO.ho : DO -> HO
 | .k kvs => .dK kvs
 | .t kvs => .dT kvs
inductive MO where
 | l (xs : List V)
 | d (o : DO)
def MO.ho : MO -> HO
 | .l xs => .lst xs
 | .d o => o.ho
theorem MO.nt (o : MO) : isT o.ho = false := by
 rcases o with xs | (kvs | kvs) <;> rfl
theorem DO.inj {o o' : DO} (h : o.ho = o'.ho) : o = o' := by
 cases o <;> cases o' <;> cases h <;> rfl
theorem MO.ntup (o : MO) {xs : List V} (h : o.ho = .tup xs) : False := by
 rcases o with xs | (kvs | kvs) <;> cases h
theorem MO.nfrz (o : MO) {b : Obj} {u : HO} (h : o.ho = .frz b u) : False := by
 rcases o with xs | (kvs | kvs) <;> cases h
theorem TabsOk.upd {H : Hp} {p : Addr} {o : HO} (h : H p = none ∨ ∃ xs : MO, H p = some xs.ho) (t : TabsOk H) : TabsOk (upd H p o) := fun P hP => by
 obtain ⟨ps, e, tr, k⟩ := t P hP
 have ne : ∀ {b : Addr} {u : HO}, H b = some u -> (∀ xs : MO, u ≠ xs.ho) -> b ≠ p := fun {b u} q n z => by
  rcases h with h | ⟨xs, h⟩
  · rw [z, h] at q; cases q
  · rw [z, h] at q; exact n xs (Option.some.inj q).symm
 refine ⟨ps, by rw [upd_ne (ne e (by intro xs z; rcases xs with xs | (kvs | kvs) <;> cases z))]; exact e, tr, fun pos cv q => ?_⟩
 obtain ⟨c, rfl, hc⟩ := k pos cv q
 exact ⟨c, rfl, by rw [upd_ne (ne hc (by intro xs z; rcases xs with xs | (kvs | kvs) <;> cases z))]; exact hc⟩
theorem Same.writeM {H H' : Hp} {l : Addr} {xs : MO} {o : HO} (s : Same H H') (h : H l = none) (h' : H' l = some xs.ho) : Same H (upd H' l o) :=
 ⟨fun b u e n => by rw [upd_ne (ne_of_none e h)]; exact s.get b u e n, fun b ps e => by rw [upd_ne (ne_of_none e h)]; exact s.tbl b ps e, fun t => (s.tabs t).upd (.inr ⟨xs, h'⟩)⟩
theorem Same.write {H H' : Hp} {l : Addr} {xs : List V} {o : HO} (s : Same H H') (h : H l = none) (h' : H' l = some (.lst xs)) : Same H (upd H' l o) := s.writeM (xs := .l xs) h h'
inductive D where
 | non
 | bl (b : Bool)
 | int (i : Int)
 | str (x : Str)
 | lst (ds : List D)
 | tup (ds : List D)
 | dct (o : DO)
 | ktup (ks : List Key)
def kD : Key -> D
 | .inl i => .int i
 | .inr x => .str x
structure Zone where
 m : Bool
 S : Addr -> Prop
def RO (K : PySem.W.Frag) (H : Hp) (a : Addr) (xs : List V) : Prop :=
 (∃ o, H a = some (.frz o (.lst xs))) ∨
  ∃ (o : Obj) (its : Array Value) (n : Nat), K.lookup a = some o ∧ o.cls = .type "list" ∧ o.dict = none ∧ o.data = .seq its n ∧ its.size <= sizeLine ∧ Vals xs its.toList
def LstAt (K : PySem.W.Frag) (H : Hp) (Z : Zone) (a : Addr) (xs : List V) : Prop := (H a = some (.lst xs) ∧ Z.S a) ∨ (Z.m = false ∧ RO K H a xs)
theorem LstAt.sq {K : PySem.W.Frag} {H : Hp} {Z : Zone} {a : Addr} {xs : List V} (h : LstAt K H Z a xs) : SqL K H a xs := by
 rcases h with ⟨h, _⟩ | ⟨_, h | h⟩
 · exact .inl (.inl h)
 · exact .inl (.inr h)
 · exact .inr h
def KTup (K : PySem.W.Frag) (a : Addr) (ks : List Key) : Prop := ∃ (o : Obj) (its : Array Value) (n : Nat), K.lookup a = some o ∧ o.cls = .type "tuple" ∧ o.data = .seq its n ∧ its.size <= sizeLine ∧ Vals (ks.map kV) its.toList
mutual
def In (K : PySem.W.Frag) (H : Hp) (Z : Zone) : D -> V -> Prop
 | .non, v => v = .non
 | .bl b, v => v = .bl b
 | .int i, v => v = .int i
 | .str x, v => v = .str x
 | .lst ds, v => ∃ a xs, v = .ref a ∧ LstAt K H Z a xs ∧ Ins K H Z ds xs
 | .tup ds, v => ∃ a xs, v = .ref a ∧ H a = some (.tup xs) ∧ Ins K H Z ds xs
 | .dct o, v => ∃ a, v = .ref a ∧ H a = some o.ho ∧ Z.S a
 | .ktup ks, v => ∃ a, v = .ref a ∧ KTup K a ks
def Ins (K : PySem.W.Frag) (H : Hp) (Z : Zone) : List D -> List V -> Prop
 | [], xs => xs = []
 | d :: ds, xs => ∃ v vs, xs = v :: vs ∧ In K H Z d v ∧ Ins K H Z ds vs
end
structure Carry (K : PySem.W.Frag) (H : Hp) (Z : Zone) (H' : Hp) (Z' : Zone) : Prop where
 l : ∀ a (xs : MO), H a = some xs.ho -> Z.S a -> H' a = some xs.ho ∧ Z'.S a
 r : Z.m = false -> Z'.m = false ∧ ∀ a xs, RO K H a xs -> RO K H' a xs
 t : ∀ a (xs : List V), H a = some (.tup xs) -> H' a = some (.tup xs)
section
variable {K : PySem.W.Frag} {H H' H2 : Hp} {Z Z' Z2 : Zone}
theorem LstAt.carry {a : Addr} {xs : List V} (c : Carry K H Z H' Z') (h : LstAt K H Z a xs) : LstAt K H' Z' a xs := by
 rcases h with ⟨h, s⟩ | ⟨m, h⟩
 · exact .inl (c.l a (.l xs) h s)
 · exact .inr ⟨(c.r m).1, (c.r m).2 a xs h⟩
mutual
theorem In.carry (c : Carry K H Z H' Z') : ∀ {d : D} {v : V}, In K H Z d v -> In K H' Z' d v
 | .non, _, h => by unfold In at h ⊢; exact h
 | .bl _, _, h => by unfold In at h ⊢; exact h
 | .int _, _, h => by unfold In at h ⊢; exact h
 | .str _, _, h => by unfold In at h ⊢; exact h
 | .lst ds, v, h => by
  unfold In at h ⊢
  obtain ⟨a, xs, e, l, i⟩ := h
  exact ⟨a, xs, e, l.carry c, Ins.carry c i⟩
 | .tup ds, v, h => by
  unfold In at h ⊢
  obtain ⟨a, xs, e, l, i⟩ := h
  exact ⟨a, xs, e, c.t a xs l, Ins.carry c i⟩
 | .dct o, v, h => by
  unfold In at h ⊢
  obtain ⟨a, e, l, i⟩ := h
  exact ⟨a, e, c.l a (.d o) l i⟩
 | .ktup ks, v, h => by unfold In at h ⊢; exact h
theorem Ins.carry (c : Carry K H Z H' Z') : ∀ {ds : List D} {vs : List V}, Ins K H Z ds vs -> Ins K H' Z' ds vs
 | [], _, h => by unfold Ins at h ⊢; exact h
 | d :: ds, vs, h => by
  unfold Ins at h ⊢
  obtain ⟨v, r, e, i, j⟩ := h
  exact ⟨v, r, e, In.carry c i, Ins.carry c j⟩
end
theorem RO.same {a : Addr} {xs : List V} (s : Same H H') (h : RO K H a xs) : RO K H' a xs := by
 rcases h with ⟨o, h⟩ | h
 · exact .inl ⟨o, s.at h⟩
 · exact .inr h
theorem Carry.of (s : Same H H') (hS : ∀ a (xs : MO), H a = some xs.ho -> Z.S a -> Z'.S a) (hm : Z.m = false -> Z'.m = false) : Carry K H Z H' Z' :=
 ⟨fun a xs h z => ⟨s.at h xs.nt, hS a xs h z⟩, fun m => ⟨hm m, fun a xs h => h.same s⟩, fun a xs h => s.at h⟩
theorem Carry.same (s : Same H H') : Carry K H Z H' Z := .of s (fun _ _ _ z => z) fun m => m
theorem In.same {d : D} {v : V} (s : Same H H') (h : In K H Z d v) : In K H' Z d v := h.carry (.same s)
theorem Ins.same {ds : List D} {vs : List V} (s : Same H H') (h : Ins K H Z ds vs) : Ins K H' Z ds vs := h.carry (.same s)
theorem Carry.writeM {l : Addr} {xs : MO} {o : HO} (h : H l = some xs.ho) (n : ¬ Z.S l) : Carry K H Z (upd H l o) Z := by
 refine ⟨fun a zs e z => ⟨?_, z⟩, fun m => ⟨m, fun a zs e => ?_⟩, fun a zs e => ?_⟩
 · have : a ≠ l := by rintro rfl; exact n z
   rw [upd_ne this]; exact e
 · rcases e with ⟨o, e⟩ | e
   · refine .inl ⟨o, ?_⟩
     rw [upd_ne (ne_of e h (by intro q; exact xs.nfrz q.symm))]; exact e
   · exact .inr e
 · rw [upd_ne (ne_of e h (by intro q; exact xs.ntup q.symm))]; exact e
theorem Carry.write {l : Addr} {xs ys : List V} (h : H l = some (.lst xs)) (n : ¬ Z.S l) : Carry K H Z (upd H l (.lst ys)) Z := Carry.writeM (xs := .l xs) h n
mutual
def D.flat : D -> Bool
 | .lst _ => false
 | .dct _ => false
 | .tup ds => flats ds
 | _ => true
def flats : List D -> Bool
 | [] => true
 | d :: ds => D.flat d && flats ds
end
mutual
theorem In.flat (s : ∀ a (xs : List V), H a = some (.tup xs) -> H' a = some (.tup xs)) : ∀ {d : D} {v : V}, D.flat d = true -> In K H Z d v -> In K H' Z' d v
 | .non, _, _, h => by unfold In at h ⊢; exact h
 | .bl _, _, _, h => by unfold In at h ⊢; exact h
 | .int _, _, _, h => by unfold In at h ⊢; exact h
 | .str _, _, _, h => by unfold In at h ⊢; exact h
 | .lst ds, v, f, h => by unfold D.flat at f; cases f
 | .dct o, v, f, h => by unfold D.flat at f; cases f
 | .ktup ks, v, f, h => by unfold In at h ⊢; exact h
 | .tup ds, v, f, h => by
  unfold D.flat at f
  unfold In at h ⊢
  obtain ⟨a, xs, e, l, i⟩ := h
  exact ⟨a, xs, e, s a xs l, Ins.flat s f i⟩
theorem Ins.flat (s : ∀ a (xs : List V), H a = some (.tup xs) -> H' a = some (.tup xs)) : ∀ {ds : List D} {vs : List V}, flats ds = true -> Ins K H Z ds vs -> Ins K H' Z' ds vs
 | [], _, _, h => by unfold Ins at h ⊢; exact h
 | d :: ds, vs, f, h => by
  unfold flats at f
  rw [Bool.and_eq_true] at f
  unfold Ins at h ⊢
  obtain ⟨v, r, e, i, j⟩ := h
  exact ⟨v, r, e, In.flat s f.1 i, Ins.flat s f.2 j⟩
end
theorem In.flat' {d : D} {v : V} (f : d.flat = true) (h : In K H Z d v) : In K H Z' d v := In.flat (fun _ _ e => e) f h
theorem Ins.flat' {ds : List D} {vs : List V} (f : flats ds = true) (h : Ins K H Z ds vs) : Ins K H Z' ds vs := Ins.flat (fun _ _ e => e) f h
theorem in_non {v : V} : In K H Z .non v ↔ v = .non := by unfold In; exact Iff.rfl
theorem in_bl {b : Bool} {v : V} : In K H Z (.bl b) v ↔ v = .bl b := by unfold In; exact Iff.rfl
theorem in_int {i : Int} {v : V} : In K H Z (.int i) v ↔ v = .int i := by unfold In; exact Iff.rfl
theorem in_str {x : Str} {v : V} : In K H Z (.str x) v ↔ v = .str x := by unfold In; exact Iff.rfl
theorem in_lst {ds : List D} {v : V} : In K H Z (.lst ds) v ↔ ∃ a xs, v = .ref a ∧ LstAt K H Z a xs ∧ Ins K H Z ds xs := by unfold In; exact Iff.rfl
theorem in_tup {ds : List D} {v : V} : In K H Z (.tup ds) v ↔ ∃ a xs, v = .ref a ∧ H a = some (.tup xs) ∧ Ins K H Z ds xs := by unfold In; exact Iff.rfl
theorem in_tupS {ds : List D} {v : V} (h : In K H Z (.tup ds) v) : ∃ a xs, v = .ref a ∧ SqT K H a xs ∧ Ins K H Z ds xs :=
 let ⟨a, xs, e, l, i⟩ := in_tup.mp h
 ⟨a, xs, e, .inl (.inl l), i⟩
theorem in_ktup {ks : List Key} {v : V} : In K H Z (.ktup ks) v ↔ ∃ a, v = .ref a ∧ KTup K a ks := by unfold In; exact Iff.rfl
theorem KTup.sq {a : Addr} {ks : List Key} (h : KTup K a ks) : SqT K H a (ks.map kV) := by
 obtain ⟨o, its, n, h1, h2, h3, h4, h5⟩ := h
 exact .inr ⟨o, its, n, h1, h2, h3, h4, h5⟩
theorem in_dct {o : DO} {v : V} : In K H Z (.dct o) v ↔ ∃ a, v = .ref a ∧ H a = some o.ho ∧ Z.S a := by unfold In; exact Iff.rfl
theorem ins_nil {vs : List V} : Ins K H Z [] vs ↔ vs = [] := by unfold Ins; exact Iff.rfl
theorem ins_cons {d : D} {ds : List D} {vs : List V} : Ins K H Z (d :: ds) vs ↔ ∃ v r, vs = v :: r ∧ In K H Z d v ∧ Ins K H Z ds r := by
 constructor
 · intro h; unfold Ins at h; exact h
 · intro h; unfold Ins; exact h
theorem Ins.length : ∀ {ds : List D} {vs : List V}, Ins K H Z ds vs -> ds.length = vs.length
 | [], _, h => by rw [ins_nil.mp h]; rfl
 | d :: ds, _, h => by
  obtain ⟨v, r, rfl, _, j⟩ := ins_cons.mp h
  rw [List.length_cons, List.length_cons, Ins.length j]
theorem Ins.get : ∀ {ds : List D} {vs : List V} {i : Nat} {d : D}, Ins K H Z ds vs -> ds[i]? = some d -> ∃ v, vs[i]? = some v ∧ In K H Z d v
 | [], _, _, _, _, e => by simp at e
 | d :: ds, _, 0, _, h, e => by
  obtain ⟨v, r, rfl, a, _⟩ := ins_cons.mp h
  simp at e; subst e
  exact ⟨v, rfl, a⟩
 | d :: ds, _, i + 1, d', h, e => by
  obtain ⟨v, r, rfl, _, j⟩ := ins_cons.mp h
  obtain ⟨w, h1, h2⟩ := Ins.get (i := i) (d := d') j (by simpa using e)
  exact ⟨w, by simpa using h1, h2⟩
theorem Ins.append : ∀ {ds es : List D} {vs ws : List V}, Ins K H Z ds vs -> Ins K H Z es ws -> Ins K H Z (ds ++ es) (vs ++ ws)
 | [], _, _, _, h, k => by rw [ins_nil.mp h]; exact k
 | d :: ds, _, _, _, h, k => by
  obtain ⟨v, r, rfl, a, j⟩ := ins_cons.mp h
  exact ins_cons.mpr ⟨v, r ++ _, rfl, a, Ins.append j k⟩
theorem Ins.one {d : D} {v : V} (h : In K H Z d v) : Ins K H Z [d] [v] := ins_cons.mpr ⟨v, [], rfl, h, ins_nil.mpr rfl⟩
theorem Ins.drop : ∀ {ds : List D} {vs : List V} (n : Nat), Ins K H Z ds vs -> Ins K H Z (ds.drop n) (vs.drop n)
 | _, _, 0, h => h
 | [], _, _ + 1, h => by rw [ins_nil.mp h]; exact ins_nil.mpr (by simp)
 | _ :: _, _, n + 1, h => by
  obtain ⟨v, r, rfl, _, j⟩ := ins_cons.mp h
  exact Ins.drop n j
theorem Ins.take : ∀ {ds : List D} {vs : List V} (n : Nat), Ins K H Z ds vs -> Ins K H Z (ds.take n) (vs.take n)
 | _, _, 0, h => by rw [List.take_zero, List.take_zero]; exact ins_nil.mpr rfl
 | [], _, _ + 1, h => by rw [ins_nil.mp h]; exact ins_nil.mpr (by simp)
 | _ :: _, _, n + 1, h => by
  obtain ⟨v, r, rfl, a, j⟩ := ins_cons.mp h
  exact ins_cons.mpr ⟨v, r.take n, rfl, a, Ins.take n j⟩
theorem Ins.of_get : ∀ {ds : List D} {vs : List V}, ds.length = vs.length -> (∀ (i : Nat) d v, ds[i]? = some d -> vs[i]? = some v -> In K H Z d v) -> Ins K H Z ds vs
 | [], [], _, _ => ins_nil.mpr rfl
 | d :: ds, v :: vs, e, h => ins_cons.mpr ⟨v, vs, rfl, h 0 d v rfl rfl, Ins.of_get (by simpa using e) fun i d' v' a b => h (i + 1) d' v' (by simpa using a) (by simpa using b)⟩
 | [], _ :: _, e, _ => by simp at e
 | _ :: _, [], e, _ => by simp at e
theorem ins_ints : ∀ (ns : List Int), Ins K H Z (ns.map D.int) (ns.map V.int)
 | [] => ins_nil.mpr rfl
 | n :: ns => ins_cons.mpr ⟨_, _, rfl, in_int.mpr rfl, ins_ints ns⟩
theorem ins_strs : ∀ (ns : List Str), Ins K H Z (ns.map D.str) (ns.map V.str)
 | [] => ins_nil.mpr rfl
 | n :: ns => ins_cons.mpr ⟨_, _, rfl, in_str.mpr rfl, ins_strs ns⟩
theorem ins_strs_inv : ∀ {ns : List Str} {vs : List V}, Ins K H Z (ns.map D.str) vs -> vs = ns.map V.str
 | [], _, h => ins_nil.mp h
 | n :: ns, _, h => by
  obtain ⟨v, r, rfl, a, j⟩ := ins_cons.mp h
  rw [in_str.mp a, ins_strs_inv j]; rfl
theorem in_kV (k : Key) : In K H Z (kD k) (kV k) := by
 cases k with
 | inl i => exact in_int.mpr rfl
 | inr x => exact in_str.mpr rfl
theorem ins_kV : ∀ (ks : List Key), Ins K H Z (ks.map kD) (ks.map kV)
 | [] => ins_nil.mpr rfl
 | k :: ks => ins_cons.mpr ⟨_, _, rfl, in_kV k, ins_kV ks⟩
theorem flats_strs : ∀ (ns : List Str), flats (ns.map D.str) = true
 | [] => by simp [flats]
 | n :: ns => by simp [flats, D.flat, flats_strs ns]
theorem flats_all : ∀ {ds : List D}, (∀ d ∈ ds, d.flat = true) -> flats ds = true
 | [], _ => by simp [flats]
 | d :: ds, h => by
  have h1 := h d List.mem_cons_self
  have h2 : flats ds = true := flats_all fun e he => h e (List.mem_cons_of_mem _ he)
  simp [flats, h1, h2]
theorem flats_mem : ∀ {ds : List D}, flats ds = true -> ∀ d ∈ ds, d.flat = true
 | [], _, d, hd => by simp at hd
 | e :: ds, h, d, hd => by
  simp [flats] at h
  rcases List.mem_cons.mp hd with rfl | hd
  · exact h.1
  · exact flats_mem h.2 d hd
end
structure Zone.Open (Z : Zone) (H : Hp) : Prop where
 op : ∀ a, H a = none -> Z.S a
 tb : TabsOk H
instance {Z : Zone} {H : Hp} : CoeFun (Z.Open H) (fun _ => ∀ a, H a = none -> Z.S a) := ⟨fun o => o.op⟩
def nw (H : Hp) : Zone := ⟨true, fun a => H a = none⟩
theorem nwF {H : Hp} {C : Prop} (h : (nw H).m = false) : C := Bool.noConfusion (show true = false from h)
def out (m : Bool) (Z : Zone) (H : Hp) : Zone := if m then nw H else Z
def anyZ : Zone := ⟨false, fun _ => True⟩
section
variable {K : PySem.W.Frag} {H H1 H' : Hp} {Z : Zone} {m : Bool}
theorem Zone.Open.same (o : Z.Open H) (s : Same H H') : Z.Open H' := ⟨fun a h => o.op a (s.free h), s.tabs o.tb⟩
theorem anyZ_open (t : TabsOk H) : anyZ.Open H := ⟨fun _ _ => trivial, t⟩
theorem nw_open (t : TabsOk H) (s : Same H H') : (nw H).Open H' := ⟨fun a h => s.free h, s.tabs t⟩
theorem In.up {d : D} {v : V} (o : Z.Open H) (h : In K H' (nw H) d v) : In K H' Z d v := h.carry ⟨fun a xs e z => ⟨e, o a z⟩, fun m => nwF m, fun _ _ e => e⟩
theorem Ins.up {ds : List D} {vs : List V} (o : Z.Open H) (h : Ins K H' (nw H) ds vs) : Ins K H' Z ds vs := h.carry ⟨fun a xs e z => ⟨e, o a z⟩, fun m => nwF m, fun _ _ e => e⟩
theorem In.plain {d : D} {v : V} (o : Z.Open H) (h : In K H' (out m Z H) d v) : In K H' Z d v := by
 cases m
 · exact h
 · exact h.up o
theorem In.later {d : D} {v : V} (s : Same H H1) (h : In K H' (out m Z H1) d v) : In K H' (out m Z H) d v := by
 cases m
 · exact h
 · exact h.carry ⟨fun a xs e z => ⟨e, s.free z⟩, fun m => nwF m, fun _ _ e => e⟩
theorem In.outflat {d : D} {v : V} {Z' : Zone} (f : d.flat = true) (h : In K H' Z' d v) : In K H' (out m Z H) d v := h.flat' f
end
def EnvIn (K : PySem.W.Frag) (H : Hp) (Z : Zone) (σ : St) (ρ : List (Option D)) : Prop := ∀ (i : Nat) d, ρ[i]? = some (some d) -> ∃ v, σ[i]? = some (some v) ∧ In K H Z d v
theorem EnvIn.same {K : PySem.W.Frag} {H H' : Hp} {Z : Zone} {σ : St} {ρ : List (Option D)} (s : Same H H') (h : EnvIn K H Z σ ρ) : EnvIn K H' Z σ ρ := fun i d e =>
 let ⟨v, a, b⟩ := h i d e; ⟨v, a, b.same s⟩
def tE (K : PySem.W.Frag) (m : Bool) (ρ : List (Option D)) (d : D) : TE := fun σ H Q => ∃ Z : Zone, Z.Open H ∧ EnvIn K H Z σ ρ ∧ ∀ v H', Same H H' -> In K H' (out m Z H) d v -> Q v H'
def tB' (K : PySem.W.Frag) (ρ : List (Option D)) (b : Bool) : TT := fun σ H Q => ∃ Z : Zone, Z.Open H ∧ EnvIn K H Z σ ρ ∧ ∀ H', Same H H' -> Q b H'
def tEA (K : PySem.W.Frag) (ρ : List (Option D)) (ds : List D) : TA := fun σ H Q => ∃ Z : Zone, Z.Open H ∧ EnvIn K H Z σ ρ ∧ ∀ vs H', Same H H' -> Ins K H' Z ds vs -> Q vs H'
def E (X : Cx) (m : Bool) (ρ : List (Option D)) (e : Expr) (d : D) : Prop := PE X e (tE X.K m ρ d)
def T (X : Cx) (ρ : List (Option D)) (e : Expr) (b : Bool) : Prop := PT X e (tB' X.K ρ b)
def TW (X : Cx) (ρ : List (Option D)) (e : Expr) (b : Bool) : Prop := PW X e (tB' X.K ρ b)
def EA (X : Cx) (ρ : List (Option D)) (es : List Expr) (ds : List D) : Prop := PA X es (tEA X.K ρ ds)
theorem PE.mono {X : Cx} {e : Expr} {t t' : TE} (h : PE X e t) (k : ∀ σ H Q, t' σ H Q -> t σ H Q) : PE X e t' := fun pins s σ H Q I q => h pins s σ H Q I (k σ H Q q)
theorem PT.mono {X : Cx} {e : Expr} {t t' : TT} (h : PT X e t) (k : ∀ σ H Q, t' σ H Q -> t σ H Q) : PT X e t' := fun pins s σ H Q I q => h pins s σ H Q I (k σ H Q q)
theorem PW.mono {X : Cx} {e : Expr} {t t' : TT} (h : PW X e t) (k : ∀ σ H Q, t' σ H Q -> t σ H Q) : PW X e t' := fun wh pins s σ H Q I q => h wh pins s σ H Q I (k σ H Q q)
theorem PA.mono {X : Cx} {es : List Expr} {t t' : TA} (h : PA X es t) (k : ∀ σ H Q, t' σ H Q -> t σ H Q) : PA X es t' := fun pos pins s σ H Q I q => h pos pins s σ H Q I (k σ H Q q)
section
variable {X : Cx} {ρ : List (Option D)} {m m1 m2 m3 : Bool} {a b c e : Expr} {es : List Expr} {d d1 d2 d3 : D} {pos : Pos}
theorem E.mode (h : E X true ρ e d) : E X m ρ e d := by
 cases m
 · refine PE.mono h fun σ H Q z0 => el13 z0 fun Z oz en k => ⟨Z, oz, en, fun v H' s i => k v H' s (i.up oz)⟩
 · exact h
theorem E.flat (h : E X m1 ρ e d) (f : d.flat = true) : E X m ρ e d :=
 PE.mono h fun σ H Q z0 => el13 z0 fun Z oz en k => ⟨Z, oz, en, fun v H' s i => k v H' s (i.flat' f)⟩
theorem E.cast {d' : D} (h : E X m ρ e d) (q : d = d') : E X m ρ e d' := q ▸ h
theorem e_var (i : Nat) {x : Str} {d : D} (hr : ρ[i]? = some (some d) := by rfl) (hN : X.N[i]? = some x := by rfl)
 (hv : Vis X.env.scope x := by first | exact Or.inl rfl | exact Or.inr (Or.inl rfl) | exact Or.inr (Or.inr rfl)) (hd : (x == ("__debug__" : Str)) = false := by decide)
 (hcd : (x == ("__classdict__" : Str)) = false := by decide) : E X false ρ (.Name x pos) d :=
 PE.mono (pe_var hN hv hd hcd) fun σ H Q z0 => el13 z0 fun Z oz en k => by
  obtain ⟨v, e, i⟩ := en i d hr
  exact ⟨v, e, k v H (Same.refl H) i⟩
theorem e_int {i : Int} {j : Nat} : E X true ρ (.Constant (.int i) j pos) (.int i) := PE.mono pe_int fun σ H Q z0 => el13 z0 fun Z oz en k => k _ _ (Same.refl H) (in_int.mpr rfl)
theorem e_str {x : Str} {j : Nat} : E X true ρ (.Constant (.str x) j pos) (.str x) := PE.mono pe_str fun σ H Q z0 => el13 z0 fun Z oz en k => k _ _ (Same.refl H) (in_str.mpr rfl)
theorem ea_nil : EA X ρ [] [] := PA.mono pa_nil fun σ H Q z0 => el13 z0 fun Z oz en k => k [] H (Same.refl H) (ins_nil.mpr rfl)
theorem ea_cons {ds : List D} (ha : E X m1 ρ e d) (hr : EA X ρ es ds) (hs : starEach (e :: es) X.env = (false, eval e X.env) :: starEach es X.env := by rfl) : EA X ρ (e :: es) (d :: ds) :=
 PA.mono (pa_cons ha hr hs) fun σ H Q z0 => el13 z0 fun Z oz en k => ⟨Z, oz, en, fun v H1 s1 i1 => ⟨Z, oz.same s1, en.same s1, fun vs H2 s2 i2 => k (v :: vs) H2 (s1.trans s2) (ins_cons.mpr ⟨v, vs, rfl, (i1.plain oz).same s2, i2⟩)⟩⟩
theorem ea_one (ha : E X m1 ρ e d) (hs : starEach (e :: []) X.env = (false, eval e X.env) :: starEach [] X.env := by rfl) : EA X ρ [e] [d] := ea_cons ha ea_nil hs
def EAF (X : Cx) (ρ : List (Option D)) (es : List Expr) (ds : List D) : Prop := PA X es (fun σ H Q => ∃ Z : Zone, Z.Open H ∧ EnvIn X.K H Z σ ρ ∧ ∀ vs H', Same H H' -> Ins X.K H' (nw H) ds vs -> Q vs H')
theorem eaf_nil : EAF X ρ [] [] := PA.mono pa_nil fun σ H Q z0 => el13 z0 fun Z oz en k => k [] H (Same.refl H) (ins_nil.mpr rfl)
theorem Ins.later {K : PySem.W.Frag} {H H1 H' : Hp} {ds : List D} {vs : List V} (s : Same H H1) (h : Ins K H' (nw H1) ds vs) : Ins K H' (nw H) ds vs :=
 h.carry ⟨fun a xs e z => ⟨e, s.free z⟩, fun m => nwF m, fun _ _ e => e⟩
theorem eaf_cons {ds : List D} (ha : E X true ρ e d) (hr : EAF X ρ es ds) (hs : starEach (e :: es) X.env = (false, eval e X.env) :: starEach es X.env := by rfl) : EAF X ρ (e :: es) (d :: ds) :=
 PA.mono (pa_cons ha hr hs) fun σ H Q z0 => el13 z0 fun Z oz en k => ⟨Z, oz, en, fun v H1 s1 i1 => ⟨Z, oz.same s1, en.same s1, fun vs H2 s2 i2 => k (v :: vs) H2 (s1.trans s2) (ins_cons.mpr ⟨v, vs, rfl, In.same s2 i1, i2.later s1⟩)⟩⟩
theorem same_new {H : Hp} {p : Addr} {o : HO} (h : H p = none) : Same H (upd H p o) := ⟨fun b u e _ => by rw [upd_ne (ne_of_none e h)]; exact e, fun b ps e => ⟨ps, by rw [upd_ne (ne_of_none e h)]; exact e⟩, fun t => t.upd (.inl h)⟩
theorem e_tup {ds : List D} {x1} (h : EA X ρ es ds) (hz : ds.length <= 1000 := by exact of_decide_eq_true rfl) : E X false ρ (.Tuple es x1 pos) (.tup ds) :=
 PE.mono (pe_tup h) fun σ H Q z0 => el13 z0 fun Z oz en k => ⟨Z, oz, en, fun vs H1 s1 i1 => ⟨by rw [<- i1.length]; exact Nat.le_trans hz (Nat.le_of_lt (small1000 (Nat.le_refl _))), fun p hp =>
  k (.ref p) _ (s1.trans (same_new hp)) (in_tup.mpr ⟨p, vs, rfl, upd_same, i1.same (same_new hp)⟩)⟩⟩
theorem e_lst {ds : List D} (h : EA X ρ es ds) (hz : ds.length <= 1000 := by exact of_decide_eq_true rfl) : E X false ρ (.List es pos) (.lst ds) :=
 PE.mono (pe_lst h) fun σ H Q z0 => el13 z0 fun Z oz en k => ⟨Z, oz, en, fun vs H1 s1 i1 => ⟨by rw [<- i1.length]; exact Nat.le_trans hz (Nat.le_of_lt (small1000 (Nat.le_refl _))), fun p hp =>
  k (.ref p) _ (s1.trans (same_new hp)) (in_lst.mpr ⟨p, vs, rfl, .inl ⟨upd_same, oz p (s1.free hp)⟩, i1.same (same_new hp)⟩)⟩⟩
theorem e_lstF {ds : List D} (h : EAF X ρ es ds) (hz : ds.length <= 1000 := by exact of_decide_eq_true rfl) : E X true ρ (.List es pos) (.lst ds) :=
 PE.mono (pe_lst h) fun σ H Q z0 => el13 z0 fun Z oz en k => ⟨Z, oz, en, fun vs H1 s1 i1 => ⟨by rw [<- i1.length]; exact Nat.le_trans hz (Nat.le_of_lt (small1000 (Nat.le_refl _))), fun p hp =>
  k (.ref p) _ (s1.trans (same_new hp)) (in_lst.mpr ⟨p, vs, rfl, .inl ⟨upd_same, s1.free hp⟩, i1.same (same_new hp)⟩)⟩⟩
theorem e_lstN {ds : List D} (h : EA X ρ es ds) (f : flats ds = true := by rfl) (hz : ds.length <= 1000 := by exact of_decide_eq_true rfl) : E X true ρ (.List es pos) (.lst ds) := by
 refine E.mode (PE.mono (pe_lst h) fun σ H Q z0 => el13 z0 fun Z oz en k => ⟨Z, oz, en, fun vs H1 s1 i1 => ⟨by rw [<- i1.length]; exact Nat.le_trans hz (Nat.le_of_lt (small1000 (Nat.le_refl _))), fun p hp =>
  k (.ref p) _ (s1.trans (same_new hp)) (in_lst.mpr ⟨p, vs, rfl, .inl ⟨upd_same, s1.free hp⟩, (i1.same (same_new hp)).flat' f⟩)⟩⟩)
theorem two {ta tb : TE} {σ : St} {H : Hp} {Z : Zone} {R : V -> V -> Hp -> Prop} (oz : Z.Open H) (en : EnvIn X.K H Z σ ρ)
 (h : ∀ x y H', Same H H' -> In X.K H' Z d1 x -> In X.K H' Z d2 y -> R x y H') : tE X.K m1 ρ d1 σ H fun x H1 => tE X.K m2 ρ d2 σ H1 fun y H2 => R x y H2 :=
 ⟨Z, oz, en, fun x H1 s1 i1 => ⟨Z, oz.same s1, en.same s1, fun y H2 s2 i2 => h x y H2 (s1.trans s2) ((i1.plain oz).same s2) (i2.plain (oz.same s1))⟩⟩
theorem e_op {op : Operator} {r : R2} (ho : OpR X (binaryOp op) r) (ha : E X m1 ρ a d1) (hb : E X m2 ρ b d2)
 (h : ∀ x y H Z Q, Z.Open H -> In X.K H Z d1 x -> In X.K H Z d2 y -> (∀ v H', Same H H' -> In X.K H' (out m Z H) d v -> Q v H') -> r x y H Q) : E X m ρ (.BinOp a op b pos) d :=
 PE.mono (pe_op ho ha hb) fun σ H Q z0 => el13 z0 fun Z oz en k => two (ta := tE X.K m1 ρ d1) (tb := tE X.K m2 ρ d2) oz en fun x y H2 s i1 i2 => h x y H2 Z _ (oz.same s) i1 i2 fun v H' s' i => k v H' (s.trans s') (i.later s)
theorem e_cmp {op : CmpOp} {r : R2} (ho : OpR X (compareOp op) r) (ha : E X m1 ρ a d1) (hb : E X m2 ρ b d2)
 (h : ∀ x y H Z Q, Z.Open H -> In X.K H Z d1 x -> In X.K H Z d2 y -> (∀ v H', Same H H' -> In X.K H' (out m Z H) d v -> Q v H') -> r x y H Q) (hm : behindInMarks op b = false) : E X m ρ (.Compare a [op] [b] pos) d :=
 PE.mono (pe_cmpR ho ha hb hm) fun σ H Q z0 => el13 z0 fun Z oz en k => two (ta := tE X.K m1 ρ d1) (tb := tE X.K m2 ρ d2) oz en fun x y H2 s i1 i2 => h x y H2 Z _ (oz.same s) i1 i2 fun v H' s' i => k v H' (s.trans s') (i.later s)
theorem t_cmp {op : CmpOp} {r : R2} {p : Bool} (ho : OpR X (compareOp op) r) (ha : E X m1 ρ a d1) (hb : E X m2 ρ b d2)
 (h : ∀ x y H Z Q, Z.Open H -> In X.K H Z d1 x -> In X.K H Z d2 y -> (∀ H', Same H H' -> Q (.bl p) H') -> r x y H Q) (hm : behindInMarks op b = false) : T X ρ (.Compare a [op] [b] pos) p :=
 PT.mono (pt_cmpR ho ha hb hm) fun σ H Q z0 => el13 z0 fun Z oz en k => two (ta := tE X.K m1 ρ d1) (tb := tE X.K m2 ρ d2) oz en fun x y H2 s i1 i2 => h x y H2 Z _ (oz.same s) i1 i2 fun H' s' => ⟨p, rfl, k H' (s.trans s')⟩
theorem e_add {i j : Int} (ha : E X m1 ρ a (.int i)) (hb : E X m2 ρ b (.int j)) : E X true ρ (.BinOp a .Add b pos) (.int (i + j)) :=
 e_op op_add ha hb fun x y H Z Q _ i1 i2 k => ⟨_, _, in_int.mp i1, in_int.mp i2, k _ _ (Same.refl H) (in_int.mpr rfl)⟩
theorem e_sub {i j : Int} (ha : E X m1 ρ a (.int i)) (hb : E X m2 ρ b (.int j)) : E X true ρ (.BinOp a .Sub b pos) (.int (i - j)) :=
 e_op op_sub ha hb fun x y H Z Q _ i1 i2 k => ⟨_, _, in_int.mp i1, in_int.mp i2, k _ _ (Same.refl H) (in_int.mpr rfl)⟩
theorem e_mul {i j : Int} (ha : E X m1 ρ a (.int i)) (hb : E X m2 ρ b (.int j)) (hc : CMul i j) : E X true ρ (.BinOp a .Mult b pos) (.int (i * j)) :=
 e_op op_mul ha hb fun x y H Z Q _ i1 i2 k => ⟨_, _, in_int.mp i1, in_int.mp i2, hc, k _ _ (Same.refl H) (in_int.mpr rfl)⟩
theorem e_mod {i j : Int} (ha : E X m1 ρ a (.int i)) (hb : E X m2 ρ b (.int j)) (hc : 0 < j) : E X true ρ (.BinOp a .Mod b pos) (.int (i % j)) :=
 e_op op_mod ha hb fun x y H Z Q _ i1 i2 k => ⟨_, _, in_int.mp i1, in_int.mp i2, hc, k _ _ (Same.refl H) (in_int.mpr rfl)⟩
theorem e_neg {i : Int} (ha : E X m1 ρ a (.int i)) : E X true ρ (.UnaryOp .USub a pos) (.int (-i)) :=
 PE.mono (pe_un un_neg ha) fun σ H Q z0 => el13 z0 fun Z oz en k => ⟨Z, oz, en, fun x H1 s1 i1 => ⟨i, in_int.mp (i1.plain oz), k _ _ s1 (in_int.mpr rfl)⟩⟩
theorem e_addS {x y : Str} (ha : E X m1 ρ a (.str x)) (hb : E X m2 ρ b (.str y)) (hz : x.length + y.length <= sizeLine) : E X true ρ (.BinOp a .Add b pos) (.str (x ++ y)) :=
 e_op op_add_str ha hb fun x y H Z Q _ i1 i2 k => ⟨_, _, in_str.mp i1, in_str.mp i2, hz, k _ _ (Same.refl H) (in_str.mpr rfl)⟩
theorem t_ltI {i j : Int} (ha : E X m1 ρ a (.int i)) (hb : E X m2 ρ b (.int j)) : T X ρ (.Compare a [.Lt] [b] pos) (decide (i < j)) :=
 t_cmp op_lt ha hb (fun x y H Z Q _ i1 i2 k => ⟨_, _, in_int.mp i1, in_int.mp i2, k _ (Same.refl H)⟩) (nomark _)
theorem t_gtI {i j : Int} (ha : E X m1 ρ a (.int i)) (hb : E X m2 ρ b (.int j)) : T X ρ (.Compare a [.Gt] [b] pos) (decide (j < i)) :=
 t_cmp op_gt ha hb (fun x y H Z Q _ i1 i2 k => ⟨_, _, in_int.mp i1, in_int.mp i2, k _ (Same.refl H)⟩) (nomark _)
theorem e_eqI {i j : Int} (ha : E X m1 ρ a (.int i)) (hb : E X m2 ρ b (.int j)) : E X true ρ (.Compare a [.Eq] [b] pos) (.bl (decide (i = j))) :=
 e_cmp op_eq ha hb (fun x y H Z Q _ i1 i2 k => by rw [in_int.mp i1, in_int.mp i2]; exact ⟨rfl, k _ _ (Same.refl H) (in_bl.mpr (by simp))⟩) (nomark _)
theorem t_eqI {i j : Int} (ha : E X m1 ρ a (.int i)) (hb : E X m2 ρ b (.int j)) : T X ρ (.Compare a [.Eq] [b] pos) (decide (i = j)) :=
 t_cmp op_eq ha hb (fun x y H Z Q _ i1 i2 k => by rw [in_int.mp i1, in_int.mp i2]; exact ⟨rfl, by simpa using k _ (Same.refl H)⟩) (nomark _)
theorem tw_and1 {p : Bool} (ha : T X ρ a p) : TW X ρ (.BoolOp .And [a] pos) p := pw_and1 ha
theorem tw_or1 {p : Bool} (ha : T X ρ a p) : TW X ρ (.BoolOp .Or [a] pos) p := pw_or1 ha
theorem tw_and {p q : Bool} {r : List Expr} (ha : T X ρ a p) (hb : p = true -> TW X ρ (.BoolOp .And (b :: r) pos) q) : TW X ρ (.BoolOp .And (a :: b :: r) pos) (p && q) := by
 cases p with
 | true =>
  exact PW.mono (pw_and ha (hb rfl)) fun σ H Q z0 => el13 z0 fun Z oz en k => ⟨Z, oz, en, fun H1 s1 => by
   refine iteT ?_; exact ⟨Z, oz.same s1, en.same s1, fun H2 s2 => k H2 (s1.trans s2)⟩⟩
 | false =>
  exact PW.mono (pw_and (tB' := fun _ _ _ => False) ha (fun wh pins s σ H Q I h => h.elim)) fun σ H Q z0 => el13 z0 fun Z oz en k => ⟨Z, oz, en, fun H1 s1 => by
   refine iteF ?_; exact k H1 s1⟩
theorem tw_or {p q : Bool} {r : List Expr} (ha : T X ρ a p) (hb : p = false -> TW X ρ (.BoolOp .Or (b :: r) pos) q) : TW X ρ (.BoolOp .Or (a :: b :: r) pos) (p || q) := by
 cases p with
 | false =>
  exact PW.mono (pw_or ha (hb rfl)) fun σ H Q z0 => el13 z0 fun Z oz en k => ⟨Z, oz, en, fun H1 s1 => by
   refine iteF ?_; exact ⟨Z, oz.same s1, en.same s1, fun H2 s2 => k H2 (s1.trans s2)⟩⟩
 | true =>
  exact PW.mono (pw_or (tB' := fun _ _ _ => False) ha (fun wh pins s σ H Q I h => h.elim)) fun σ H Q z0 => el13 z0 fun Z oz en k => ⟨Z, oz, en, fun H1 s1 => by
   refine iteT ?_; exact k H1 s1⟩
theorem TW.t {p : Bool} (h : TW X ρ a p) : T X ρ a p := PW.pt h
theorem t_not {p : Bool} (ha : T X ρ a p) : T X ρ (.UnaryOp .Not a pos) (!p) := PT.mono (pt_not ha) fun σ H Q z0 => el13 z0 fun Z oz en k => ⟨Z, oz, en, fun H1 s1 => k H1 s1⟩
theorem t_val {p : Bool} (h : E X m1 ρ e (.bl p)) (he : ∀ whole, isTrue e X.env whole = (do let v <- whole; standAt e.pos; holding [v] (truthy v)) := by intro _; rfl) : T X ρ e p :=
 PT.mono (pt_val h he) fun σ H Q z0 => el13 z0 fun Z oz en k => ⟨Z, oz, en, fun v H1 s1 i1 => ⟨p, in_bl.mp (i1.plain oz), k H1 s1⟩⟩
theorem e_one {op : BoolOp} (h : E X m ρ a d) : E X m ρ (.BoolOp op [a] pos) d := pe_one h
theorem e_and {p : Bool} {q : Bool} {r : List Expr} (ha : E X m1 ρ a (.bl p)) (hb : p = true -> E X m2 ρ (.BoolOp .And (b :: r) pos) (.bl q)) : E X true ρ (.BoolOp .And (a :: b :: r) pos) (.bl (p && q)) := by
 cases p with
 | true =>
  exact PE.mono (pe_and ha (hb rfl)) fun σ H Q z0 => el13 z0 fun Z oz en k => ⟨Z, oz, en, fun v H1 s1 i1 => ⟨true, in_bl.mp (i1.plain oz), by
   refine iteT ?_; exact ⟨Z, oz.same s1, en.same s1, fun w H2 s2 i2 => k w H2 (s1.trans s2) (i2.outflat rfl)⟩⟩⟩
 | false =>
  exact PE.mono (pe_and (tb := fun _ _ _ => False) ha (fun pins s σ H Q I h => h.elim)) fun σ H Q z0 => el13 z0 fun Z oz en k => ⟨Z, oz, en, fun v H1 s1 i1 => ⟨false, in_bl.mp (i1.plain oz), by
   refine iteF ?_; exact k _ H1 s1 (in_bl.mpr rfl)⟩⟩
theorem e_not {p : Bool} (ha : E X m1 ρ a (.bl p)) : E X true ρ (.UnaryOp .Not a pos) (.bl (!p)) :=
 PE.mono (pe_not ha) fun σ H Q z0 => el13 z0 fun Z oz en k => ⟨Z, oz, en, fun v H1 s1 i1 => ⟨p, in_bl.mp (i1.plain oz), k _ H1 s1 (in_bl.mpr rfl)⟩⟩
theorem Ins.atI {K : PySem.W.Frag} {H : Hp} {Z : Zone} {ds : List D} {vs : List V} {i : Int} {d : D} (h : Ins K H Z ds vs) (e : atI ds i = some d) : ∃ v, atI vs i = some v ∧ In K H Z d v := by
 unfold L2.atI at e ⊢
 rw [<- h.length]
 cases q : ixN ds.length i with
 | none => rw [q] at e; cases e
 | some j =>
  rw [q] at e
  exact h.get e
theorem e_ixL {ds : List D} {i : Int} (ha : E X m1 ρ a (.lst ds)) (hb : E X m2 ρ b (.int i)) (h : atI ds i = some d) (hs : PlainIx b := by intro _ _; rfl) : E X m1 ρ (.Subscript a b pos) d :=
 PE.mono (pe_ix ix_list ha hb hs) fun σ H Q z0 => el13 z0 fun Z oz en k => ⟨Z, oz, en, fun x H1 s1 i1 => ⟨Z, oz.same s1, en.same s1, fun y H2 s2 i2 => by
  obtain ⟨p, xs, rfl, l, j⟩ := in_lst.mp (In.same s2 i1)
  obtain ⟨v, e, iv⟩ := j.atI h
  exact ⟨p, xs, i, v, rfl, in_int.mp (i2.plain (oz.same s1)), l.sq, e, k v H2 (s1.trans s2) iv⟩⟩⟩
theorem e_ixT {ds : List D} {i : Int} (ha : E X m1 ρ a (.tup ds)) (hb : E X m2 ρ b (.int i)) (h : atI ds i = some d) (hs : PlainIx b := by intro _ _; rfl) : E X m1 ρ (.Subscript a b pos) d :=
 PE.mono (pe_ix ix_tup ha hb hs) fun σ H Q z0 => el13 z0 fun Z oz en k => ⟨Z, oz, en, fun x H1 s1 i1 => ⟨Z, oz.same s1, en.same s1, fun y H2 s2 i2 => by
  obtain ⟨p, xs, rfl, l, j⟩ := in_tupS (In.same s2 i1)
  obtain ⟨v, e, iv⟩ := j.atI h
  exact ⟨p, xs, i, v, rfl, in_int.mp (i2.plain (oz.same s1)), l, e, k v H2 (s1.trans s2) iv⟩⟩⟩
theorem e_ixS {z : Str} {i : Int} {cp : Nat} (ha : E X m1 ρ a (.str z)) (hb : E X m2 ρ b (.int i)) (hz : z.length <= sizeLine) (h : atI z.cps.toList i = some cp) (hs : PlainIx b := by intro _ _; rfl) : E X true ρ (.Subscript a b pos) (.str ⟨#[cp]⟩) :=
 PE.mono (pe_ix ix_str ha hb hs) fun σ H Q z0 => el13 z0 fun Z oz en k => two (ta := tE X.K m1 ρ (.str z)) (tb := tE X.K m2 ρ (.int i)) oz en fun x y H2 s i1 i2 =>
  ⟨z, i, cp, in_str.mp i1, in_int.mp i2, hz, h, k _ H2 s (in_str.mpr rfl)⟩
def EO (X : Cx) (ρ : List (Option D)) (e : Option Expr) (o : Option Int) : Prop := PO X e (fun σ H Q => ∃ Z : Zone, Z.Open H ∧ EnvIn X.K H Z σ ρ ∧ ∀ H', Same H H' -> Q o H')
theorem PO.mono {e : Option Expr} {t t' : TO} (h : PO X e t) (k : ∀ σ H Q, t' σ H Q -> t σ H Q) : PO X e t' := fun pins s σ H Q I q => h pins s σ H Q I (k σ H Q q)
theorem eo_none : EO X ρ none none := PO.mono po_none fun σ H Q z0 => el13 z0 fun Z oz en k => k H (Same.refl H)
theorem eo_some {i : Int} (h : E X m1 ρ e (.int i)) : EO X ρ (some e) (some i) := PO.mono (po_some h) fun σ H Q z0 => el13 z0 fun Z oz en k => ⟨Z, oz, en, fun v H1 s1 i1 => ⟨i, in_int.mp (i1.plain oz), k H1 s1⟩⟩
def cut {α : Type} (xs : List α) (lo hi : Option Int) : List α := (xs.drop (HT.sIx xs.length 0 lo)).take (HT.sIx xs.length xs.length hi - HT.sIx xs.length 0 lo)
theorem Ins.cut {K : PySem.W.Frag} {H : Hp} {Z : Zone} {ds : List D} {vs : List V} (h : Ins K H Z ds vs) (lo hi : Option Int) : Ins K H Z (cut ds lo hi) (cutV vs lo hi) := by
 unfold Y.cut cutV
 rw [h.length]
 exact (h.drop _).take _
variable {lo hi : Option Expr} {l u : Option Int} {p2 : Pos}
theorem e_slL {ds : List D} (ha : E X m1 ρ a (.lst ds)) (hl : EO X ρ lo l) (hu : EO X ρ hi u) (hm : m = true -> m1 = true ∨ flats (cut ds l u) = true := by intro h; first | exact .inl h | cases h) : E X m ρ (.Subscript a (.Slice lo hi none p2) pos) (.lst (cut ds l u)) :=
 PE.mono (pe_slice sl_list ha hl hu) fun σ H Q z0 => el13 z0 fun Z oz en k => ⟨Z, oz, en, fun x H1 s1 i1 => ⟨Z, oz.same s1, en.same s1, fun H2 s2 => ⟨Z, oz.same (s1.trans s2), en.same (s1.trans s2), fun H3 s3 => by
  have s := (s1.trans s2).trans s3
  have i3 : In X.K H3 (out m1 Z H) (.lst ds) x := In.same (s2.trans s3) i1
  obtain ⟨p, xs, rfl, lq, j⟩ := in_lst.mp i3
  refine ⟨p, xs, rfl, lq.sq, fun q hq => k (.ref q) _ (s.trans (same_new hq)) (in_lst.mpr ⟨q, _, rfl, .inl ⟨upd_same, ?_⟩, ?_⟩)⟩
  · cases m
    · exact oz q (s.free hq)
    · exact s.free hq
  · have jc := (j.cut l u).same (same_new (o := .lst (cutV xs l u)) hq)
    cases m
    · cases m1
      · exact jc
      · exact jc.up oz
    · rcases hm rfl with h | h
      · subst h; exact jc
      · exact jc.flat' h⟩⟩⟩
end
end Y
namespace Y
open PySem PySem.Spec PyProof.Rows L2
variable [Tabs]
def clOf (cells : List (Str × Addr)) : List (Str × NameKind) -> List (Str × Addr) -> List (Str × Addr)
 | [], acc => acc
 | (n, k) :: r, acc => if k == .free then clOf cells r ((n, (cells.lookup n).getD 0) :: acc) else clOf cells r acc
theorem clOf_sub {cells : List (Str × Addr)} : ∀ {names : List (Str × NameKind)} {acc : List (Str × Addr)}, (∀ y ∈ names, y.2 = .free -> ∃ c, cells.lookup y.1 = some c) -> (∀ x c, acc.lookup x = some c -> cells.lookup x = some c) ->
 ∀ x c, (clOf cells names acc).lookup x = some c -> cells.lookup x = some c
 | [], _, _, h2, x, c, e => h2 x c e
 | (n, k) :: r, acc, h1, h2, x, c, e => by
  unfold clOf at e
  by_cases hk : (k == NameKind.free) = true
  · rw [if_pos hk] at e
    refine clOf_sub (fun y hy => h1 y (List.mem_cons_of_mem _ hy)) (fun y c' e' => ?_) x c e
    obtain ⟨c0, e0⟩ := h1 (n, k) List.mem_cons_self (by simpa using hk)
    rw [List.lookup_cons] at e'
    cases hy : y == n with
    | true =>
     rw [hy] at e'
     simp at e'
     have : y = n := by simpa using hy
     subst this
     rw [e0] at e' ⊢
     simpa using e'
    | false =>
     rw [hy] at e'
     exact h2 y c' e'
  · rw [if_neg hk] at e
    exact clOf_sub (fun y hy => h1 y (List.mem_cons_of_mem _ hy)) h2 x c e
theorem clOf_acc {cells : List (Str × Addr)} : ∀ {names : List (Str × NameKind)} {acc : List (Str × Addr)} {x : Str}, (∃ c, acc.lookup x = some c) -> ∃ c, (clOf cells names acc).lookup x = some c
 | [], _, _, h => h
 | (n, k) :: r, acc, x, h => by
  unfold clOf
  by_cases hk : (k == NameKind.free) = true
  · rw [if_pos hk]
    refine clOf_acc ?_
    rw [List.lookup_cons]
    cases hy : x == n with
    | true => exact ⟨_, rfl⟩
    | false => exact h
  · rw [if_neg hk]; exact clOf_acc h
theorem clOf_has {cells : List (Str × Addr)} : ∀ {names : List (Str × NameKind)} {acc : List (Str × Addr)} {x : Str}, (x, NameKind.free) ∈ names -> ∃ c, (clOf cells names acc).lookup x = some c
 | [], _, _, h => by cases h
 | (n, k) :: r, acc, x, h => by
  unfold clOf
  rcases List.mem_cons.mp h with e | h
  · cases e
    rw [if_pos (by decide)]
    exact clOf_acc ⟨(cells.lookup n).getD 0, by rw [List.lookup_cons]; simp⟩
  · by_cases hk : (k == NameKind.free) = true
    · rw [if_pos hk]; exact clOf_has h
    · rw [if_neg hk]; exact clOf_has h
theorem closure_of {scope : Scope} {env : Env} (h : ∀ y ∈ scope.names, y.2 = .free -> ∃ c, env.cells.lookup y.1 = some c) : closureFor scope env = pure (clOf env.cells scope.names []) := by
 have key : ∀ (names : List (Str × NameKind)) (acc : List (Str × Addr)), (∀ y ∈ names, y.2 = .free -> ∃ c, env.cells.lookup y.1 = some c) ->
  (forIn names acc fun (x : Str × NameKind) (cs : List (Str × Addr)) => (match x with
   | (name, kind) => if (kind == NameKind.free) = true then do let a <- cellOf env name; pure (ForInStep.yield ((name, a) :: cs)) else pure (ForInStep.yield cs)) : Sem (List (Str × Addr))) = pure (clOf env.cells names acc) := by
  intro names
  induction names with
  | nil => intro acc _; rfl
  | cons y r ih =>
   intro acc hy
   obtain ⟨n, k⟩ := y
   rw [List.forIn_cons]
   unfold clOf
   by_cases hk : (k == NameKind.free) = true
   · obtain ⟨c, e⟩ := hy (n, k) List.mem_cons_self (by simpa using hk)
     have e1 : cellOf env n = pure c := by unfold cellOf; rw [e]
     simp only [hk, if_true, e1, pure_bind]
     rw [ih _ fun z hz => hy z (List.mem_cons_of_mem _ hz), e]
     rfl
   · simp only [hk, if_false, pure_bind]
     exact ih _ fun z hz => hy z (List.mem_cons_of_mem _ hz)
 unfold closureFor
 have k := key scope.names [] h
 first
  | (simp only [bind_pure]; exact k)
  | (rw [k]; rfl)
  | exact k
theorem lookup_relabel {env : Env} {P : NameKind -> Prop} (hP : P .free -> P .cell) : ∀ {names : List (Str × NameKind)} {x : Str} {k : NameKind}, names.lookup x = some k -> P k ->
 ∃ k', (names.map fun (n, k) => if (k == NameKind.free && env.scope.kind == .function && env.kindOf n == some .cell) then (n, NameKind.cell) else (n, k)).lookup x = some k' ∧ P k'
 | [], _, _, h, _ => by simp at h
 | (n, k0) :: r, x, k, h, p => by
  have ih := @lookup_relabel env P hP r x k
  show ∃ k', List.lookup x ((if (k0 == NameKind.free && env.scope.kind == .function && env.kindOf n == some .cell) = true then (n, NameKind.cell) else (n, k0)) :: _) = some k' ∧ P k'
  cases hx : x == n with
  | true =>
   simp only [List.lookup_cons, hx] at h
   have hk : k0 = k := Option.some.inj h
   subst hk
   by_cases hc : (k0 == NameKind.free && env.scope.kind == .function && env.kindOf n == some .cell) = true
   · rw [if_pos hc]; simp only [List.lookup_cons, hx]
     refine ⟨_, rfl, ?_⟩
     have : k0 = .free := by simp at hc; exact hc.1.1
     subst this
     exact hP p
   · rw [if_neg hc]; simp only [List.lookup_cons, hx]; exact ⟨_, rfl, p⟩
  | false =>
   simp only [List.lookup_cons, hx] at h
   by_cases hc : (k0 == NameKind.free && env.scope.kind == .function && env.kindOf n == some .cell) = true
   · rw [if_pos hc]; simp only [List.lookup_cons, hx]; exact ih h p
   · rw [if_neg hc]; simp only [List.lookup_cons, hx]; exact ih h p
theorem unlook_relabel {env : Env} : ∀ {names : List (Str × NameKind)} {x : Str} {k' : NameKind}, (names.map fun (n, k) => if (k == NameKind.free && env.scope.kind == .function && env.kindOf n == some .cell) then (n, NameKind.cell) else (n, k)).lookup x = some k' ->
 ∃ k, (x, k) ∈ names ∧ (k' = k ∨ k = .free)
 | [], _, _, h => by simp at h
 | (n, k0) :: r, x, k', h => by
  have ih := @unlook_relabel env r x k'
  have h' : List.lookup x ((if (k0 == NameKind.free && env.scope.kind == .function && env.kindOf n == some .cell) = true then (n, NameKind.cell) else (n, k0)) :: (r.map fun (n, k) => if (k == NameKind.free && env.scope.kind == .function && env.kindOf n == some .cell) then (n, NameKind.cell) else (n, k))) = some k' := h
  cases hx : x == n with
  | true =>
   have hxn : x = n := by simpa using hx
   subst hxn
   by_cases hc : (k0 == NameKind.free && env.scope.kind == .function && env.kindOf x == some .cell) = true
   · have : k0 = .free := by simp at hc; exact hc.1.1
     exact ⟨k0, List.mem_cons_self, .inr this⟩
   · rw [if_neg hc] at h'; simp only [List.lookup_cons, hx] at h'
     cases h'
     exact ⟨k0, List.mem_cons_self, .inl rfl⟩
  | false =>
   have h2 : List.lookup x (r.map fun (n, k) => if (k == NameKind.free && env.scope.kind == .function && env.kindOf n == some .cell) then (n, NameKind.cell) else (n, k)) = some k' := by
    by_cases hc : (k0 == NameKind.free && env.scope.kind == .function && env.kindOf n == some .cell) = true
    · rw [if_pos hc] at h'; simp only [List.lookup_cons, hx] at h'; exact h'
    · rw [if_neg hc] at h'; simp only [List.lookup_cons, hx] at h'; exact h'
   obtain ⟨k, a, b⟩ := ih h2
   exact ⟨k, List.mem_cons_of_mem _ a, b⟩
def CapOk (X : Cx) : List Str -> List Nat -> Prop
 | [], [] => True
 | y :: ys, j :: js => (X.N[j]? = some y ∧ (X.env.scope.names.lookup y = some .cell ∨ X.env.scope.names.lookup y = some .free)) ∧ CapOk X ys js
 | _, _ => False
theorem CapOk.at {X : Cx} : ∀ {caps : List Str} {js : List Nat}, CapOk X caps js -> ∀ (k : Nat) y j, caps[k]? = some y -> js[k]? = some j -> X.N[j]? = some y ∧ (X.env.scope.names.lookup y = some .cell ∨ X.env.scope.names.lookup y = some .free)
 | [], _, _, _, _, _, e, _ => by simp at e
 | _ :: _, [], h, _, _, _, _, _ => by exact False.elim h
 | y :: ys, j :: js, h, 0, _, _, e1, e2 => by simp at e1 e2; subst e1 e2; exact h.1
 | y :: ys, j :: js, h, k + 1, y', j', e1, e2 => h.2.at k y' j' (by simpa using e1) (by simpa using e2)
theorem CapOk.len {X : Cx} : ∀ {caps : List Str} {js : List Nat}, CapOk X caps js -> js.length = caps.length
 | [], [], _ => rfl
 | [], _ :: _, h => False.elim h
 | _ :: _, [], h => False.elim h
 | _ :: _, _ :: _, h => by simp [h.2.len]
structure BlkScope (X : Cx) (scope : Scope) (own caps : List Str) (js : List Nat) : Prop where
 kind : scope.kind = .function
 nocell : ∀ y ∈ scope.names, y.2 ≠ .cell
 names : ∀ y ∈ scope.names, y.2 = .local -> scope.names.lookup y.1 = some .local
 nd : (own ++ caps).Nodup
 own : ∀ y ∈ own, scope.names.lookup y = some .local
 capf : ∀ y ∈ caps, (y, NameKind.free) ∈ scope.names ∧ scope.names.lookup y = some .free
 capO : CapOk X caps js
 free : ∀ y ∈ scope.names, y.2 = .free -> y.1 ∈ caps
def blk (X : Cx) (N' : List Str) (scope : Scope) (C : Addr) (s : Shared) (H : Hp) (fp : List Addr) : Cx :=
 { X with N := N', s₀ := s, H₀ := H, env := compEnvC scope (clOf X.env.cells scope.names []) C X.env, outer := X.stack, ex := fp, fn := fun _ => false, pn := [], xe := fun _ _ => False }
def capsOf (js : List Nat) (σ : St) : St := js.map fun j => (σ[j]?).join
section
variable {X : Cx} {pins : List (Addr × Obj)} {σ : St} {H H' : Hp} {s : Shared} {scope : Scope} {own caps : List Str} {js : List Nat} {fp : List Addr}
theorem BlkScope.cells (B : BlkScope X scope own caps js) (ok : X.Ok) : ∀ y ∈ scope.names, y.2 = .free -> ∃ c, X.env.cells.lookup y.1 = some c := fun y hy hf => by
 obtain ⟨k, hk⟩ := List.getElem?_of_mem (B.free y hy hf)
 have hj : k < js.length := by rw [B.capO.len]; exact (List.getElem?_eq_some_iff.mp hk).1
 obtain ⟨_, h⟩ := B.capO.at k y.1 js[k] hk (by simp [hj])
 exact ok.has y.1 h
theorem inv_blk (B : BlkScope X scope own caps js) (I : Inv X pins σ H s) (hf : ∀ b ∈ fp, FpOk X pins H b) (ho : ∀ b ∈ fp, b < s.heap.objs.size) {h4 : Heap} {tk : Nat}
 (hn : h4.Ns (s.heap.objs.size + 1) (fun _ => none)) (hk : ∀ b o, s.heap.get? b = some o -> h4.get? b = some o)
 (hl : h4.get? s.heap.objs.size = some { cls := .type "list", data := .seq ([] : List Value).toArray 0 }) :
 Inv (blk X (own ++ caps) scope (s.heap.objs.size + 1) s H fp) [] (own.map (fun _ => none) ++ capsOf js σ) (upd H s.heap.objs.size (.lst [])) { s with heap := h4, toks := tk } := by
 have fresh : H s.heap.objs.size = none := I.hok.fresh (Nat.le_refl _)
 have freshC : H (s.heap.objs.size + 1) = none := I.hok.fresh (Nat.le_succ _)
 have hcl := B.cells I.ok
 have sub := clOf_sub (acc := []) hcl (fun x c e => by simp at e)
 have ok' : (blk X (own ++ caps) scope (s.heap.objs.size + 1) s H fp).Ok := by
  refine ⟨I.ok.mod, B.kind, I.ok.glob, I.ok.blt, Nat.le_succ _, fun x y c h1 h2 => I.ok.inj x y c (sub x c h1) (sub y c h2), fun x hx => ?_, fun x c hx => (nomatch hx), I.ok.hd, I.ok.frames, .inl rfl, fun b hb => ⟨?_, fun x c e => ?_⟩, I.bs, Nat.le_trans I.ok.bsz I.sz, fun b o e hb => ?_, fun b hb hs => ?_, I.stack, I.stkFree⟩
  · have hx' : ∃ k', (scope.names.map fun (n, k) => if (k == NameKind.free && X.env.scope.kind == .function && X.env.kindOf n == some .cell) then (n, NameKind.cell) else (n, k)).lookup x = some k' ∧ (k' = .cell ∨ k' = .free) := by
     rcases hx with e | e
     · exact ⟨_, e, .inl rfl⟩
     · exact ⟨_, e, .inr rfl⟩
    obtain ⟨k', e, hk'⟩ := hx'
    obtain ⟨k, hm, q⟩ := unlook_relabel e
    have hfree : k = .free := by
     rcases q with q | q
     · subst q
       rcases hk' with z | z
       · exact absurd z (B.nocell _ hm)
       · exact z
     · exact q
    subst hfree
    exact clOf_has hm
  · exact Nat.ne_of_lt (Nat.lt_succ_of_lt (ho b hb))
  · exact (hf b hb).2.2.2.2.1 x c (sub x c e)
  · rcases (hf b hb).2.2.2.1 with z | z
    · exact I.ok.noex b o e z
    · exact absurd (Nat.lt_of_lt_of_le (Heap.lt_size e) (Nat.le_trans I.ok.bsz z)) (Nat.lt_irrefl _)
  · rcases List.mem_cons.mp (I.stkSub b hs) with z | z
    · exact (hf b hb).2.1 z
    · exact (hf b hb).2.2.1 z
 refine ⟨ok', rfl, I.bare, Un.laid hk (Nat.le_refl _) fresh, ⟨_, hn, fun i x v e1 e2 e3 => ?_⟩, fun x c e => ?_, ?_, fun x c e => ?_, fun p hp => absurd (show p ∈ ([] : List (Addr × Obj)) from hp) (by simp), I.hok.laid hk (Nat.le_refl _) ⟨Nat.zero_le _, [], 0, .nil, hl⟩, ?_⟩
 · have e1 : (own ++ caps)[i]? = some x := e1
   have hi : ¬ i < own.length := fun hi => by
    rw [List.getElem?_append_left (by simpa using hi), List.getElem?_map] at e2
    cases q : own[i]? with
    | none => rw [q] at e2; cases e2
    | some y => rw [q] at e2; cases e2
   rw [List.getElem?_append_right (by simpa using hi)] at e2
   rw [List.getElem?_append_right (by simpa using hi)] at e1
   rw [List.length_map] at e2
   unfold capsOf at e2
   rw [List.getElem?_map] at e2
   cases q : js[i - own.length]? with
   | none => rw [q] at e2; cases e2
   | some j =>
    rw [q] at e2
    have e2 : (σ[j]?).join = some v := by simpa using e2
    have e2' : σ[j]? = some (some v) := by
     cases z : σ[j]? with
     | none => rw [z] at e2; cases e2
     | some w => rw [z] at e2; simpa using e2
    obtain ⟨c1, c2⟩ := B.capO.at _ x j e1 q
    obtain ⟨m, _, hl'⟩ := I.loc
    obtain ⟨u, r, lk⟩ := hl' j x v c1 e2' (c2.elim (fun z => .inr (.inl z)) fun z => .inr (.inr z))
    refine ⟨u, r, ?_⟩
    rcases lk with ⟨z, _⟩ | ⟨_, c, ec, cell⟩
    · have z : X.env.scope.names.lookup x = some .local := z
      rcases c2 with c2 | c2 <;> (rw [c2] at z; cases z)
    · have hfr := B.capf x (List.mem_of_getElem? e1)
      obtain ⟨k', ek, pk⟩ := lookup_relabel (env := X.env) (P := fun k => k = .cell ∨ k = .free) (fun _ => .inl rfl) hfr.2 (.inr rfl)
      refine .inr ⟨?_, c, ?_, ?_⟩
      · rcases pk with rfl | rfl
        · exact .inl ek
        · exact .inr ek
      · obtain ⟨c', e'⟩ := clOf_has (cells := X.env.cells) (acc := []) hfr.1
        have := sub x c' e'
        rw [ec] at this
        cases this
        exact e'
      · obtain ⟨oo, ho', hd'⟩ := cell
        exact ⟨oo, hk _ _ ho', hd'⟩
 · obtain ⟨v, oo, ho', hd'⟩ := I.cell x c (sub x c e)
   exact ⟨v, oo, hk _ _ ho', hd'⟩
 · show (upd H s.heap.objs.size (.lst [])) (s.heap.objs.size + 1) = none
   rw [upd_ne (Nat.succ_ne_self _)]; exact freshC
 · obtain ⟨v, oo, ho', hd'⟩ := I.cell x c (sub x c e)
   rw [upd_ne (Nat.ne_of_lt (Heap.lt_size ho'))]
   exact I.freeC x c (sub x c e)
 · show _ = (own ++ caps).length
   unfold capsOf
   rw [List.length_append, List.length_append, List.length_map, List.length_map, B.capO.len]
theorem inv_back {C : Addr} {σ' : St} {pl : List (Addr × Obj)} {s' : Shared} {h' : Heap} (I : Inv X pins σ H s) (hf : ∀ b ∈ fp, FpOk X pins H b) (I' : Inv (blk X (own ++ caps) scope C s H fp) pl σ' H' s') (hC : s.heap.objs.size <= C) (hs : Heap.SameBut C s'.heap h') :
 Inv X pins σ H' { s' with heap := h' } := by
 have neC : ∀ b o, s.heap.get? b = some o -> b ≠ C := fun b o e => Nat.ne_of_lt (Nat.lt_of_lt_of_le (Heap.lt_size e) hC)
 have freeC : H' C = none := I'.free
 have b' : Un (frs X.stack) fp H H' s.heap s'.heap := I'.base
 refine I.call' (s' := { s' with heap := h' }) (ch := fp) I'.os ⟨fun b o e n hb hx => (hs.2 b (neC b o e)).trans (b'.keep b o e n hb hx), fun b o e n hb hx => ?_, b'.free, fun b o e hx => ?_, b'.tups, b'.frzs, b'.tbls⟩ (fun b ob e => ?_) I'.bare fun b hb => ?_
 · obtain ⟨sl, e1⟩ := b'.slot b o e n hb hx
   exact ⟨sl, (hs.2 b (neC b o e)).trans e1⟩
 · obtain ⟨o', e1⟩ := b'.there b o e hx
   exact ⟨o', (hs.2 b (neC b o e)).trans e1⟩
 · refine (I'.hok b ob e).stay (fun c w' hc q => (hs.2 c ?_).trans q) (fun _ q => q) fun _ _ q => q
   rintro rfl
   rcases hc with rfl | hc
   · rw [freeC] at e; cases e
   · rw [freeC] at hc; cases hc
 · exact ⟨(hf b hb).2.2.2.1, (hf b hb).2.1, (hf b hb).2.2.2.2.1, (hf b hb).2.2.2.2.2⟩
end
theorem sure {α : Type} {M : Model} {A : Around} {m : Sem α} {P Q : α -> Shared -> Prop} {E : Value -> Shared -> Prop} {s : Shared} (h : wpAny M A m P (fun _ _ => False) s) (k : ∀ a s, P a s -> Q a s) : wpAny M A m Q E s := wpAny_mono h k fun _ _ f => f.elim
def PTs (X : Cx) (ifs : List Expr) (t : TT) : Prop := ∀ (pins : List (Addr × Obj)) (s : Shared) (σ : St) (H : Hp) (Q : Bool -> Hp -> Prop), Inv X pins σ H s -> t σ H Q ->
 wpAny (model X.prog X.w) X.A (forIn ifs true fun c r => if r = true then do let ok <- isTrue c X.env (eval c X.env); pure (ForInStep.yield ok) else pure (ForInStep.yield r)) (TP X pins σ Q) X.xe s
theorem pts_nil {X : Cx} : PTs X [] (fun _ H Q => Q true H) := fun pins s σ H Q I h => wpAny_tests_nil ⟨H, I, h⟩
def tComp (wi : TI) (n : Nat) (js : List Nat) (g : TG) (tc : Nat -> TT) (te : Nat -> TE) : TE := fun σ H Q => wi σ H fun J H1 => ∀ l, H1 l = none ->
 ∃ W : Nat -> Nat -> List V -> Hp -> Prop, (∃ m, W 0 m [] (upd H1 l (.lst []))) ∧ ∀ i m xs H ow, ow.length = n -> W i m xs H -> H l = some (.lst xs) ∧
  ((J.stop i H ∧ Q (.ref l) H) ∨ (J.go i H ∧ ∀ x H', J.yld i H x H' -> g x (ow ++ capsOf js σ) H' fun σ2 H2 => (∃ ow', ow'.length = n ∧ σ2 = ow' ++ capsOf js σ) ∧
   tc i σ2 H2 fun b H3 => if b = true then te i σ2 H3 fun y H4 => H4 l = some (.lst xs) ∧ xs.length < sizeLine ∧ ∃ m', m' < m ∧ W (i + 1) m' (xs ++ [y]) (upd H4 l (.lst (xs ++ [y])))
    else ∃ m', m' < m ∧ W (i + 1) m' xs H3))
def CompEnd (X : Cx) (pins : List (Addr × Obj)) (σ : St) (Q : VK) (acc : Value) (C : Addr) (s' : Shared) : Prop :=
 ∃ v H', Inv X pins σ H' s' ∧ RelV v acc ∧ Q v H' ∧ (∃ m, s'.heap.Ns C m) ∧ FpOk X pins H' C
theorem comp_core {X : Cx} {elt tg iter : Expr} {ifs : List Expr} {scope : Scope} {pos : Pos} {own caps : List Str} {js : List Nat} {g : TG} {tc : Nat -> TT} {te : Nat -> TE} (hc : X.calm = true) (B : BlkScope X scope own caps js)
 (hg : ∀ C s H fp, PG (blk X (own ++ caps) scope C s H fp) tg g) (ht : ∀ C s H fp i, PTs (blk X (own ++ caps) scope C s H fp) ifs (tc i)) (he : ∀ C s H fp i, PE (blk X (own ++ caps) scope C s H fp) elt (te i))
 {pins : List (Addr × Obj)} {σ : St} {Q : VK} {itv : Value} {s2 : Shared} {RR : Value -> Addr -> Result -> Shared -> Prop} (hRR : ∀ acc C s', CompEnd X pins σ Q acc C s' -> RR acc C (.ok .next) s')
 (h2 : PIE X pins σ tg (fun J H1 => ∀ l, H1 l = none ->
  ∃ W : Nat -> Nat -> List V -> Hp -> Prop, (∃ m, W 0 m [] (upd H1 l (.lst []))) ∧ ∀ i m xs H ow, ow.length = own.length -> W i m xs H -> H l = some (.lst xs) ∧
   ((J.stop i H ∧ Q (.ref l) H) ∨ (J.go i H ∧ ∀ x H', J.yld i H x H' -> g x (ow ++ capsOf js σ) H' fun σ2 H2 => (∃ ow', ow'.length = own.length ∧ σ2 = ow' ++ capsOf js σ) ∧
    tc i σ2 H2 fun b H3 => if b = true then te i σ2 H3 fun y H4 => H4 l = some (.lst xs) ∧ xs.length < sizeLine ∧ ∃ m', m' < m ∧ W (i + 1) m' (xs ++ [y]) (upd H4 l (.lst (xs ++ [y])))
     else ∃ m', m' < m ∧ W (i + 1) m' xs H3))) itv s2) :
 wpAny (model X.prog X.w) X.A (newList []) (fun acc s₃ => wpAny (model X.prog X.w) X.A (newFunctionEnv scope X.env.globals (clOf X.env.cells scope.names []) [] X.env.qual none .none (some X.env)) (fun cenv s₄ =>
  codeAny (model X.prog X.w) X.A (.compStart (.ListComp elt [⟨tg, iter, ifs, 0⟩] scope pos) 0 itv acc { cenv with scope := relabel scope X.env }) (RR acc cenv.locals) s₄) X.xe s₃) X.xe s2 := by
 obtain ⟨it, fp, tn, J, H2, e, I2, TT, st2, f2, q⟩ := h2
 subst e
 have fresh : H2 s2.heap.objs.size = none := I2.hok.fresh (Nat.le_refl _)
 obtain ⟨W, ⟨m0, w0⟩, turn⟩ := q s2.heap.objs.size fresh
 have hlt : ∀ b ∈ fp, b < s2.heap.objs.size := fun b hb => let ⟨o, e, _⟩ := TT.obj _ _ st2 b hb; Heap.lt_size e
 refine wpAny_newObj_type (wpAny_newFunctionEnv B.nocell (by intro y hy; simp at hy) (fun h₁ hns₁ hsb₁ => ?_) B.kind)
 dsimp only at hns₁ hsb₁ ⊢
 generalize hH2 : s2.heap.push { cls := .type "list", dict := none, data := .seq ([] : List Value).toArray } = H3 at hns₁ hsb₁ ⊢
 have hC : H3.objs.size = s2.heap.objs.size + 1 := by rw [<- hH2, Heap.size_push]
 have old : ∀ b o, s2.heap.get? b = some o -> h₁.get? b = some o := fun b o e => hsb₁.extBut b o (by rw [hC]; exact Nat.ne_of_lt (Nat.lt_succ_of_lt (Heap.lt_size e))) (Heap.get?_push_of_some _ (hH2 ▸ Heap.get?_push_of_some _ e))
 have hacc : h₁.get? s2.heap.objs.size = some { cls := .type "list", data := .seq ([] : List Value).toArray 0 } :=
  hsb₁.extBut _ _ (by rw [hC]; exact Nat.ne_of_lt (Nat.lt_succ_self _)) (Heap.get?_push_of_some _ (hH2 ▸ Heap.get?_push_size _ rfl))
 have hns : h₁.Ns (s2.heap.objs.size + 1) (fun _ => none) := by rw [<- hC]; exact hns₁
 have I4 : ∀ tk, Inv (blk X (own ++ caps) scope (s2.heap.objs.size + 1) s2 H2 fp) [] (own.map (fun _ => none) ++ capsOf js σ) (upd H2 s2.heap.objs.size (.lst [])) { s2 with heap := h₁, toks := tk } := fun tk => inv_blk B I2 f2 hlt hns old hacc
 rw [hC]
 -- what stays of the iterator
 have stat : ∀ {H' : Hp}, (∀ b ∈ fp, H' b = none) -> ∀ b ∈ fp, FpOk (blk X (own ++ caps) scope (s2.heap.objs.size + 1) s2 H2 fp) [] H' b := fun {H'} hn b hb => by
  have F := (I4 0).ok
  exact ⟨hn b hb, (F.exf b hb).1, F.exfs b hb, .inl hb, (F.exf b hb).2, fun p hp => absurd (show p ∈ ([] : List (Addr × Obj)) from hp) (by simp)⟩
 have loop : ∀ s3 : Shared, s3 = { s2 with heap := h₁, toks := s2.toks + ([] : List (Str × Value)).length } ->
  codeAny (model X.prog X.w) X.A (.compLoop (.ListComp elt [⟨tg, iter, ifs, 0⟩] scope pos) 0 (.ref it) (.ref s2.heap.objs.size) (compEnvC scope (clOf X.env.cells scope.names []) (s2.heap.objs.size + 1) X.env))
   (RR (.ref s2.heap.objs.size) (s2.heap.objs.size + 1)) s3 := by
  rintro s3 rfl
  refine codeAny_loop rfl (fun n s' => ∃ i xs ow H', ow.length = own.length ∧ Inv (blk X (own ++ caps) scope (s2.heap.objs.size + 1) s2 H2 fp) [] (ow ++ capsOf js σ) H' s' ∧ tn i s'.heap ∧ (∀ b ∈ fp, H' b = none) ∧ W i n xs H') ?_ m0
   ⟨0, [], own.map (fun _ => none), _, by simp, I4 _, TT.keep _ _ _ st2 fun b _ o e => old b o e, fun b hb => by rw [upd_ne (Nat.ne_of_lt (hlt b hb))]; exact (f2 b hb).1, w0⟩
  rintro n s4 ⟨i, xs, ow, H4, how, I5, st4, fr4, w4⟩
  obtain ⟨hl4, q4⟩ := turn i n xs H4 ow how w4
  refine wpAny_noted ?_
  refine cast (congrArg (fun m => wpAny (model X.prog X.w) X.A m _ _ s4) (compTurn_list _ _ _ _ _ _ _ _ _).symm) ?_
  refine wpAny_bind (wpAny_standAt (wpAny_bind ?_))
  rcases q4 with ⟨stop, qn⟩ | ⟨go, step⟩
  · refine sure (TT.done (blk X (own ++ caps) scope (s2.heap.objs.size + 1) s2 H2 fp) rfl rfl rfl hc i [] s4 _ H4 _ I5 (stat fr4) st4 stop) fun r s6 ⟨hr, I6⟩ => ?_
    subst hr
    obtain ⟨m, hm, _⟩ := I6.loc
    refine wpAny_pure (hRR _ _ _ ⟨.ref s2.heap.objs.size, H4, inv_back I2 f2 I6 (Nat.le_succ _) (Heap.SameBut.refl ..), rfl, qn, ⟨m, hm⟩, I2.fpOk (Nat.le_succ _) I6.free⟩)
  · refine sure (TT.item (blk X (own ++ caps) scope (s2.heap.objs.size + 1) s2 H2 fp) rfl rfl rfl hc i [] s4 _ H4 (fun _ _ => False) I5 (stat fr4) st4 go) fun r s6 ⟨u, hr, h6⟩ => ?_
    subst hr
    refine wpAny_bind (sure h6 fun _ s7 ⟨x, H7, I7, r7, y7, st7, fr7⟩ => ?_)
    have I7' := I7.pinned (stat fr7) (TT.obj _ _ st7)
    refine wpAny_bind (sure (hg _ _ _ _ _ s7 _ H7 x u _ I7' r7 (step x H7 y7)) fun _ s8 ⟨σ8, H8, I8, ⟨ow', how', eσ⟩, q8⟩ => ?_)
    subst eσ
    refine wpAny_bind (sure (ht _ _ _ _ i _ s8 _ H8 _ I8 q8) fun b s9 ⟨H9, I9, q9⟩ => ?_)
    have again : ∀ {H10 : Hp} {s10 : Shared}, Inv (blk X (own ++ caps) scope (s2.heap.objs.size + 1) s2 H2 fp) ([] ++ pinsAt fp s7.heap) (ow' ++ capsOf js σ) H10 s10 -> tn (i + 1) s10.heap ∧ ∀ b ∈ fp, H10 b = none := fun {H10 s10} I10 => by
     refine ⟨TT.keep _ _ _ st7 fun b hb o e => (I10.pin (b, o) (List.mem_append_right _ (List.mem_append_right _ (mem_pinsAt hb e)))).1, fun b hb => ?_⟩
     obtain ⟨o, e, d⟩ := TT.obj _ _ st7 b hb
     exact (I10.pin (b, o) (List.mem_append_right _ (List.mem_append_right _ (mem_pinsAt hb e)))).2.1
    cases b with
    | false =>
     rw [if_neg Bool.false_ne_true] at q9
     obtain ⟨m', hm, w9⟩ := q9
     exact wpAny_pure ⟨rfl, m', hm, i + 1, xs, ow', H9, how', I9.unpinned, (again I9).1, (again I9).2, w9⟩
    | true =>
     rw [if_pos rfl] at q9
     refine wpAny_bind (wpAny_bind (sure (he _ _ _ _ i _ s9 _ H9 _ I9 q9) fun y s10 ⟨z, H10, I10, r10, hl10, hz, m', hm, w10⟩ => wpAny_bind ?_))
     refine sure (mt_append _ s10 _ H10 (.ref s2.heap.objs.size) [z] (.ref s2.heap.objs.size) [y] (fun _ H' => H' = upd H10 s2.heap.objs.size (.lst (xs ++ [z]))) I10 rfl (.cons r10 .nil) ⟨_, xs, z, rfl, rfl, hl10, hz, rfl⟩) fun _ s11 ⟨_, H11, I11, _, e11⟩ => ?_
     subst e11
     exact wpAny_pure (wpAny_pure ⟨rfl, m', hm, i + 1, xs ++ [z], ow', _, how', I11.unpinned, (again I11).1, (again I11).2, w10⟩)
 exact codeAny_compStart_list (loop _ rfl) (TT.self _ 0 _ _ _ (TT.keep _ _ _ st2 fun b _ o e => old b o e) (loop _ rfl))
theorem away {X : Cx} {pins : List (Addr × Obj)} {σ : St} {H : Hp} {s : Shared} {C : Addr} {h' : Heap} (I : Inv X pins σ H s) (f : FpOk X pins H C) (hs : Heap.SameBut C s.heap h') : Inv X pins σ H { s with heap := h' } :=
 I.turned (t' := s.toks) (fun b o hb e => (hs.2 b hb).trans e) f.1 f.2.1 f.2.2.2.1 f.2.2.2.2.1 f.2.2.2.2.2
theorem pe_comp {X : Cx} {elt tg iter : Expr} {ifs : List Expr} {scope : Scope} {pos : Pos} {wi : TI} {own caps : List Str} {js : List Nat} {g : TG} {tc : Nat -> TT} {te : Nat -> TE} (hc : X.calm = true) (B : BlkScope X scope own caps js) (hi : PI X tg iter wi)
 (hg : ∀ C s H fp, PG (blk X (own ++ caps) scope C s H fp) tg g) (ht : ∀ C s H fp i, PTs (blk X (own ++ caps) scope C s H fp) ifs (tc i)) (he : ∀ C s H fp i, PE (blk X (own ++ caps) scope C s H fp) elt (te i))
 (hs : ∀ x, foldedSetIterable iter X.env x = pure x := by intro _; rfl) : PE X (.ListComp elt [⟨tg, iter, ifs, 0⟩] scope pos) (tComp wi own.length js g tc te) := by
 intro pins s σ H Q I h
 rw [eval_ListComp]
 refine wpAny_comprehension_free (use := none) rfl hs (closure_of (B.cells I.ok)) B.kind B.names (thn (hi pins s σ H _ I h) fun v s1 h1 => thn h1 fun itv s2 h2 => ?_)
 refine comp_core (RR := fun acc C => compPost (model X.prog X.w) X.A X.xe none (EP X pins σ Q) acc C) hc B hg ht he (fun acc C s' ⟨v, H', I', r, q, ⟨m, hm⟩, f⟩ => ?_) h2
 exact ⟨m, hm, fun h' hs' => ⟨v, H', away I' f hs', r, q⟩⟩
theorem ps_comp {X : Cx} {elt tg iter : Expr} {ifs : List Expr} {scope : Scope} {pos spos py : Pos} {wi : TI} {own caps : List Str} {js : List Nat} {g : TG} {tc : Nat -> TT} {te : Nat -> TE} {y : Str} {k : Nat} (hN : X.N.Nodup) (hk : X.N[k]? = some y) (hy : Loc X.env.scope y)
 (hc : X.calm = true) (B : BlkScope X scope own caps js) (hi : PI X tg iter wi)
 (hg : ∀ C s H fp, PG (blk X (own ++ caps) scope C s H fp) tg g) (ht : ∀ C s H fp i, PTs (blk X (own ++ caps) scope C s H fp) ifs (tc i)) (he : ∀ C s H fp i, PE (blk X (own ++ caps) scope C s H fp) elt (te i))
 (hsw : swapsWith (.ListComp elt [⟨tg, iter, ifs, 0⟩] scope pos) (some (.Name y py)) spos.line X.env = pure true) (hf : X.fn y = true ∨ X.env.scope.names.lookup y = some .local)
 (hs : ∀ x, foldedSetIterable iter X.env x = pure x := by intro _; rfl) : PS X (.Assign [.Name y py] (.ListComp elt [⟨tg, iter, ifs, 0⟩] scope pos) spos) (tAsg (tComp wi own.length js g tc te) (gName k)) := by
 intro pins s σ H D I h
 rw [exec_Assign_Name_used _ _ _ _ hsw]
 refine wpAny_bind (wpAny_standAt (wpAny_bind ?_))
 show wpAny _ X.A (do let _ <- comprehension (.ListComp elt [⟨tg, iter, ifs, 0⟩] scope pos) scope X.env _ (newList []) false (eval iter X.env) (some (assign (.Name y py) X.env))) _ _ s
 refine wpAny_bind (wpAny_mono (wpAny_comprehension_free (use := some (assign (.Name y py) X.env)) (Q := fun _ s' => SP X pins D .next s') rfl hs (closure_of (B.cells I.ok)) B.kind B.names
  (thn (hi pins s σ H _ I h) fun v s1 h1 => thn h1 fun itv s2 h2 => ?_)) (fun _ s' hq => wpAny_pure (wpAny_pure hq)) fun _ _ e => e)
 refine comp_core (RR := fun acc C => compPost (model X.prog X.w) X.A X.xe (some (assign (.Name y py) X.env)) (fun _ s' => SP X pins D .next s') acc C) (pins := pins) (σ := σ) (Q := fun v H' => D.nx (σ.set k (some v)) H') hc B hg ht he (fun acc C s' ⟨v, H', I', r, q, ⟨m, hm⟩, f⟩ => ?_) h2
 show wpAny _ X.A (assign (.Name y py) X.env acc) _ _ _
 refine wpAny_assign_Name (store_ok2 I' hN hk hy r (fun s'' I'' ⟨a, sb, ha⟩ => ?_) hf)
 have hCa : C ≠ a := by
  rcases ha with rfl | ha
  · exact f.2.1
  · exact fun z => f.2.2.2.2.1 y a ha z.symm
 exact ⟨m, hm.sameBut sb hCa, fun h' hs' => ⟨_, H', away I'' f hs', q⟩⟩
structure Yields (K : PySem.W.Frag) (J : It) (vs : List V) (srcs ds : List D) : Prop where
 go : ∀ (Z : Zone) H, Z.Open H -> Ins K H Z srcs vs -> ∀ (i : Nat) d, ds[i]? = some d -> J.go i H ∧ ∀ x H2, J.yld i H x H2 -> Same H H2 ∧ In K H2 Z d x
 stop : ∀ (Z : Zone) H, Z.Open H -> Ins K H Z srcs vs -> J.stop ds.length H
def tIT (K : PySem.W.Frag) (m : Bool) (ρ : List (Option D)) (ds : List D) : TI := fun σ H R => ∃ Z : Zone, Z.Open H ∧ EnvIn K H Z σ ρ ∧
 ∀ J H' vs srcs, Same H H' -> Ins K H' (out m Z H) srcs vs -> Yields K J vs srcs ds -> R J H'
def IT (X : Cx) (tg : Expr) (m : Bool) (ρ : List (Option D)) (iter : Expr) (ds : List D) : Prop := PI X tg iter (tIT X.K m ρ ds)
theorem PI.mono {X : Cx} {tg iter : Expr} {t t' : TI} (h : PI X tg iter t) (k : ∀ σ H R, t' σ H R -> t σ H R) : PI X tg iter t' := fun pins s σ H R I q => h pins s σ H R I (k σ H R q)
section
variable {X : Cx} {ρ : List (Option D)} {m m1 m2 : Bool} {tg e a b : Expr} {ds : List D} {d : D} {pos p : Pos}
theorem it_list (h : E X m ρ e (.lst ds)) : IT X tg m ρ e ds := PI.mono (pi_list h) fun σ H R z0 => el13 z0 fun Z oz en k => ⟨Z, oz, en, fun v H1 s1 i1 => by
 obtain ⟨a, xs, rfl, l, j⟩ := in_lst.mp i1
 refine ⟨a, rfl, ⟨xs, l.sq⟩, k _ H1 [.ref a] [.lst ds] s1 (Ins.one i1) ⟨fun Z2 H2 o2 j2 i d e => ?_, fun Z2 H2 o2 j2 => ?_⟩⟩
 · obtain ⟨w, r, e1, j3, j4⟩ := ins_cons.mp j2
   cases e1
   obtain ⟨a', ys, e2, l2, j5⟩ := in_lst.mp j3
   cases e2
   obtain ⟨v, e3, iv⟩ := j5.get e
   refine ⟨⟨ys, v, l2.sq, e3⟩, fun x H3 ⟨e4, y⟩ => ?_⟩
   subst e4
   have := y ys l2.sq
   rw [e3] at this
   cases this
   exact ⟨Same.refl _, iv⟩
 · obtain ⟨w, r, e1, j3, j4⟩ := ins_cons.mp j2
   cases e1
   obtain ⟨a', ys, e2, l2, j5⟩ := in_lst.mp j3
   cases e2
   exact ⟨ys, l2.sq, Nat.le_of_eq j5.length.symm⟩⟩
def rangeD (lo : Int) (n : Nat) : List D := (List.range n).map fun i => D.int (lo + (i : Nat))
theorem rangeD_get {lo : Int} {n i : Nat} {d : D} (h : (rangeD lo n)[i]? = some d) : i < n ∧ d = .int (lo + i) := by
 unfold rangeD at h
 rw [List.getElem?_map] at h
 by_cases hi : i < n
 · rw [List.getElem?_range hi] at h
   exact ⟨hi, by simpa using h.symm⟩
 · rw [List.getElem?_eq_none (by simpa using hi)] at h
   cases h
theorem rangeD_len {lo : Int} {n : Nat} : (rangeD lo n).length = n := by simp [rangeD]
theorem yields_range {K : PySem.W.Frag} (lo : Int) (n : Nat) : Yields K (Itr lo n) [] [] (rangeD lo n) :=
 ⟨fun Z H _ _ i d e => by
  obtain ⟨hi, rfl⟩ := rangeD_get e
  refine ⟨hi, fun x H2 ⟨e1, e2⟩ => ?_⟩
  subst e1 e2
  exact ⟨Same.refl _, in_int.mpr rfl⟩, fun Z H _ _ => by rw [rangeD_len]; exact Nat.le_refl n⟩
theorem it_range {n : Int} (h : E X m1 ρ a (.int n)) (hn : n < 2 ^ 62) (hn2 : -(2 ^ 62) <= n) (hm : X.mg "range" = none) (hg : Gl X "range" := by rfl) (hs : starEach [a] X.env = [(false, eval a X.env)] := by rfl) :
 IT X tg m ρ (.Call (.Name "range" p) [a] [] pos) (rangeD 0 n.toNat) :=
 PI.mono (pi_range1 hg hm (pa_cons h pa_nil (by rw [hs]; rfl)) hs) fun σ H R z0 => el13 z0 fun Z oz en k => ⟨Z, oz, en, fun v H1 s1 i1 => ⟨n, by rw [in_int.mp (i1.plain oz)], hn2, hn, k _ H1 [] [] s1 (ins_nil.mpr rfl) (yields_range 0 n.toNat)⟩⟩
theorem it_range2 {lo hi : Int} (h : E X m1 ρ a (.int lo)) (h' : E X m2 ρ b (.int hi)) (q : -(2 ^ 62) <= lo ∧ lo < 2 ^ 62 ∧ -(2 ^ 62) <= hi ∧ hi < 2 ^ 62) (hm : X.mg "range" = none) (hg : Gl X "range" := by rfl)
 (hs : starEach [a, b] X.env = [(false, eval a X.env), (false, eval b X.env)] := by rfl) (hs2 : starEach [b] X.env = [(false, eval b X.env)] := by rfl) :
 IT X tg m ρ (.Call (.Name "range" p) [a, b] [] pos) (rangeD lo (hi - lo).toNat) :=
 PI.mono (pi_range2 hg hm (pa_cons h (pa_cons h' pa_nil (by rw [hs2]; rfl)) (by rw [hs, hs2])) hs hs2) fun σ H R z0 => el13 z0 fun Z oz en k => ⟨Z, oz, en, fun v H1 s1 i1 => ⟨Z, oz.same s1, en.same s1, fun w H2 s2 i2 =>
  ⟨lo, hi, by rw [in_int.mp (i1.plain oz), in_int.mp (i2.plain (oz.same s1))], q, k _ H2 [] [] (s1.trans s2) (ins_nil.mpr rfl) (yields_range lo (hi - lo).toNat)⟩⟩⟩
def TS' (X : Cx) (ρ : List (Option D)) (ifs : List Expr) (b : Bool) : Prop := PTs X ifs (tB' X.K ρ b)
theorem ts_nil : TS' X ρ [] true := fun pins s σ H Q I z0 => el13 z0 fun Z oz en k => pts_nil pins s σ H Q I (k H (Same.refl H))
def capD (js : List Nat) (ρ : List (Option D)) : List (Option D) := js.map fun j => (ρ[j]?).join
theorem envIn_caps {K : PySem.W.Frag} {H : Hp} {Z : Zone} {σ : St} {js : List Nat} (en : EnvIn K H Z σ ρ) {ow : St} {ov : List (Option D)} (hl : ow.length = ov.length) (h : ∀ (i : Nat) d, ov[i]? = some (some d) -> ∃ v, ow[i]? = some (some v) ∧ In K H Z d v) :
 EnvIn K H Z (ow ++ capsOf js σ) (ov ++ capD js ρ) := fun i d e => by
 by_cases hi : i < ov.length
 · rw [List.getElem?_append_left hi] at e
   rw [List.getElem?_append_left (by omega)]
   exact h i d e
 · rw [List.getElem?_append_right (by omega)] at e
   rw [List.getElem?_append_right (by omega), hl]
   unfold capD at e
   unfold capsOf
   rw [List.getElem?_map] at e ⊢
   cases q : js[i - ov.length]? with
   | none => rw [q] at e; cases e
   | some j =>
    rw [q] at e
    have e : (ρ[j]?).join = some d := by simpa using e
    have e' : ρ[j]? = some (some d) := by
     cases z : ρ[j]? with
     | none => rw [z] at e; cases e
     | some w => rw [z] at e; simpa using e
    obtain ⟨v, a, b⟩ := en j d e'
    exact ⟨v, by simp [a], b⟩
def tcD (K : PySem.W.Frag) (js : List Nat) (ρ : List (Option D)) (ds : List D) (p : D -> Bool) (i : Nat) : TT := fun σ H Q => ∃ d, ds[i]? = some d ∧ tB' K ([some d] ++ capD js ρ) (p d) σ H Q
def teD (K : PySem.W.Frag) (js : List Nat) (ρ : List (Option D)) (ds : List D) (p : D -> Bool) (f : D -> D) (me : Bool) (i : Nat) : TE := fun σ H Q => ∃ d, ds[i]? = some d ∧ p d = true ∧ tE K me ([some d] ++ capD js ρ) (f d) σ H Q
theorem comp_reads {js : List Nat} {me : Bool} (p : D -> Bool) (f : D -> D) (hz : ds.length <= sizeLine) (hm : m = true -> me = true ∨ ∀ d ∈ ds, (f d).flat = true) (σ : St) (H : Hp) (Q : VK) (h : tE X.K m ρ (.lst ((ds.filter p).map f)) σ H Q) :
 tComp (tIT X.K m1 ρ ds) 1 js (gName 0) (tcD X.K js ρ ds p) (teD X.K js ρ ds p f me) σ H Q := by
 obtain ⟨Z, oz, en, k⟩ := h
 refine ⟨Z, oz, en, fun J H1 vs srcs s1 i1 Y l hl => ?_⟩
 have hlH : H l = none := s1.free hl
 -- all zones without l
 have noL : ∀ {ds : List D} {vs : List V} {Z' : Zone} {Ha Hb : Hp}, Ha l = none -> Same Ha Hb -> Ins X.K Ha Z' ds vs -> Ins X.K Hb ⟨Z'.m, fun a => Z'.S a ∧ a ≠ l⟩ ds vs := fun {ds vs Z' Ha Hb} ha sa h => Ins.carry (Z' := ⟨Z'.m, fun a => Z'.S a ∧ a ≠ l⟩) (Carry.of sa (fun a zs e z => ⟨z, ne_of_none e ha⟩) fun m => m) h
 have noL1 : ∀ {d : D} {v : V} {Z' : Zone} {Ha Hb : Hp}, Ha l = none -> Same Ha Hb -> In X.K Ha Z' d v -> In X.K Hb ⟨Z'.m, fun a => Z'.S a ∧ a ≠ l⟩ d v := fun {d v Z' Ha Hb} ha sa h => In.carry (Z' := ⟨Z'.m, fun a => Z'.S a ∧ a ≠ l⟩) (Carry.of sa (fun a zs e z => ⟨z, ne_of_none e ha⟩) fun m => m) h
 refine ⟨fun i n xs H' => n = ds.length - i ∧ i <= ds.length ∧ Same H1 H' ∧ H' l = some (.lst xs) ∧ xs.length <= i ∧ Ins X.K H' ⟨(out m Z H).m, fun a => (out m Z H).S a ∧ a ≠ l⟩ (((ds.take i).filter p).map f) xs, ⟨ds.length, by simp, Nat.zero_le _, same_new hl, upd_same, Nat.zero_le _, by simp; exact ins_nil.mpr rfl⟩, ?_⟩
 rintro i n xs H' ow how ⟨rfl, hi', s1', hl', hxi, jx⟩
 refine ⟨hl', ?_⟩
 have srcsZ : Ins X.K H1 Z srcs vs := by
  cases m1
  · exact i1
  · exact i1.up oz
 let Zl : Zone := ⟨Z.m, fun a => Z.S a ∧ a ≠ l⟩
 have opl : ∀ {Ha : Hp} {o : HO}, Same H Ha -> Ha l = some o -> Zl.Open Ha := fun sa e => ⟨fun a ha => ⟨oz.op a (sa.free ha), by rintro rfl; rw [e] at ha; cases ha⟩, sa.tabs oz.tb⟩
 by_cases hlt : i < ds.length
 · have hd : ds[i]? = some ds[i] := by simp [hlt]
   obtain ⟨go, yl⟩ := Y.go Zl H' (opl (s1.trans s1') hl') (noL hl s1' srcsZ) i ds[i] hd
   refine .inr ⟨go, fun y H2 hy => ?_⟩
   obtain ⟨s2, iy⟩ := yl y H2 hy
   have hl2 : H2 l = some (.lst xs) := s2.at hl'
   have sH2 : Same H H2 := (s1.trans s1').trans s2
   obtain ⟨w, rfl⟩ : ∃ w, ow = [w] := by
    match ow, how with
    | [w], _ => exact ⟨w, rfl⟩
   have en2 : EnvIn X.K H2 Zl ([some y] ++ capsOf js σ) ([some ds[i]] ++ capD js ρ) := envIn_caps (fun i d e => let ⟨v, a, b⟩ := en i d e; ⟨v, a, noL1 hlH sH2 b⟩) rfl fun i d e => by
    match i, e with
    | 0, e => cases e; exact ⟨y, rfl, iy⟩
   refine ⟨⟨[some y], rfl, rfl⟩, ds[i], hd, Zl, opl sH2 hl2, en2, fun H3 s3 => ?_⟩
   have hl3 : H3 l = some (.lst xs) := s3.at hl2
   have st : (ds.take (i + 1)).filter p = (ds.take i).filter p ++ (if p ds[i] then [ds[i]] else []) := take_succ_filter p ds i ds[i] hd
   cases hp : p ds[i] with
   | false =>
    refine iteF ?_
    refine ⟨ds.length - (i + 1), by omega, rfl, hlt, (s1'.trans s2).trans s3, hl3, by omega, ?_⟩
    rw [st, hp]
    simp only [Bool.false_eq_true, if_false, List.append_nil]
    exact jx.same (s2.trans s3)
   | true =>
    refine iteT ?_
    refine ⟨ds[i], hd, hp, Zl, opl (sH2.trans s3) hl3, en2.same s3, fun v H4 s4 iv => ?_⟩
    have hl4 : H4 l = some (.lst xs) := s4.at hl3
    refine ⟨hl4, by omega, ds.length - (i + 1), by omega, rfl, hlt, ((s1'.trans s2).trans (s3.trans s4)).write hl hl4, upd_same, by rw [List.length_append]; simp; omega, ?_⟩
    · rw [st, hp]
      simp only [if_true, List.map_append, List.map_cons, List.map_nil]
      have n : ¬ (⟨(out m Z H).m, fun a => (out m Z H).S a ∧ a ≠ l⟩ : Zone).S l := fun z => z.2 rfl
      refine Ins.append ((jx.same (s2.trans (s3.trans s4))).carry (.write hl4 n)) (Ins.one ?_)
      refine In.carry (.write hl4 n) ?_
      cases m with
      | false => exact iv.plain (opl (sH2.trans s3) hl3)
      | true =>
       rcases hm rfl with h | h
       · subst h
         exact In.carry (Z := nw H3) (Z' := ⟨true, fun a => H a = none ∧ a ≠ l⟩) ⟨fun a zs e z => ⟨e, (sH2.trans s3).free z, by rintro rfl; have z : H3 a = none := z; rw [hl3] at z; cases z⟩, fun m => nwF m, fun _ _ e => e⟩ iv
       · exact iv.flat' (h _ (List.getElem_mem hlt))
 · have e : i = ds.length := by omega
   subst e
   refine .inl ⟨Y.stop Zl H' (opl (s1.trans s1') hl') (noL hl s1' srcsZ), k (.ref l) H' (s1.trans s1') (in_lst.mpr ⟨l, xs, rfl, .inl ⟨hl', ?_⟩, ?_⟩)⟩
   · cases m
     · exact oz l hlH
     · exact hlH
   · rw [List.take_length] at jx
     exact Ins.carry (Z := ⟨(out m Z H).m, fun a => (out m Z H).S a ∧ a ≠ l⟩) (Z' := out m Z H) (Carry.of (Same.refl H') (fun a zs e z => And.left z) fun m => m) jx
structure EC (X : Cx) (m : Bool) (ρ : List (Option D)) (e : Expr) (d : D) : Prop where
 val : E X m ρ e d
 s : ∀ (y : Str) (k : Nat) (spos py : Pos), X.N.Nodup -> X.N[k]? = some y -> Loc X.env.scope y -> swapsWith e (some (.Name y py)) spos.line X.env = pure true -> (X.fn y = true ∨ X.env.scope.names.lookup y = some .local) -> PS X (.Assign [.Name y py] e spos) (tAsg (tE X.K m ρ d) (gName k))
theorem EC.cast {d' : D} (h : EC X m ρ e d) (q : d = d') : EC X m ρ e d' := q ▸ h
theorem PS.mono' {X : Cx} {st : Stmt} {t t' : TS} (h : PS X st t) (k : ∀ Q σ H, t' Q σ H -> t Q σ H) : PS X st t' := fun pins s σ H Q I q => h pins s σ H Q I (k Q σ H q)
theorem ec_comp {elt iter : Expr} {x : Str} {px : Pos} {ifs : List Expr} {scope : Scope} {me : Bool} (caps : List Str) (js : List Nat) (p : D -> Bool) (f : D -> D) (hi : IT X (.Name x px) m1 ρ iter ds)
 (ht : ∀ C s H fp d, d ∈ ds -> TS' (blk X ([x] ++ caps) scope C s H fp) ([some d] ++ capD js ρ) ifs (p d)) (he : ∀ C s H fp d, d ∈ ds -> p d = true -> E (blk X ([x] ++ caps) scope C s H fp) me ([some d] ++ capD js ρ) elt (f d))
 (hz : ds.length <= sizeLine) (hm : m = true -> me = true ∨ ∀ d ∈ ds, (f d).flat = true := by intro h; first | exact .inl h | cases h) (hc : X.calm = true := by rfl)
 (B : BlkScope X scope [x] caps js := by exact ⟨rfl, by decide, by decide, by decide, by decide, by decide, by repeat (first | exact trivial | refine ⟨⟨rfl, by first | exact .inl rfl | exact .inr rfl⟩, ?_⟩), by decide⟩)
 (hs : ∀ x, foldedSetIterable iter X.env x = pure x := by intro _; rfl) : EC X m ρ (.ListComp elt [⟨.Name x px, iter, ifs, 0⟩] scope pos) (.lst ((ds.filter p).map f)) := by
 have hg : ∀ C s H fp, PG (blk X ([x] ++ caps) scope C s H fp) (.Name x px) (gName 0) := fun C s H fp => pg_name (i := 0) B.nd rfl (.inl (lookup_relabel_local (B.own x (by simp)))) (.inr (lookup_relabel_local (B.own x (by simp))))
 have ht' : ∀ C s H fp i, PTs (blk X ([x] ++ caps) scope C s H fp) ifs (tcD X.K js ρ ds p i) := fun C s H fp i pins s' σ H' Q I h => by
  obtain ⟨d, hd, h⟩ := h
  exact ht C s H fp d (List.mem_of_getElem? hd) pins s' σ H' Q I h
 have he' : ∀ C s H fp i, PE (blk X ([x] ++ caps) scope C s H fp) elt (teD X.K js ρ ds p f me i) := fun C s H fp i pins s' σ H' Q I h => by
  obtain ⟨d, hd, hp, h⟩ := h
  exact he C s H fp d (List.mem_of_getElem? hd) hp pins s' σ H' Q I h
 refine ⟨PE.mono (pe_comp (own := [x]) (caps := caps) hc B hi hg ht' he' hs) fun σ H Q h => comp_reads p f hz hm σ H Q h, fun y k spos py hN hk hy hsw hf => ?_⟩
 exact PS.mono' (ps_comp (own := [x]) (caps := caps) hN hk hy hc B hi hg ht' he' hsw hf hs) fun Q σ H h => comp_reads p f hz hm σ H _ h
theorem e_comp {elt iter : Expr} {x : Str} {px : Pos} {ifs : List Expr} {scope : Scope} {me : Bool} (caps : List Str) (js : List Nat) (p : D -> Bool) (f : D -> D) (hi : IT X (.Name x px) m1 ρ iter ds)
 (ht : ∀ C s H fp d, d ∈ ds -> TS' (blk X ([x] ++ caps) scope C s H fp) ([some d] ++ capD js ρ) ifs (p d)) (he : ∀ C s H fp d, d ∈ ds -> p d = true -> E (blk X ([x] ++ caps) scope C s H fp) me ([some d] ++ capD js ρ) elt (f d))
 (hz : ds.length <= sizeLine) (hm : m = true -> me = true ∨ ∀ d ∈ ds, (f d).flat = true := by intro h; first | exact .inl h | cases h) (hc : X.calm = true := by rfl)
 (B : BlkScope X scope [x] caps js := by exact ⟨rfl, by decide, by decide, by decide, by decide, by decide, by repeat (first | exact trivial | refine ⟨⟨rfl, by first | exact .inl rfl | exact .inr rfl⟩, ?_⟩), by decide⟩)
 (hs : ∀ x, foldedSetIterable iter X.env x = pure x := by intro _; rfl) : E X m ρ (.ListComp elt [⟨.Name x px, iter, ifs, 0⟩] scope pos) (.lst ((ds.filter p).map f)) := (ec_comp caps js p f hi ht he hz hm hc B hs).val
theorem ec_map {elt iter : Expr} {x : Str} {px : Pos} {scope : Scope} {me : Bool} (caps : List Str) (js : List Nat) (f : D -> D) (hi : IT X (.Name x px) m1 ρ iter ds)
 (he : ∀ C s H fp d, d ∈ ds -> E (blk X ([x] ++ caps) scope C s H fp) me ([some d] ++ capD js ρ) elt (f d)) (hz : ds.length <= sizeLine) (hm : m = true -> me = true ∨ ∀ d ∈ ds, (f d).flat = true := by intro h; first | exact .inl h | cases h) (hc : X.calm = true := by rfl)
 (B : BlkScope X scope [x] caps js := by exact ⟨rfl, by decide, by decide, by decide, by decide, by decide, by repeat (first | exact trivial | refine ⟨⟨rfl, by first | exact .inl rfl | exact .inr rfl⟩, ?_⟩), by decide⟩)
 (hs : ∀ x, foldedSetIterable iter X.env x = pure x := by intro _; rfl) : EC X m ρ (.ListComp elt [⟨.Name x px, iter, [], 0⟩] scope pos) (.lst (ds.map f)) := by
 have h := ec_comp (m := m) (pos := pos) caps js (fun _ => true) f hi (fun C s H fp d hd => ts_nil) (fun C s H fp d hd _ => he C s H fp d hd) hz hm hc B hs
 rwa [List.filter_eq_self.mpr fun _ _ => rfl] at h
theorem e_map {elt iter : Expr} {x : Str} {px : Pos} {scope : Scope} {me : Bool} (caps : List Str) (js : List Nat) (f : D -> D) (hi : IT X (.Name x px) m1 ρ iter ds)
 (he : ∀ C s H fp d, d ∈ ds -> E (blk X ([x] ++ caps) scope C s H fp) me ([some d] ++ capD js ρ) elt (f d)) (hz : ds.length <= sizeLine) (hm : m = true -> me = true ∨ ∀ d ∈ ds, (f d).flat = true := by intro h; first | exact .inl h | cases h) (hc : X.calm = true := by rfl)
 (B : BlkScope X scope [x] caps js := by exact ⟨rfl, by decide, by decide, by decide, by decide, by decide, by repeat (first | exact trivial | refine ⟨⟨rfl, by first | exact .inl rfl | exact .inr rfl⟩, ?_⟩), by decide⟩)
 (hs : ∀ x, foldedSetIterable iter X.env x = pure x := by intro _; rfl) : E X m ρ (.ListComp elt [⟨.Name x px, iter, [], 0⟩] scope pos) (.lst (ds.map f)) := by
 have h := e_comp (m := m) (pos := pos) caps js (fun _ => true) f hi (fun C s H fp d hd => ts_nil) (fun C s H fp d hd _ => he C s H fp d hd) hz hm hc B hs
 rwa [List.filter_eq_self.mpr fun _ _ => rfl] at h
end
mutual
def Tr (K : PySem.W.Frag) (H : Hp) : D -> V -> List Addr -> Prop
 | .lst ds, v, as => ∃ a xs bs, v = .ref a ∧ as = a :: bs ∧ H a = some (.lst xs) ∧ Trs K H ds xs bs
 | .tup ds, v, as => ∃ a xs, v = .ref a ∧ H a = some (.tup xs) ∧ Trs K H ds xs as
 | .non, v, as => as = [] ∧ v = .non
 | .bl b, v, as => as = [] ∧ v = .bl b
 | .int i, v, as => as = [] ∧ v = .int i
 | .str x, v, as => as = [] ∧ v = .str x
 | .dct _, _, _ => False
 | .ktup ks, v, as => as = [] ∧ ∃ a, v = .ref a ∧ KTup K a ks
def Trs (K : PySem.W.Frag) (H : Hp) : List D -> List V -> List Addr -> Prop
 | [], xs, as => xs = [] ∧ as = []
 | d :: ds, xs, as => ∃ v r bs cs, xs = v :: r ∧ as = bs ++ cs ∧ Tr K H d v bs ∧ Trs K H ds r cs
end
section
variable {K : PySem.W.Frag} {H H' : Hp} {Z : Zone}
theorem tr_lst {ds : List D} {v : V} {as : List Addr} : Tr K H (.lst ds) v as ↔ ∃ a xs bs, v = .ref a ∧ as = a :: bs ∧ H a = some (.lst xs) ∧ Trs K H ds xs bs := by unfold Tr; exact Iff.rfl
theorem tr_tup {ds : List D} {v : V} {as : List Addr} : Tr K H (.tup ds) v as ↔ ∃ a xs, v = .ref a ∧ H a = some (.tup xs) ∧ Trs K H ds xs as := by unfold Tr; exact Iff.rfl
theorem trs_nil {xs : List V} {as : List Addr} : Trs K H [] xs as ↔ xs = [] ∧ as = [] := by unfold Trs; exact Iff.rfl
theorem trs_cons {d : D} {ds : List D} {xs : List V} {as : List Addr} : Trs K H (d :: ds) xs as ↔ ∃ v r bs cs, xs = v :: r ∧ as = bs ++ cs ∧ Tr K H d v bs ∧ Trs K H ds r cs := by
 constructor
 · intro h; unfold Trs at h; exact h
 · intro h; unfold Trs; exact h
mutual
theorem Tr.carry (t : ∀ a (xs : List V), H a = some (.tup xs) -> H' a = some (.tup xs)) : ∀ {d : D} {v : V} {as : List Addr}, (∀ a (xs : List V), a ∈ as -> H a = some (.lst xs) -> H' a = some (.lst xs)) -> Tr K H d v as -> Tr K H' d v as
 | .non, _, _, _, h => by unfold Tr at h ⊢; exact h
 | .bl _, _, _, _, h => by unfold Tr at h ⊢; exact h
 | .int _, _, _, _, h => by unfold Tr at h ⊢; exact h
 | .str _, _, _, _, h => by unfold Tr at h ⊢; exact h
 | .dct _, _, _, _, h => by unfold Tr at h; exact h.elim
 | .ktup _, _, _, _, h => by unfold Tr at h ⊢; exact h
 | .lst ds, _, _, k, h => by
  obtain ⟨a, xs, bs, e, rfl, ha, i⟩ := tr_lst.mp h
  exact tr_lst.mpr ⟨a, xs, bs, e, rfl, k a xs List.mem_cons_self ha, Trs.carry t (fun b ys hb => k b ys (List.mem_cons_of_mem _ hb)) i⟩
 | .tup ds, _, _, k, h => by
  obtain ⟨a, xs, e, ha, i⟩ := tr_tup.mp h
  exact tr_tup.mpr ⟨a, xs, e, t a xs ha, Trs.carry t k i⟩
theorem Trs.carry (t : ∀ a (xs : List V), H a = some (.tup xs) -> H' a = some (.tup xs)) : ∀ {ds : List D} {vs : List V} {as : List Addr}, (∀ a (xs : List V), a ∈ as -> H a = some (.lst xs) -> H' a = some (.lst xs)) -> Trs K H ds vs as -> Trs K H' ds vs as
 | [], _, _, _, h => trs_nil.mpr (trs_nil.mp h)
 | d :: ds, _, _, k, h => by
  obtain ⟨v, r, bs, cs, e, rfl, i, j⟩ := trs_cons.mp h
  exact trs_cons.mpr ⟨v, r, bs, cs, e, rfl, Tr.carry t (fun b ys hb => k b ys (List.mem_append_left _ hb)) i, Trs.carry t (fun b ys hb => k b ys (List.mem_append_right _ hb)) j⟩
end
mutual
theorem Tr.inn : ∀ {d : D} {v : V} {as : List Addr}, (∀ a ∈ as, Z.S a) -> Tr K H d v as -> In K H Z d v
 | .non, _, _, _, h => by unfold Tr at h; exact in_non.mpr h.2
 | .bl _, _, _, _, h => by unfold Tr at h; exact in_bl.mpr h.2
 | .int _, _, _, _, h => by unfold Tr at h; exact in_int.mpr h.2
 | .str _, _, _, _, h => by unfold Tr at h; exact in_str.mpr h.2
 | .dct _, _, _, _, h => by unfold Tr at h; exact h.elim
 | .ktup _, _, _, _, h => by unfold Tr at h; exact in_ktup.mpr h.2
 | .lst ds, _, _, k, h => by
  obtain ⟨a, xs, bs, e, rfl, ha, i⟩ := tr_lst.mp h
  exact in_lst.mpr ⟨a, xs, e, .inl ⟨ha, k a List.mem_cons_self⟩, Trs.inn (fun b hb => k b (List.mem_cons_of_mem _ hb)) i⟩
 | .tup ds, _, _, k, h => by
  obtain ⟨a, xs, e, ha, i⟩ := tr_tup.mp h
  exact in_tup.mpr ⟨a, xs, e, ha, Trs.inn k i⟩
theorem Trs.inn : ∀ {ds : List D} {vs : List V} {as : List Addr}, (∀ a ∈ as, Z.S a) -> Trs K H ds vs as -> Ins K H Z ds vs
 | [], _, _, _, h => ins_nil.mpr (trs_nil.mp h).1
 | d :: ds, _, _, k, h => by
  obtain ⟨v, r, bs, cs, e, rfl, i, j⟩ := trs_cons.mp h
  exact ins_cons.mpr ⟨v, r, e, Tr.inn (fun b hb => k b (List.mem_append_left _ hb)) i, Trs.inn (fun b hb => k b (List.mem_append_right _ hb)) j⟩
end
end
inductive Slot where
 | pl (fr : Bool) (d : D)
 | ow (fr : Bool) (ds : List D)
 | ow2 (fr : Bool) (dss : List (List D))
 | oa (d : D)
 | sh (p : D -> Prop)
 | owl (l : Addr) (fr : Bool) (ds : List D)
 | od (o : DO)
 | rf (v : V)
 | tr (d : D)
 | trl (u : V) (d : D)
abbrev Rho := List (Option Slot)
structure Fn where
 m : Bool
 Z : Zone
 H : Hp
def zn (F : Fn) (O : Addr -> Prop) (fr : Bool) : Zone := if fr then ⟨true, fun a => F.H a = none ∧ ¬ O a⟩ else ⟨F.Z.m, fun a => F.Z.S a ∧ ¬ O a⟩
def RowsAt (K : PySem.W.Frag) (H : Hp) (Z : Zone) (dss : List (List D)) (as : List Addr) : Prop := Paired (fun ds a => ∃ xs, H a = some (.lst xs) ∧ Ins K H Z ds xs) dss as
def SlotIn (K : PySem.W.Frag) (F : Fn) (H : Hp) (O : Addr -> Prop) (mine : List Addr) (v : V) : Slot -> Prop
 | .pl fr d => In K H (zn F O fr) d v
 | .ow fr ds => ∃ l xs, mine = [l] ∧ v = .ref l ∧ H l = some (.lst xs) ∧ Ins K H (zn F O fr) ds xs
 | .ow2 fr dss => ∃ l as, mine = l :: as ∧ v = .ref l ∧ H l = some (.lst (as.map V.ref)) ∧ RowsAt K H (zn F O fr) dss as
 | .oa d => In K H ⟨true, fun a => a ∈ mine⟩ d v
 | .sh p => ∃ d, p d ∧ In K H ⟨true, fun a => a ∈ mine⟩ d v
 | .owl l fr ds => ∃ xs, mine = [l] ∧ v = .ref l ∧ H l = some (.lst xs) ∧ Ins K H (zn F O fr) ds xs
 | .od o => ∃ l, mine = [l] ∧ v = .ref l ∧ H l = some o.ho
 | .rf u => v = u
 | .tr d => Tr K H d v mine
 | .trl u d => v = u ∧ Tr K H d v mine
abbrev Owned (A : Nat -> List Addr) (a : Addr) : Prop := ∃ j, a ∈ A j
structure StIn (K : PySem.W.Frag) (F : Fn) (H : Hp) (vs : St) (ρ : Rho) (A : Nat -> List Addr) : Prop where
 same : Same F.H H
 opn : F.Z.Open F.H
 nd : ∀ i, (A i).Nodup
 one : ∀ i j a, a ∈ A i -> a ∈ A j -> i = j
 new : ∀ i a, a ∈ A i -> F.H a = none
 lst : ∀ i a, a ∈ A i -> ∃ xs : MO, H a = some xs.ho
 at' : ∀ (i : Nat) sl, ρ[i]? = some (some sl) -> ∃ v, vs[i]? = some (some v) ∧ SlotIn K F H (Owned A) (A i) v sl
section
variable {K : PySem.W.Frag} {F : Fn} {H H' : Hp} {vs : St} {ρ : Rho} {A : Nat -> List Addr} {O O' : Addr -> Prop} {fr : Bool}
theorem RowsAt.carry {Z Z' : Zone} {dss : List (List D)} {as : List Addr} (h : RowsAt K H Z dss as) (k : ∀ a xs, a ∈ as -> H a = some (.lst xs) -> H' a = some (.lst xs)) (c : Carry K H Z H' Z') : RowsAt K H' Z' dss as := by
 induction h with
 | nil => exact .nil
 | cons r t ih =>
  obtain ⟨xs, e, i⟩ := r
  exact .cons ⟨xs, k _ xs (by simp) e, i.carry c⟩ (ih fun a xs ha e => k a xs (by simp [ha]) e)
theorem carry_zn (s : Same H H') (hO : ∀ a (xs : MO), H a = some xs.ho -> ¬ O a -> ¬ O' a) : Carry K H (zn F O fr) H' (zn F O' fr) := by
 unfold zn
 cases fr
 · exact .of s (fun a xs e z => ⟨z.1, hO a xs e z.2⟩) fun m => m
 · exact .of s (fun a xs e z => ⟨z.1, hO a xs e z.2⟩) fun m => m
theorem SlotIn.carry {mine : List Addr} {v : V} {sl : Slot} (h : SlotIn K F H O mine v sl) (k : ∀ a (xs : MO), a ∈ mine -> H a = some xs.ho -> H' a = some xs.ho) (c : ∀ fr, Carry K H (zn F O fr) H' (zn F O' fr)) : SlotIn K F H' O' mine v sl := by
 cases sl with
 | pl fr d => exact In.carry (c fr) h
 | ow fr ds =>
  obtain ⟨l, xs, rfl, e, hl, i⟩ := h
  exact ⟨l, xs, rfl, e, k l (.l xs) (by simp) hl, i.carry (c fr)⟩
 | ow2 fr dss =>
  obtain ⟨l, as, rfl, e, hl, i⟩ := h
  exact ⟨l, as, rfl, e, k l (.l _) (by simp) hl, i.carry (fun a xs ha q => k a (.l xs) (by simp [ha]) q) (c fr)⟩
 | oa d => exact In.carry ⟨fun a xs e z => ⟨k a xs z e, z⟩, fun m => Bool.noConfusion (show true = false from m), (c true).t⟩ h
 | sh p =>
  obtain ⟨d, hp, i⟩ := h
  exact ⟨d, hp, i.carry ⟨fun a xs e z => ⟨k a xs z e, z⟩, fun m => Bool.noConfusion (show true = false from m), (c true).t⟩⟩
 | owl l fr ds =>
  obtain ⟨xs, rfl, e, hl, i⟩ := h
  exact ⟨xs, rfl, e, k l (.l xs) (by simp) hl, i.carry (c fr)⟩
 | od o =>
  obtain ⟨l, rfl, e, hl⟩ := h
  exact ⟨l, rfl, e, k l (.d o) (by simp) hl⟩
 | rf u => exact h
 | tr d => exact Tr.carry (c true).t (fun a xs ha e => k a (.l xs) ha e) h
 | trl u d => exact ⟨h.1, Tr.carry (c true).t (fun a xs ha e => k a (.l xs) ha e) h.2⟩
theorem StIn.grow (S : StIn K F H vs ρ A) (s : Same H H') : StIn K F H' vs ρ A :=
 ⟨S.same.trans s, S.opn, S.nd, S.one, S.new, fun i a ha => let ⟨xs, e⟩ := S.lst i a ha; ⟨xs, s.at e xs.nt⟩, fun i sl e => let ⟨v, a, b⟩ := S.at' i sl e; ⟨v, a, b.carry (fun a xs _ q => s.at q xs.nt) fun fr => carry_zn s fun a xs _ n => n⟩⟩
theorem zn_open (S : StIn K F H vs ρ A) (fr : Bool) : (zn F (Owned A) fr).Open H := ⟨fun a h => by
 have n : ¬ Owned A a := fun ⟨j, hj⟩ => by obtain ⟨xs, e⟩ := S.lst j a hj; rw [h] at e; cases e
 unfold zn
 cases fr
 · exact ⟨S.opn.op a (S.same.free h), n⟩
 · exact ⟨S.same.free h, n⟩, S.same.tabs S.opn.tb⟩
def vz (F : Fn) (O : Addr -> Prop) (ow fr : Bool) : Zone := if ow then (if fr then nw F.H else F.Z) else zn F O fr
theorem vz_open (S : StIn K F H vs ρ A) (ow fr : Bool) : (vz F (Owned A) ow fr).Open H := by
 unfold vz
 cases ow
 · exact zn_open S fr
 · cases fr
   · exact S.opn.same S.same
   · exact nw_open S.opn.tb S.same
def viewS (ow fr : Bool) : Option Slot -> Option D
 | some (.pl f d) => if fr && !f then none else some d
 | some (.ow f ds) => if ow && (!fr || f) then some (.lst ds) else none
 | some (.ow2 f dss) => if ow && (!fr || f) then some (.lst (dss.map .lst)) else none
 | some (.oa d) => if ow then some d else none
 | some (.sh _) => none
 | some (.owl _ _ _) => none
 | some (.od o) => if ow then some (.dct o) else none
 | some (.rf _) => none
 | some (.tr d) => if ow then some d else none
 | some (.trl _ d) => if ow then some d else none
 | none => none
def view (ow fr : Bool) (ρ : Rho) : List (Option D) := ρ.map (viewS ow fr)
theorem zn_vz (op : F.Z.Open F.H) {f ow : Bool} (hf : fr = true -> f = true) : Carry K H (zn F O f) H (vz F O ow fr) := by
 refine .of (Same.refl H) (fun a xs e z => ?_) fun m => ?_
 · unfold vz zn at *
   cases ow <;> cases fr <;> cases f <;> simp at hf z ⊢ <;> first
    | exact z
    | exact z.1
    | exact ⟨op a z.1, z.2⟩
    | exact op a z.1
 · unfold vz zn at *
   cases ow <;> cases fr <;> cases f <;> simp at hf m ⊢ <;> exact m
theorem ins_rows {Z Z' : Zone} {dss : List (List D)} {as : List Addr} (h : RowsAt K H Z dss as) (c : Carry K H Z H Z') (n : ∀ a ∈ as, Z'.S a) : Ins K H Z' (dss.map D.lst) (as.map V.ref) := by
 induction h with
 | nil => exact ins_nil.mpr rfl
 | cons r t ih =>
  obtain ⟨xs, e, i⟩ := r
  exact ins_cons.mpr ⟨_, _, rfl, in_lst.mpr ⟨_, xs, rfl, .inl ⟨e, n _ (by simp)⟩, i.carry c⟩, ih fun a ha => n a (by simp [ha])⟩
theorem slot_view (op : F.Z.Open F.H) {mine : List Addr} {v : V} {sl : Slot} {ow : Bool} {d : D} (new : ∀ a ∈ mine, F.H a = none) (h : SlotIn K F H O mine v sl) (e : viewS ow fr (some sl) = some d) : In K H (vz F O ow fr) d v := by
 have inS : ow = true -> ∀ a ∈ mine, (vz F O ow fr).S a := fun ho a ha => by
  subst ho
  unfold vz
  cases fr
  · exact op a (new a ha)
  · exact new a ha
 cases sl with
 | pl f d' =>
  change (if (fr && !f) = true then none else some d') = some d at e
  by_cases q : (fr && !f) = true
  · rw [if_pos q] at e; cases e
  · rw [if_neg q] at e
    cases e
    refine In.carry (zn_vz op fun hf => ?_) h
    subst hf
    simpa using q
 | ow f ds =>
  change (if (ow && (!fr || f)) = true then some (D.lst ds) else none) = some d at e
  by_cases q : (ow && (!fr || f)) = true
  · rw [if_pos q] at e
    cases e
    obtain ⟨l, xs, rfl, rfl, hl, i⟩ := h
    simp at q
    refine in_lst.mpr ⟨l, xs, rfl, .inl ⟨hl, inS q.1 l (by simp)⟩, i.carry (zn_vz op fun hf => ?_)⟩
    subst hf
    simpa using q.2
  · rw [if_neg q] at e; cases e
 | ow2 f dss =>
  change (if (ow && (!fr || f)) = true then some (D.lst (dss.map D.lst)) else none) = some d at e
  by_cases q : (ow && (!fr || f)) = true
  · rw [if_pos q] at e
    cases e
    obtain ⟨l, as, rfl, rfl, hl, i⟩ := h
    simp at q
    refine in_lst.mpr ⟨l, _, rfl, .inl ⟨hl, inS q.1 l (by simp)⟩, ins_rows i (zn_vz op fun hf => ?_) fun a ha => inS q.1 a (by simp [ha])⟩
    subst hf
    simpa using q.2
  · rw [if_neg q] at e; cases e
 | oa d' =>
  change (if ow = true then some d' else none) = some d at e
  by_cases q : ow = true
  · rw [if_pos q] at e
    cases e
    exact In.carry ⟨fun a xs e z => ⟨e, inS q a z⟩, fun m => Bool.noConfusion (show true = false from m), fun _ _ e => e⟩ h
  · rw [if_neg q] at e; cases e
 | sh p => cases e
 | owl l f ds => cases e
 | rf u => cases e
 | tr d' =>
  change (if ow = true then some d' else none) = some d at e
  by_cases q : ow = true
  · rw [if_pos q] at e
    cases e
    exact Tr.inn (inS q) h
  · rw [if_neg q] at e; cases e
 | trl u d' =>
  change (if ow = true then some d' else none) = some d at e
  by_cases q : ow = true
  · rw [if_pos q] at e
    cases e
    exact Tr.inn (inS q) h.2
  · rw [if_neg q] at e; cases e
 | od o =>
  change (if ow = true then some (D.dct o) else none) = some d at e
  by_cases q : ow = true
  · rw [if_pos q] at e
    cases e
    obtain ⟨l, rfl, rfl, hl⟩ := h
    exact in_dct.mpr ⟨l, rfl, hl, inS q l (by simp)⟩
  · rw [if_neg q] at e; cases e
theorem StIn.env {σ hv : St} {hρ : Rho} (S : StIn K F H (σ ++ hv) (ρ ++ hρ) A) (hl : σ.length = ρ.length) (ow fr : Bool) : EnvIn K H (vz F (Owned A) ow fr) σ (view ow fr ρ) := fun i d e => by
 unfold view at e
 rw [List.getElem?_map] at e
 cases q : ρ[i]? with
 | none => rw [q] at e; cases e
 | some o =>
  rw [q] at e
  cases o with
  | none => simp [viewS] at e
  | some sl =>
   have hi : i < ρ.length := (List.getElem?_eq_some_iff.mp q).1
   obtain ⟨v, a, b⟩ := S.at' i sl (by rw [List.getElem?_append_left hi]; exact q)
   rw [List.getElem?_append_left (by omega)] at a
   exact ⟨v, a, slot_view S.opn (S.new i) b (by simpa using e)⟩
def putA (A : Nat -> List Addr) (i : Nat) (l : List Addr) : Nat -> List Addr := fun j => if j = i then l else A j
theorem putA_same {i : Nat} {l : List Addr} : putA A i l i = l := by unfold putA; rw [if_pos rfl]
theorem putA_ne {i j : Nat} {l : List Addr} (h : j ≠ i) : putA A i l j = A j := by unfold putA; rw [if_neg h]
theorem carry_re {i : Nat} {l : List Addr} {H2 : Hp} (S : StIn K F H vs ρ A) (k : ∀ b o, H b = some o -> isT o = false -> b ∉ A i -> H2 b = some o) (hl : ∀ a ∈ l, a ∈ A i ∨ H a = none) (fr : Bool) : Carry K H (zn F (Owned A) fr) H2 (zn F (Owned (putA A i l)) fr) := by
 have notI : ∀ {a : Addr} {o : HO}, H a = some o -> (∀ xs : MO, o ≠ xs.ho) -> a ∉ A i := fun {a o} e n z => by
  obtain ⟨xs, e'⟩ := S.lst i a z
  rw [e] at e'
  exact n xs (Option.some.inj e')
 refine ⟨fun a xs e z => ?_, fun m => ⟨?_, fun a xs e => ?_⟩, fun a xs e => ?_⟩
 · have key : ¬ Owned A a -> H2 a = some xs.ho ∧ ¬ Owned (putA A i l) a := fun n => ⟨k a _ e xs.nt fun z => n ⟨i, z⟩, fun ⟨k', hk⟩ => by
    by_cases q2 : k' = i
    · rw [q2, putA_same] at hk
      rcases hl a hk with z | z
      · exact n ⟨i, z⟩
      · rw [e] at z; cases z
    · rw [putA_ne q2] at hk
      exact n ⟨k', hk⟩⟩
   unfold zn at z ⊢
   cases fr
   · exact ⟨(key z.2).1, z.1, (key z.2).2⟩
   · exact ⟨(key z.2).1, z.1, (key z.2).2⟩
 · unfold zn at m ⊢
   cases fr
   · exact m
   · exact m
 · rcases e with ⟨o, e⟩ | e
   · exact .inl ⟨o, k a _ e rfl (notI e fun xs z => xs.nfrz z.symm)⟩
   · exact .inr e
 · exact k a _ e rfl (notI e fun xs z => xs.ntup z.symm)
theorem StIn.re {i : Nat} {v : V} {sl : Slot} {l : List Addr} {H2 : Hp} (S : StIn K F H vs ρ A) (hi : i < ρ.length) (hiv : i < vs.length) (sm : Same F.H H2) (k : ∀ b o, H b = some o -> isT o = false -> b ∉ A i -> H2 b = some o) (nd : l.Nodup)
 (hl : ∀ a ∈ l, (a ∈ A i ∨ H a = none) ∧ ∃ xs : MO, H2 a = some xs.ho) (h : SlotIn K F H2 (Owned (putA A i l)) l v sl) : StIn K F H2 (vs.set i (some v)) (ρ.set i (some sl)) (putA A i l) := by
 have disj : ∀ j a, j ≠ i -> a ∈ A j -> a ∉ l := fun j a hj ha hal => by
  rcases (hl a hal).1 with z | z
  · exact hj (S.one j i a ha z)
  · obtain ⟨xs, e⟩ := S.lst j a ha; rw [z] at e; cases e
 refine ⟨sm, S.opn, fun j => ?_, fun j k' a hj hk => ?_, fun j a ha => ?_, fun j a ha => ?_, fun j sl' e => ?_⟩
 · by_cases q : j = i
   · rw [q, putA_same]; exact nd
   · rw [putA_ne q]; exact S.nd j
 · by_cases q : j = i
   · by_cases q2 : k' = i
     · rw [q, q2]
     · rw [q, putA_same] at hj; rw [putA_ne q2] at hk
       exact absurd hj (disj k' a q2 hk)
   · rw [putA_ne q] at hj
     by_cases q2 : k' = i
     · rw [q2, putA_same] at hk
       exact absurd hk (disj j a q hj)
     · rw [putA_ne q2] at hk
       exact S.one j k' a hj hk
 · by_cases q : j = i
   · rw [q, putA_same] at ha
     rcases (hl a ha).1 with z | z
     · exact S.new i a z
     · exact S.same.free z
   · rw [putA_ne q] at ha; exact S.new j a ha
 · by_cases q : j = i
   · rw [q, putA_same] at ha; exact (hl a ha).2
   · rw [putA_ne q] at ha
     obtain ⟨xs, e⟩ := S.lst j a ha
     exact ⟨xs, k a _ e xs.nt fun z => q (S.one j i a ha z)⟩
 · by_cases q : j = i
   · subst q
     rw [List.getElem?_set_self hi] at e
     cases e
     exact ⟨v, by rw [List.getElem?_set_self hiv], by rw [putA_same]; exact h⟩
   · rw [List.getElem?_set_ne (Ne.symm q)] at e
     obtain ⟨w, a, b⟩ := S.at' j sl' e
     refine ⟨w, by rw [List.getElem?_set_ne (Ne.symm q)]; exact a, ?_⟩
     rw [putA_ne q]
     exact b.carry (fun a xs ha e => k a _ e xs.nt fun z => q (S.one j i a ha z)) fun fr => carry_re S k (fun a ha => (hl a ha).1) fr
theorem StIn.put {i : Nat} {v : V} {sl : Slot} {l : List Addr} {H2 : Hp} (S : StIn K F H vs ρ A) (hi : i < ρ.length) (hiv : i < vs.length) (s : Same H H2) (nd : l.Nodup) (hl : ∀ a ∈ l, H a = none ∧ ∃ xs : MO, H2 a = some xs.ho)
 (h : SlotIn K F H2 (Owned (putA A i l)) l v sl) : StIn K F H2 (vs.set i (some v)) (ρ.set i (some sl)) (putA A i l) := S.re hi hiv (S.same.trans s) (fun b o e n _ => s.get b o e n) nd (fun a ha => ⟨.inr (hl a ha).1, (hl a ha).2⟩) h
theorem zn_drop {i : Nat} : Carry K H (zn F (Owned A) fr) H (zn F (Owned (putA A i [])) fr) := by
 have n : ∀ {P : Prop} {a : Addr}, P ∧ ¬ Owned A a -> P ∧ ¬ Owned (putA A i []) a := fun {P a} z => ⟨z.1, fun ⟨k, hk⟩ => by
  by_cases q : k = i
  · rw [q, putA_same] at hk; simp at hk
  · rw [putA_ne q] at hk; exact z.2 ⟨k, hk⟩⟩
 refine .of (Same.refl _) (fun a xs e z => ?_) fun m => ?_
 · unfold zn at z ⊢
   cases fr
   · exact n z
   · exact n z
 · unfold zn at m ⊢
   cases fr
   · exact m
   · exact m
end
structure EndD where
 nx : Rho -> Prop
 rt : D -> Prop
 bk : Rho -> Prop := fun _ => False
 ct : Rho -> Prop := fun _ => False
 rtT : D -> Prop := fun _ => False
 rtM : Rho -> D -> Prop := fun _ _ => False
def StOk (K : PySem.W.Frag) (F : Fn) (hv : St) (hρ : Rho) (N : Rho -> Prop) (σ : St) (H : Hp) : Prop := ∃ ρ A, σ.length = ρ.length ∧ StIn K F H (σ ++ hv) (ρ ++ hρ) A ∧ N ρ
structure Fits (K : PySem.W.Frag) (F : Fn) (hv : St) (hρ : Rho) (Q : EndD) (Q' : Ends) : Prop where
 hl : hv.length = hρ.length
 nx : ∀ σ H, StOk K F hv hρ Q.nx σ H -> Q'.nx σ H
 bk : ∀ σ H, StOk K F hv hρ Q.bk σ H -> Q'.bk σ H
 ct : ∀ σ H, StOk K F hv hρ Q.ct σ H -> Q'.ct σ H
 rt : ∀ v d H, Same F.H H -> In K H (out F.m F.Z F.H) d v -> Q.rt d -> Q'.rt v H
 rtT : ∀ v d H as, Same F.H H -> Tr K H d v as -> as.Nodup -> (∀ a ∈ as, F.H a = none) -> Q.rtT d -> Q'.rt v H
 rtM : ∀ σ H ρ A v d as, σ.length = ρ.length -> StIn K F H (σ ++ hv) (ρ ++ hρ) A -> Tr K H d v as -> as.Nodup -> (∀ a ∈ as, F.H a = none) -> (∀ i a, a ∈ A i -> a ∉ as) -> Q.rtM ρ d -> Q'.rt v H
def tS (K : PySem.W.Frag) (F : Fn) (ρ : Rho) (Q : EndD) : TS := fun Q' σ H => ∃ hv hρ A, σ.length = ρ.length ∧ StIn K F H (σ ++ hv) (ρ ++ hρ) A ∧ Fits K F hv hρ Q Q'
def SD (X : Cx) (F : Fn) (st : List Stmt) (ρ : Rho) (Q : EndD) : Prop := PSs X st (tS X.K F ρ Q)
def SD1 (X : Cx) (F : Fn) (st : Stmt) (ρ : Rho) (Q : EndD) : Prop := PS X st (tS X.K F ρ Q)
theorem PS.mono {X : Cx} {st : Stmt} {t t' : TS} (h : PS X st t) (k : ∀ Q σ H, t' Q σ H -> t Q σ H) : PS X st t' := fun pins s σ H Q I q => h pins s σ H Q I (k Q σ H q)
theorem PSs.mono {X : Cx} {st : List Stmt} {t t' : TS} (h : PSs X st t) (k : ∀ Q σ H, t' Q σ H -> t Q σ H) : PSs X st t' := fun pins s σ H Q I q => h pins s σ H Q I (k Q σ H q)
section
variable {X : Cx} {F : Fn} {ρ : Rho} {Q : EndD} {st : Stmt} {rest body orelse : List Stmt} {e a c : Expr} {d : D} {pos p : Pos} {i : Nat} {x : Str} {fr m1 : Bool}
theorem Fits.step {K : PySem.W.Frag} {hv : St} {hρ : Rho} {Q' : Ends} {N : Rho -> Prop} {n : St -> Hp -> Prop} (f : Fits K F hv hρ Q Q') (h : ∀ σ H, StOk K F hv hρ N σ H -> n σ H) : Fits K F hv hρ { Q with nx := N } { Q' with nx := n } := ⟨f.hl, h, f.bk, f.ct, f.rt, f.rtT, f.rtM⟩
theorem sd_nil (h : Q.nx ρ) : SD X F [] ρ Q := PSs.mono pss_nil fun Q' σ H z0 => el33 z0 fun hv hρ A hl S f => f.nx σ H ⟨ρ, A, hl, S, h⟩
theorem sd_seq {N : Rho -> Prop} (h1 : SD1 X F st ρ { Q with nx := N }) (h2 : ∀ ρ', N ρ' -> SD X F rest ρ' Q) : SD X F (st :: rest) ρ Q :=
 PSs.mono (pss_cons (u := fun Q' σ H => ∃ ρ', N ρ' ∧ tS X.K F ρ' Q Q' σ H) h1 fun pins s σ H Q' I ⟨ρ', n, t⟩ => h2 ρ' n pins s σ H Q' I t) fun Q' σ H ⟨hv, hρ, A, hl, S, f⟩ =>
  ⟨hv, hρ, A, hl, S, f.step fun σ' H' ⟨ρ', A', hl', S', n⟩ => ⟨ρ', n, hv, hρ, A', hl', S', f⟩⟩
theorem sd_then {ρ' : Rho} (h1 : SD1 X F st ρ { Q with nx := fun r => r = ρ' }) (h2 : SD X F rest ρ' Q) : SD X F (st :: rest) ρ Q := sd_seq h1 fun r e => by subst e; exact h2
theorem set_app {α : Type} {l r : List α} {i : Nat} {v : α} (h : i < l.length) : (l ++ r).set i v = l.set i v ++ r := by
 rw [List.set_append_left _ _ h]
theorem put_plA {K : PySem.W.Frag} {hv : St} {hρ : Rho} {σ : St} {H H1 : Hp} {A : Nat -> List Addr} {v : V} (hl : σ.length = ρ.length) (S : StIn K F H (σ ++ hv) (ρ ++ hρ) A) (hi : i < ρ.length) (s : Same H H1) (h : In K H1 (zn F (Owned A) fr) d v) :
 StIn K F H1 (σ.set i (some v) ++ hv) (ρ.set i (some (.pl fr d)) ++ hρ) (putA A i []) := by
 rw [<- set_app (by omega), <- set_app hi]
 exact S.put (by rw [List.length_append]; omega) (by rw [List.length_append]; omega) s List.nodup_nil (fun a ha => by simp at ha) (In.carry zn_drop h)
theorem put_pl {K : PySem.W.Frag} {hv : St} {hρ : Rho} {σ : St} {H H1 : Hp} {A : Nat -> List Addr} {v : V} (hl : σ.length = ρ.length) (S : StIn K F H (σ ++ hv) (ρ ++ hρ) A) (hi : i < ρ.length) (s : Same H H1) (h : In K H1 (zn F (Owned A) fr) d v) :
 StOk K F hv hρ (fun r => r = ρ.set i (some (.pl fr d))) (σ.set i (some v)) H1 := ⟨_, putA A i [], by simp [hl], put_plA hl S hi s h, rfl⟩
theorem sd_setN (i : Nat) {x : Str} {d : D} (he : E X true (view true false ρ) e d) (hr : SD X F rest (ρ.set i (some (.pl true d))) Q) (hN : X.N.Nodup) (hi : X.N[i]? = some x := by rfl)
 (hx : Loc X.env.scope x := by first | exact Or.inl rfl | exact Or.inr rfl) (hρ : i < ρ.length := by exact of_decide_eq_true rfl) (hs : swapsWith e (some (.Name x p)) pos.line X.env = pure false := by rfl) (hf : X.fn x = true ∨ X.env.scope.names.lookup x = some .local := by first | exact .inl rfl | exact .inr rfl) :
 SD X F (.Assign [.Name x p] e pos :: rest) ρ Q :=
 sd_then (PS.mono (ps_set hN hi hx he hs hf) fun Q' σ H z0 => el33 z0 fun hv hρ' A hl S f => ⟨_, vz_open S true false, S.env hl true false, fun v H1 s1 i1 => f.nx _ H1 (put_pl hl S hρ s1 (In.up (zn_open S true) i1))⟩) hr
theorem sd_setF (i : Nat) {x : Str} {d : D} (he : E X m1 (view true false ρ) e d) (fl : d.flat = true) (hr : SD X F rest (ρ.set i (some (.pl true d))) Q) (hN : X.N.Nodup) (hi : X.N[i]? = some x := by rfl)
 (hx : Loc X.env.scope x := by first | exact Or.inl rfl | exact Or.inr rfl) (hρ : i < ρ.length := by exact of_decide_eq_true rfl) (hs : swapsWith e (some (.Name x p)) pos.line X.env = pure false := by rfl) (hf : X.fn x = true ∨ X.env.scope.names.lookup x = some .local := by first | exact .inl rfl | exact .inr rfl) :
 SD X F (.Assign [.Name x p] e pos :: rest) ρ Q := sd_setN i (he.flat fl) hr hN hi hx hρ hs hf
theorem sd_ret (fr : Bool) {d : D} (he : E X m1 (view true fr ρ) e d) (h : Q.rt d) (hm : F.m = true -> fr = true ∨ m1 = true := by intro h; first | exact .inl rfl | exact .inr rfl | cases h) : SD X F (.Return (some e) pos :: rest) ρ Q :=
 sd_seq (N := fun _ => False) (PS.mono (ps_ret he) fun Q' σ H z0 => el33 z0 fun hv hρ A hl S f => ⟨_, vz_open S true fr, S.env hl true fr, fun v H1 s1 i1 => f.rt v d H1 (S.same.trans s1) (by
  have key : (F.m = true -> In X.K H1 (nw F.H) d v) ∧ In X.K H1 F.Z d v := by
   cases m1 with
   | true =>
    have i2 : In X.K H1 (nw F.H) d v := In.later (m := true) (Z := F.Z) S.same i1
    exact ⟨fun _ => i2, i2.up S.opn⟩
   | false =>
    cases fr with
    | true =>
     have i2 : In X.K H1 (nw F.H) d v := i1
     exact ⟨fun _ => i2, i2.up S.opn⟩
    | false =>
     have i2 : In X.K H1 F.Z d v := i1
     exact ⟨fun h => (hm h).elim (fun z => (nomatch z)) (fun z => (nomatch z)), i2⟩
  cases hmm : F.m with
  | false => exact key.2
  | true => exact key.1 hmm) h⟩) fun _ n => n.elim
theorem sd_if {b : Bool} (hc : T X (view true false ρ) c b) (h1 : b = true -> SD X F body ρ { Q with nx := fun r => SD X F rest r Q }) (h2 : b = false -> SD X F orelse ρ { Q with nx := fun r => SD X F rest r Q }) : SD X F (.If c body orelse pos :: rest) ρ Q := by
 refine sd_seq (N := fun r => SD X F rest r Q) ?_ fun _ h => h
 cases b with
 | true =>
  exact PS.mono (ps_if hc (h1 rfl) (pss_never (sts := orelse))) fun Q' σ H z0 => el33 z0 fun hv hρ A hl S f => ⟨_, vz_open S true false, S.env hl true false, fun H1 s1 => by
   refine iteT ?_; exact ⟨hv, hρ, A, hl, S.grow s1, f⟩⟩
 | false =>
  exact PS.mono (ps_if hc (pss_never (sts := body)) (h2 rfl)) fun Q' σ H z0 => el33 z0 fun hv hρ A hl S f => ⟨_, vz_open S true false, S.env hl true false, fun H1 s1 => by
   refine iteF ?_; exact ⟨hv, hρ, A, hl, S.grow s1, f⟩⟩
theorem sd_ifJ (ρ1 : Rho) {b : Bool} (hc : T X (view true false ρ) c b) (h1 : b = true -> SD X F body ρ { Q with nx := fun r => r = ρ1 }) (h2 : b = false -> SD X F orelse ρ { Q with nx := fun r => r = ρ1 }) (h3 : SD X F rest ρ1 Q) : SD X F (.If c body orelse pos :: rest) ρ Q := by
 refine sd_then (ρ' := ρ1) ?_ h3
 cases b with
 | true =>
  exact PS.mono (ps_if hc (h1 rfl) (pss_never (sts := orelse))) fun Q' σ H z0 => el33 z0 fun hv hρ A hl S f => ⟨_, vz_open S true false, S.env hl true false, fun H1 s1 => by
   refine iteT ?_; exact ⟨hv, hρ, A, hl, S.grow s1, f⟩⟩
 | false =>
  exact PS.mono (ps_if hc (pss_never (sts := body)) (h2 rfl)) fun Q' σ H z0 => el33 z0 fun hv hρ A hl S f => ⟨_, vz_open S true false, S.env hl true false, fun H1 s1 => by
   refine iteF ?_; exact ⟨hv, hρ, A, hl, S.grow s1, f⟩⟩
def hid (fr : Bool) (srcs : List D) : Rho := srcs.map fun d => some (.pl fr d)
theorem StIn.hide {K : PySem.W.Frag} {H : Hp} {σ hv : St} {r hρ : Rho} {A : Nat -> List Addr} {srcs : List D} {vs : List V} (S : StIn K F H (σ ++ hv) (r ++ hρ) A) (h1 : σ.length = r.length) (h2 : hv.length = hρ.length) (iz : Ins K H (zn F (Owned A) fr) srcs vs) :
 StIn K F H (σ ++ (hv ++ vs.map some)) (r ++ (hρ ++ hid fr srcs)) A := by
 refine ⟨S.same, S.opn, S.nd, S.one, S.new, S.lst, fun i sl e => ?_⟩
 rw [<- List.append_assoc] at e ⊢
 by_cases hi : i < (r ++ hρ).length
 · rw [List.getElem?_append_left hi] at e
   rw [List.getElem?_append_left (by rw [List.length_append] at hi ⊢; omega)]
   exact S.at' i sl e
 · rw [List.getElem?_append_right (by omega)] at e
   rw [List.getElem?_append_right (by rw [List.length_append] at hi ⊢; omega)]
   have hle : (σ ++ hv).length = (r ++ hρ).length := by rw [List.length_append, List.length_append]; omega
   rw [hle]
   unfold hid at e
   rw [List.getElem?_map] at e
   cases q : srcs[i - (r ++ hρ).length]? with
   | none => rw [q] at e; cases e
   | some d =>
    rw [q] at e
    have e' : some (Slot.pl fr d) = some sl := by simpa using e
    cases e'
    obtain ⟨v, a, b⟩ := iz.get q
    exact ⟨v, by rw [List.getElem?_map, a]; rfl, b⟩
theorem StIn.srcs {K : PySem.W.Frag} {H : Hp} {σ hv : St} {r hρ : Rho} {A : Nat -> List Addr} {srcs : List D} {vs : List V} (S : StIn K F H (σ ++ (hv ++ vs.map some)) (r ++ (hρ ++ hid fr srcs)) A) (h1 : σ.length = r.length) (h2 : hv.length = hρ.length) (hsv : srcs.length = vs.length) :
 Ins K H (zn F (Owned A) fr) srcs vs := by
 refine Ins.of_get hsv fun i d v e1 e2 => ?_
 have hle : (σ ++ hv).length = (r ++ hρ).length := by rw [List.length_append, List.length_append]; omega
 obtain ⟨w, a, b⟩ := S.at' ((r ++ hρ).length + i) (.pl fr d) (by
  rw [<- List.append_assoc, List.getElem?_append_right (by omega), Nat.add_sub_cancel_left]
  unfold hid
  rw [List.getElem?_map, e1]; rfl)
 rw [<- List.append_assoc, List.getElem?_append_right (by omega), hle, Nat.add_sub_cancel_left, List.getElem?_map, e2] at a
 cases a
 exact b
theorem StIn.unhide {K : PySem.W.Frag} {H : Hp} {σ hv e1 : St} {r hρ e2 : Rho} {A : Nat -> List Addr} (S : StIn K F H (σ ++ (hv ++ e1)) (r ++ (hρ ++ e2)) A) (h1 : σ.length = r.length) (h2 : hv.length = hρ.length) : StIn K F H (σ ++ hv) (r ++ hρ) A := by
 refine ⟨S.same, S.opn, S.nd, S.one, S.new, S.lst, fun i sl e => ?_⟩
 have hi : i < (r ++ hρ).length := (List.getElem?_eq_some_iff.mp e).1
 obtain ⟨v, a, b⟩ := S.at' i sl (by rw [<- List.append_assoc, List.getElem?_append_left hi]; exact e)
 rw [<- List.append_assoc, List.getElem?_append_left (by rw [List.length_append] at hi ⊢; omega)] at a
 exact ⟨v, a, b⟩
theorem sd_forG {tg iter : Expr} {ds : List D} {mi : Bool} {g : TG} (fr : Bool) (G : D -> Rho -> Rho) (P : Nat -> Rho -> Prop) (hi : IT X tg mi (view false fr ρ) iter ds) (h0 : P 0 ρ) (hg : PG X tg g)
 (hG : ∀ n d r (hv : St) (hρ : Rho) (σ : St) (H H1 : Hp) (A : Nat -> List Addr) (v : V) (Q : St -> Hp -> Prop), ds[n]? = some d -> P n r -> σ.length = r.length -> StIn X.K F H (σ ++ hv) (r ++ hρ) A -> Same H H1 -> In X.K H1 (zn F (Owned A) fr) d v ->
  (∀ σ' H', StOk X.K F hv hρ (fun r' => r' = G d r) σ' H' -> Q σ' H') -> g v σ H1 Q)
 (hb : ∀ n d r, ds[n]? = some d -> P n r -> SD X F body (G d r) { Q with nx := P (n + 1), ct := P (n + 1), bk := fun r => SD X F rest r Q }) (hd : ∀ r, P ds.length r -> SD X F rest r Q)
 (hc : X.calm = true := by rfl) (hs : ∀ x, foldedSetIterable iter X.env x = pure x := by intro _; rfl) (hp : PassesOwn (model X.prog X.w) X.A X.env X.xe := by exact PassesOwn.never) : SD X F (.For tg iter body [] pos :: rest) ρ Q := by
 refine sd_seq (N := fun r => SD X F rest r Q) ?_ fun _ h => h
 refine PS.mono (ps_for (g := g) (tb := fun Q' σ H => ∃ n d r, ds[n]? = some d ∧ P n r ∧ tS X.K F (G d r) { Q with nx := P (n + 1), ct := P (n + 1), bk := fun r => SD X F rest r Q } Q' σ H) hp hc hi hg
  (fun pins s σ H Q' I ⟨n, d, r, e, pr, q⟩ => hb n d r e pr pins s σ H Q' I q) hs) fun Q' σ H z0 => el33 z0 fun hv hρ A hl S f => ?_
 refine ⟨_, vz_open S false fr, S.env hl false fr, fun J H1 vs srcs s1 i1 Y => ?_⟩
 have iz : Ins X.K H1 (zn F (Owned A) fr) srcs vs := by
  cases mi
  · exact i1
  · exact i1.up (zn_open S fr)
 have hsv := iz.length
 refine ⟨fun n m σ H => m = ds.length - n ∧ n <= ds.length ∧ ∃ r A, P n r ∧ σ.length = r.length ∧ StIn X.K F H (σ ++ (hv ++ vs.map some)) (r ++ (hρ ++ hid fr srcs)) A, ⟨_, rfl, Nat.zero_le _, ρ, A, h0, hl, (S.grow s1).hide hl f.hl iz⟩, ?_⟩
 rintro n m σ1 H2 ⟨rfl, hn, r, A1, pr, hl1, S1⟩
 have iz1 := S1.srcs hl1 f.hl hsv
 by_cases hlt : n < ds.length
 · have hdn : ds[n]? = some ds[n] := by simp [hlt]
   obtain ⟨go, yl⟩ := Y.go _ H2 (zn_open S1 fr) iz1 n ds[n] hdn
   refine .inr ⟨go, StOk X.K F (hv ++ vs.map some) (hρ ++ hid fr srcs) (P (n + 1)), fun σ' H' ⟨r', A', hl', S', p'⟩ => ⟨ds.length - (n + 1), by omega, rfl, hlt, r', A', p', hl', S'⟩, fun y H3 hy => ?_⟩
   obtain ⟨s3, iy⟩ := yl y H3 hy
   refine hG n ds[n] r _ _ σ1 H2 H3 A1 y _ hdn pr hl1 S1 s3 iy fun σ4 H4 ⟨r4, A4, hl4, S4, e4⟩ => ?_
   subst e4
   refine ⟨n, ds[n], r, hdn, pr, _, _, A4, hl4, S4, ⟨by simp [hid, f.hl, hsv], fun _ _ h => h, fun σ5 H5 ⟨r5, A5, hl5, S5, q5⟩ => f.nx σ5 H5 ⟨r5, A5, hl5, S5.unhide hl5 f.hl, q5⟩, fun _ _ h => h, f.rt, f.rtT, fun σ6 H6 r6 A6 v6 d6 as6 hl6 S6 => f.rtM σ6 H6 r6 A6 v6 d6 as6 hl6 (S6.unhide hl6 f.hl)⟩⟩
 · have e : n = ds.length := by omega
   subst e
   exact .inl ⟨Y.stop _ H2 (zn_open S1 fr) iz1, f.nx _ _ ⟨r, A1, hl1, S1.unhide hl1 f.hl, hd r pr⟩⟩
theorem sd_forF (k : Nat) {x : Str} {px : Pos} {iter : Expr} {ds : List D} {mi : Bool} (P : Nat -> Rho -> Prop) (hi : IT X (.Name x px) mi (view false false ρ) iter ds) (fl : ∀ d ∈ ds, d.flat = true) (h0 : P 0 ρ) (hlen : ∀ n r, P n r -> k < r.length)
 (hb : ∀ (n : Nat) d r, ds[n]? = some d -> P n r -> SD X F body (r.set k (some (.pl true d))) { Q with nx := P (n + 1), ct := P (n + 1), bk := fun r => SD X F rest r Q }) (hd : ∀ r, P ds.length r -> SD X F rest r Q)
 (hN : X.N.Nodup) (hx : X.N[k]? = some x := by rfl) (hxl : Loc X.env.scope x := by first | exact Or.inl rfl | exact Or.inr rfl) (hf : X.fn x = true ∨ X.env.scope.names.lookup x = some .local := by first | exact .inl rfl | exact .inr rfl) (hc : X.calm = true := by rfl)
 (hs : ∀ x, foldedSetIterable iter X.env x = pure x := by intro _; rfl) (hp : PassesOwn (model X.prog X.w) X.A X.env X.xe := by exact PassesOwn.never) : SD X F (.For (.Name x px) iter body [] pos :: rest) ρ Q :=
 sd_forG false (fun d r => r.set k (some (.pl true d))) P hi h0 (pg_name hN hx hxl hf) (fun n d r hv hρ σ H H1 A v q e pr hl S s i h => h _ _ (put_pl hl S (hlen n r pr) s (i.flat' (fl d (List.mem_of_getElem? e))))) hb hd hc hs hp
theorem sd_for2 (k l : Nat) (fr : Bool) {x y : Str} {px py pt : Pos} {kt : Nat} {iter : Expr} {ds : List D} {mi : Bool} (P : Nat -> Rho -> Prop) (hi : IT X (.Tuple [.Name x px, .Name y py] kt pt) mi (view false fr ρ) iter ds) (h0 : P 0 ρ)
 (hlen : ∀ n r, P n r -> k < r.length ∧ l < r.length) (hpair : ∀ d ∈ ds, ∃ d1 d2, d = .tup [d1, d2])
 (hb : ∀ n d1 d2 r, ds[n]? = some (.tup [d1, d2]) -> P n r -> SD X F body ((r.set k (some (.pl fr d1))).set l (some (.pl fr d2))) { Q with nx := P (n + 1), ct := P (n + 1), bk := fun r => SD X F rest r Q }) (hd : ∀ r, P ds.length r -> SD X F rest r Q)
 (hN : X.N.Nodup) (hx : X.N[k]? = some x := by rfl) (hy : X.N[l]? = some y := by rfl) (hxl : Loc X.env.scope x := by first | exact Or.inl rfl | exact Or.inr rfl) (hyl : Loc X.env.scope y := by first | exact Or.inl rfl | exact Or.inr rfl)
 (hf : X.fn x = true ∨ X.env.scope.names.lookup x = some .local := by first | exact .inl rfl | exact .inr rfl) (hf' : X.fn y = true ∨ X.env.scope.names.lookup y = some .local := by first | exact .inl rfl | exact .inr rfl) (hc : X.calm = true := by rfl)
 (hs : ∀ x, foldedSetIterable iter X.env x = pure x := by intro _; rfl) (hp : PassesOwn (model X.prog X.w) X.A X.env X.xe := by exact PassesOwn.never)
 (hes : (assignEach [.Name x px, .Name y py] X.env).map (·.2) = [assign (.Name x px) X.env, assign (.Name y py) X.env] := by rfl) (hes2 : (assignEach [.Name y py] X.env).map (·.2) = [assign (.Name y py) X.env] := by rfl)
 (hen : (assignEach [.Name x px, .Name y py] X.env).length = 2 := by rfl) (hst : (assignEach [.Name x px, .Name y py] X.env).findIdx? (·.1) = none := by rfl) : SD X F (.For (.Tuple [.Name x px, .Name y py] kt pt) iter body [] pos :: rest) ρ Q := by
 refine sd_forG (g := gTup X.K 2 (gCons (gName k) (gCons (gName l) gNil))) fr (fun d r => match d with | .tup [d1, d2] => (r.set k (some (.pl fr d1))).set l (some (.pl fr d2)) | _ => r) P hi h0
  (pg_tup hc (pgs_cons (pg_name hN hx hxl hf) (pgs_cons (pg_name hN hy hyl hf') pgs_nil (by rw [hes2]; rfl)) (by rw [hes, hes2])) hen hst) (fun n d r hv hρ σ H H1 A v q e pr hl S s i h => ?_) (fun n d r e pr => ?_) hd hc hs hp
 · obtain ⟨d1, d2, rfl⟩ := hpair d (List.mem_of_getElem? e)
   obtain ⟨a, xs, rfl, t, j⟩ := in_tupS i
   obtain ⟨v1, r1, rfl, i1, j1⟩ := ins_cons.mp j
   obtain ⟨v2, r2, rfl, i2, j2⟩ := ins_cons.mp j1
   cases ins_nil.mp j2
   refine ⟨a, _, rfl, t, rfl, v1, _, rfl, v2, _, rfl, rfl, ?_⟩
   exact h _ _ (put_pl (by simp [hl]) (put_plA (fr := fr) hl S (hlen n r pr).1 s i1) (by simpa using (hlen n r pr).2) (Same.refl _) (i2.carry zn_drop))
 · obtain ⟨d1, d2, rfl⟩ := hpair d (List.mem_of_getElem? e)
   exact hb n d1 d2 r e pr
end
def spD (K : PySem.W.Frag) (m : Bool) (G : List D -> D -> Prop) : Sp := fun vs H Q _ => ∃ (Z : Zone) (ds : List D) (d : D), Z.Open H ∧ Ins K H Z ds vs ∧ G ds d ∧ ∀ v H', Same H H' -> In K H' (out m Z H) d v -> Q v H'
structure Def (P : Program) (w : World) (K : PySem.W.Frag) (mg : Str -> Option Value) (base : Heap) (k : Nat) (x : Str) (m : Bool) (G : List D -> D -> Prop) : Prop where
 ex : ∃ f fd ps, FnOk P w K mg base CX0 k f fd ps (spD K m G) ∧ mg x = some (.ref f) ∧ PySem.W.keepIn K (.ref f) = true ∧ Binds K fd ps []
section
variable {X : Cx} {ρ : List (Option D)} {m : Bool} {e : Expr} {es : List Expr} {ds : List D} {d : D} {pos p : Pos} {k : Nat} {x : Str} {G : List D -> D -> Prop}
theorem e_call (Df : Def X.prog X.w X.K X.mg X.base k x m G) (hr : Room k X.A) (ha : EA X ρ (e :: es) ds) (h : G ds d) (hg : Gl X x := by rfl) (hdb : (x == ("__debug__" : Str)) = false := by decide)
 (he : starEach (e :: es) X.env = (false, eval e X.env) :: starEach es X.env := by rfl) (hpl : (backTo pos (starEach es X.env)).any (·.1) = false := by rfl) : E X m ρ (.Call (.Name x p) (e :: es) [] pos) d := by
 obtain ⟨f, fd, ps, a, b, c, dd⟩ := Df.ex
 exact PE.mono (pe_call a hr hg b c dd .nil pass0 ha hdb he hpl) fun σ H Q z0 => el13 z0 fun Z oz en k => ⟨Z, oz, en, fun vs H1 s1 i1 => by
  show spD X.K m G (vs ++ []) H1 Q E0
  rw [List.append_nil]
  exact ⟨Z, ds, d, oz.same s1, i1, h, fun v H' s' i => k v H' (s1.trans s') (i.later s1)⟩⟩
end
def startD (N : List Str) (ds : List D) : Rho := ds.map (fun d => some (.pl false d)) ++ List.replicate (N.length - ds.length) none
theorem start_in {K : PySem.W.Frag} {Z : Zone} {H : Hp} {m : Bool} {N : List Str} {ds : List D} {vs : List V} (oz : Z.Open H) (h : Ins K H Z ds vs) : StIn K ⟨m, Z, H⟩ H (L2.start N vs ++ []) (startD N ds ++ []) (fun _ => []) := by
 refine ⟨Same.refl H, oz, fun _ => List.nodup_nil, fun i j a ha => by simp at ha, fun i a ha => by simp at ha, fun i a ha => by simp at ha, fun i sl e => ?_⟩
 rw [List.append_nil] at e ⊢
 unfold startD at e
 unfold L2.start
 by_cases hi : i < ds.length
 · rw [List.getElem?_append_left (by simpa using hi), List.getElem?_map] at e
   have hd : ds[i]? = some ds[i] := by simp [hi]
   rw [hd] at e
   have e' : some (Slot.pl false ds[i]) = some sl := by simpa using e
   cases e'
   obtain ⟨v, a, b⟩ := h.get hd
   have hv : i < vs.length := (List.getElem?_eq_some_iff.mp a).1
   refine ⟨v, by rw [List.getElem?_append_left (by simpa using hv), List.getElem?_map, a]; rfl, ?_⟩
   exact In.carry (Z' := ⟨Z.m, fun a => Z.S a ∧ ¬ Owned (fun _ => []) a⟩) (Carry.of (Same.refl H) (fun a xs e z => ⟨z, fun ⟨j, hj⟩ => by simp at hj⟩) fun m => m) b
 · rw [List.getElem?_append_right (by simpa using hi), List.getElem?_replicate] at e
   split at e <;> cases e
section
variable {P : Program} {w : World} {K : PySem.W.Frag} {mg : Str -> Option Value} {base : Heap}
theorem fnD {x qual : Str} {st : Stmt} {f : Addr} {fd : FuncData} {N ps : List Str} {k : Nat} {m : Bool} {G : List D -> D -> Prop} (Fx : Fun K x qual st f fd) (S : FnScope N ps (defScope st))
 (hlen : ∀ ds d, G ds d -> ds.length = ps.length)
 (body : ∀ (cdv : Value) (A : Around) (outer : List Env) (s : Shared) (H : Hp) (E : XK) (Z : Zone) (ds : List D) (d : D), Room k (A.deeper (envOfC qual (defScope st) s.heap.objs.size f cdv)) -> G ds d ->
  SD (cxOf CX0 P w K mg base N qual (defScope st) f cdv A outer s H E).nox ⟨m, Z, H⟩ (defBody st) (startD N ds) { nx := fun _ => d = .non, rt := fun d' => d' = d }) : FnOk P w K mg base CX0 (k + 1) f fd ps (spD K m G) := by
 refine Fx.ok S (fun vs H Q E ⟨Z, ds, d, oz, i, g, kk⟩ => ?_) (fun cdv A outer s H vs Q E hr ⟨Z, ds, d, oz, i, g, kk⟩ => ?_)
 · rw [<- i.length]; exact hlen ds d g
 · refine ⟨_, body cdv A outer s H E Z ds d hr g, [], [], fun _ => [], ?_, start_in oz i, ⟨rfl, fun σ H' ⟨r, A', hl, S', e⟩ => ?_, fun σ H' ⟨r, A', hl, S', e⟩ => e.elim, fun σ H' ⟨r, A', hl, S', e⟩ => e.elim, fun v d' H' s' i' e => ?_, fun _ _ _ _ _ _ _ _ e => e.elim, fun _ _ _ _ _ _ _ _ _ _ _ _ _ e => e.elim⟩⟩
   · have := i.length
     simp [L2.start, startD]; omega
   · subst e
     exact kk .non H' S'.same (in_non.mpr rfl)
   · subst e
     exact kk v H' s' i'
theorem def_of {x qual : Str} {st : Stmt} {f : Addr} {fd : FuncData} {N ps : List Str} {k : Nat} {m : Bool} {G : List D -> D -> Prop} (Fx : Fun K x qual st f fd) (S : FnScope N ps (defScope st)) (hmg : mg x = some (.ref f)) (hb : Binds K fd ps [])
 (hlen : ∀ ds d, G ds d -> ds.length = ps.length)
 (body : ∀ (cdv : Value) (A : Around) (outer : List Env) (s : Shared) (H : Hp) (E : XK) (Z : Zone) (ds : List D) (d : D), Room k (A.deeper (envOfC qual (defScope st) s.heap.objs.size f cdv)) -> G ds d ->
  SD (cxOf CX0 P w K mg base N qual (defScope st) f cdv A outer s H E).nox ⟨m, Z, H⟩ (defBody st) (startD N ds) { nx := fun _ => d = .non, rt := fun d' => d' = d }) : Def P w K mg base (k + 1) x m G := ⟨f, fd, ps, fnD Fx S hlen body, hmg, Fx.kp, hb⟩
def lawG (ds : List D) (d : D) : Prop := ∃ ns : List Int, ns.length <= 63 ∧ ds = [.lst (ns.map D.int)] ∧ d = .bl true
def spLaw (K : PySem.W.Frag) : Sp := fun vs H Q _ => ∃ (a : Addr) (ns : List Int), vs = [.ref a] ∧ SqL K H a (ns.map V.int) ∧ ns.length <= 63 ∧ TabsOk H ∧ ∀ H', Q (.bl true) H'
theorem spLaw_of {H : Hp} {vs : List V} {Q : VK} {E : XK} (h : spLaw K vs H Q E) : spD K false lawG vs H Q E := by
 obtain ⟨a, ns, rfl, hS, hl, tb, q⟩ := h
 refine ⟨anyZ, [.lst (ns.map D.int)], .bl true, anyZ_open tb, Ins.one (in_lst.mpr ⟨a, _, rfl, ?_, ins_ints ns⟩), ⟨ns, hl, rfl, rfl⟩, fun v H' s i => ?_⟩
 · rcases hS with (h | h) | h
   · exact .inl ⟨h, trivial⟩
   · exact .inr ⟨rfl, .inl h⟩
   · exact .inr ⟨rfl, .inr h⟩
 · rw [in_bl.mp i]; exact q H'
theorem law_of {k : Nat} {f : Addr} {fd : FuncData} {ps : List Str} (h : FnOk P w K mg base CX0 k f fd ps (spD K false lawG)) : FnOk P w K mg base CX0 k f fd ps (spLaw K) := h.imp fun _ _ _ _ q => spLaw_of q
theorem walk {l : PySem.W.OpenLaw} {q : Program} {loose : List Str} {XP : (Str -> Option Value) -> Heap -> Prop} {YP : World -> Heap -> Prop} {d : DefRec} {K : Params -> PySem.W.Frag} {x : Str} {k : Nat} (hn : l.most = some 63) (hdf : d.params.defaults = []) (hr : Room k callerA)
 (hY : ∀ (w : World) (h : Heap), YP w h -> (K w.params).In h)
 (F : ∀ (w : World) (mg : Str -> Option Value) (fa : Addr) (h : Heap), (K w.params).In h -> h.Ns mainGlobals mg -> mg d.name = some (.ref fa) ->
  ∃ fd : FuncData, (∀ (s : Shared) (u : Value), BindsTo s fd ⟨[u], []⟩ [(x, u)]) ∧ ∀ base : Heap, (K w.params).In base -> base.Ns mainGlobals mg -> FnOk l.prog w (K w.params) mg base CX0 k fa fd [x] (spLaw (K w.params))) (h0 : Tabs.T = [] := by rfl) :
 PySem.W.WalkO q loose XP YP l.row.toRowW d [] (fun f vs => PySem.call f vs) :=
 L2.walk_of (n := 63) (k := k) (x := x) (CX := fun _ => CX0) (sp := fun w => spLaw (K w.params)) hn (by decide) hdf hr hY F (fun _ _ a ns hl _ hS => ⟨a, ns, rfl, hS, hl, (fun P hP => by rw [h0] at hP; cases hP), fun _ => rfl⟩) fun _ _ _ _ _ z => z
end
section
variable {X : Cx} {F : Fn} {ρ : Rho} {Q : EndD} {rest : List Stmt} {e : Expr} {d : D} {pos p : Pos} {x : Str} {fr m1 : Bool} {ds : List D} {dss : List (List D)}
theorem nodup1 {a : Addr} : [a].Nodup := by simp
theorem sd_own (i : Nat) {x : Str} {ds : List D} (he : E X true (view true false ρ) e (.lst ds)) (fl : flats ds = true) (hr : SD X F rest (ρ.set i (some (.ow true ds))) Q) (hN : X.N.Nodup) (hi : X.N[i]? = some x := by rfl)
 (hx : Loc X.env.scope x := by first | exact Or.inl rfl | exact Or.inr rfl) (hρ : i < ρ.length := by exact of_decide_eq_true rfl) (hs : swapsWith e (some (.Name x p)) pos.line X.env = pure false := by rfl) (hf : X.fn x = true ∨ X.env.scope.names.lookup x = some .local := by first | exact .inl rfl | exact .inr rfl) :
 SD X F (.Assign [.Name x p] e pos :: rest) ρ Q :=
 sd_then (PS.mono (ps_set hN hi hx he hs hf) fun Q' σ H z0 => el33 z0 fun hv hρ' A hl S f => ⟨_, vz_open S true false, S.env hl true false, fun v H1 s1 i1 => by
  obtain ⟨l, xs, rfl, at', j⟩ := in_lst.mp i1
  obtain ⟨e1, e2⟩ : H1 l = some (.lst xs) ∧ H l = none := by
   rcases at' with z | z
   · exact z
   · exact absurd z.1 (by simp [out, nw])
  refine f.nx _ H1 ⟨_, putA A i [l], by simp [hl], ?_, rfl⟩
  rw [<- set_app (by omega), <- set_app hρ]
  exact S.put (by rw [List.length_append]; omega) (by rw [List.length_append]; omega) s1 nodup1 (fun a ha => by
   have : a = l := by simpa using ha
   subst this
   exact ⟨e2, .l xs, e1⟩) ⟨l, xs, rfl, rfl, e1, j.flat' fl⟩⟩) hr
theorem sd_own21 (i : Nat) {x : Str} (he : E X true (view true false ρ) e (.lst [.lst []])) (hr : SD X F rest (ρ.set i (some (.ow2 true [[]]))) Q) (hN : X.N.Nodup) (hi : X.N[i]? = some x := by rfl)
 (hx : Loc X.env.scope x := by first | exact Or.inl rfl | exact Or.inr rfl) (hρ : i < ρ.length := by exact of_decide_eq_true rfl) (hs : swapsWith e (some (.Name x p)) pos.line X.env = pure false := by rfl) (hf : X.fn x = true ∨ X.env.scope.names.lookup x = some .local := by first | exact .inl rfl | exact .inr rfl) :
 SD X F (.Assign [.Name x p] e pos :: rest) ρ Q :=
 sd_then (PS.mono (ps_set hN hi hx he hs hf) fun Q' σ H z0 => el33 z0 fun hv hρ' A hl S f => ⟨_, vz_open S true false, S.env hl true false, fun v H1 s1 i1 => by
  obtain ⟨l, xs, rfl, at', j⟩ := in_lst.mp i1
  obtain ⟨w, r, rfl, iw, jr⟩ := ins_cons.mp j
  cases ins_nil.mp jr
  obtain ⟨a, ys, rfl, at2, j2⟩ := in_lst.mp iw
  cases ins_nil.mp j2
  obtain ⟨e1, e2⟩ : H1 l = some (.lst [.ref a]) ∧ H l = none := by
   rcases at' with z | z
   · exact z
   · exact absurd z.1 (by simp [out, nw])
  obtain ⟨e3, e4⟩ : H1 a = some (.lst []) ∧ H a = none := by
   rcases at2 with z | z
   · exact z
   · exact absurd z.1 (by simp [out, nw])
  have nla : l ≠ a := ne_of e1 e3 (by intro z; cases z)
  refine f.nx _ H1 ⟨_, putA A i [l, a], by simp [hl], ?_, rfl⟩
  rw [<- set_app (by omega), <- set_app hρ]
  exact S.put (by rw [List.length_append]; omega) (by rw [List.length_append]; omega) s1 (by simp [nla]) (fun b hb => by
   rcases List.mem_cons.mp hb with rfl | hb
   · exact ⟨e2, .l _, e1⟩
   · have : b = a := by simpa using hb
     subst this
     exact ⟨e4, .l _, e3⟩) ⟨l, [a], rfl, rfl, e1, .cons ⟨[], e3, ins_nil.mpr rfl⟩ .nil⟩⟩) hr
theorem set_self {α : Type} {l : List α} {i : Nat} {v : α} (h : l[i]? = some v) : l.set i v = l := by
 obtain ⟨hi, e⟩ := List.getElem?_eq_some_iff.mp h
 rw [<- e, List.set_getElem_self]
theorem StIn.ow {K : PySem.W.Frag} {H : Hp} {σ hv : St} {hρ : Rho} {A : Nat -> List Addr} {i : Nat} (S : StIn K F H (σ ++ hv) (ρ ++ hρ) A) (hl : σ.length = ρ.length) (h : ρ[i]? = some (some (.ow fr ds))) :
 ∃ l xs, σ[i]? = some (some (.ref l)) ∧ A i = [l] ∧ H l = some (.lst xs) ∧ Ins K H (zn F (Owned A) fr) ds xs := by
 have hi : i < ρ.length := (List.getElem?_eq_some_iff.mp h).1
 obtain ⟨v, a, l, xs, e1, rfl, e2, j⟩ := S.at' i _ (by rw [List.getElem?_append_left hi]; exact h)
 rw [List.getElem?_append_left (by omega)] at a
 exact ⟨l, xs, a, e1, e2, j⟩
theorem put_ow {K : PySem.W.Frag} {hv : St} {hρ : Rho} {σ : St} {H : Hp} {A : Nat -> List Addr} {i : Nat} {l : Addr} {xs ys : List V} {es : List D} (hl : σ.length = ρ.length) (S : StIn K F H (σ ++ hv) (ρ ++ hρ) A) (h : σ[i]? = some (some (.ref l))) (hA : A i = [l]) (hx : H l = some (.lst xs))
 (j : Ins K H (zn F (Owned A) fr) es ys) : StOk K F hv hρ (fun r => r = ρ.set i (some (.ow fr es))) σ (upd H l (.lst ys)) := by
 have hi : i < σ.length := (List.getElem?_eq_some_iff.mp h).1
 refine ⟨_, putA A i [l], by simp [hl], ?_, rfl⟩
 have key := S.re (i := i) (v := .ref l) (sl := .ow fr es) (l := [l]) (H2 := upd H l (.lst ys)) (by rw [List.length_append]; omega) (by rw [List.length_append]; omega) (S.same.write (S.new i l (by rw [hA]; simp)) hx) (fun b o e _ hb => ?_) nodup1 (fun a ha => ?_) ⟨l, ys, rfl, rfl, upd_same, ?_⟩
 · rw [set_self (by rw [List.getElem?_append_left hi]; exact h), set_app (by omega)] at key
   exact key
 · rw [hA] at hb
   have : b ≠ l := by simpa using hb
   rw [upd_ne this]; exact e
 · have : a = l := by simpa using ha
   subst this
   exact ⟨.inl (by rw [hA]; simp), .l ys, upd_same⟩
 · have eqA : putA A i [l] = A := by
    funext k
    by_cases q : k = i
    · rw [q, putA_same, hA]
    · rw [putA_ne q]
   rw [eqA]
   refine j.carry (.write hx ?_)
   unfold zn
   have o : Owned A l := ⟨i, by rw [hA]; simp⟩
   cases fr
   · exact fun z => z.2 o
   · exact fun z => z.2 o
theorem sd_appendF (i : Nat) {x : Str} {ap cp : Pos} {ds : List D} (fr : Bool) {d : D} (h : ρ[i]? = some (some (.ow fr ds)) := by rfl) (he : E X m1 (view true false ρ) e d) (fl : d.flat = true) (hz : ds.length < 1000) (hr : SD X F rest (ρ.set i (some (.ow fr (ds ++ [d])))) Q)
 (hN : X.N[i]? = some x := by rfl) (hv : Vis X.env.scope x := by first | exact Or.inl rfl | exact Or.inr (Or.inl rfl) | exact Or.inr (Or.inr rfl)) (hd : (x == ("__debug__" : Str)) = false := by decide) (hcd : (x == ("__classdict__" : Str)) = false := by decide)
 (hbase : attributeBase (.Name x p) "append" X.env (eval (.Name x p) X.env) = eval (.Name x p) X.env := by rfl) (hline : (ap.endLine == cp.line) = true := by rfl)
 (hs : starEach [e] X.env = [(false, eval e X.env)] := by rfl) (hsw : swapsWith (.Call (.Attribute (.Name x p) "append" ap) [e] [] cp) none pos.line X.env = pure false := by rfl) :
 SD X F (.Expr (.Call (.Attribute (.Name x p) "append" ap) [e] [] cp) pos :: rest) ρ Q := by
 refine sd_then (PS.mono (ps_expr (pe_bm PySem.F.plainAttrs_list PySem.F.slot_list_append PySem.F.type_list_append mt_append (pe_var hN hv hd hcd) (pa_cons he pa_nil (by rw [hs]; rfl)) hbase (by rw [hs]; rfl) hline (by rw [hs]; rfl) rfl) hsw) ?_) hr
 rintro Q' σ H ⟨hv, hρ, A, hl, S, f⟩
 obtain ⟨l, xs, e1, e2, e3, j⟩ := S.ow hl h
 refine ⟨.ref l, e1, .inl ⟨rfl, xs, SqL.of e3⟩, _, vz_open S true false, S.env hl true false, fun v H1 s1 i1 => ?_⟩
 refine ⟨l, xs, v, rfl, rfl, s1.at e3, by rw [<- j.length]; exact small1000 (by omega), f.nx _ _ (put_ow hl (S.grow s1) e1 e2 (s1.at e3) ((j.same s1).append (Ins.one (i1.flat' fl))))⟩
end
section
variable {X : Cx}
theorem sl_str : SlR X (fun x lo hi H Q => ∃ z, x = .str z ∧ z.length <= sizeLine ∧ Q (.str (Txt.slice z lo hi)) H) := by
 intro pins s σ H x v vl vu lo hi sl Q I rx hs pl pu h
 obtain ⟨z, rfl, hz, q⟩ := h
 obtain ⟨t, rfl⟩ := rx
 refine ⟨"str", _, F.slot_str_getitem.lookup, typeIs_str _ _ _, ?_⟩
 have fin : ∀ t' k, EP X pins σ Q (.str (Txt.slice z lo hi) t') { s with toks := k } := fun t' k => ⟨.str (Txt.slice z lo hi), H, I.tok k, ⟨_, rfl⟩, q⟩
 have key : ∀ (l u : Option (Int × Tok)), vl = partValue l -> vu = partValue u -> l.map (·.1) = lo -> u.map (·.1) = hi -> wpAny (model X.prog X.w) X.A (getItem (.str z t) (.ref sl)) (EP X pins σ Q) X.xe s := fun l u e1 e2 e3 e4 => by
  subst e1 e2 e3 e4
  exact wpAny_getItem_str_slice (l := l) (u := u) (st := none) hs rfl (post_val_or_str ⟨Nat.le_trans (Txt.slice_le z _ _) hz, fun t' k => fin t' k⟩)
 cases pl with
 | none =>
  cases pu with
  | none => exact key none none rfl rfl rfl rfl
  | int j tj => exact key none (some (j, tj)) rfl rfl rfl rfl
 | int i ti =>
  cases pu with
  | none => exact key (some (i, ti)) none rfl rfl rfl rfl
  | int j tj => exact key (some (i, ti)) (some (j, tj)) rfl rfl rfl rfl
inductive IsiV (K : PySem.W.Frag) (H : Hp) : V -> String -> Bool -> Prop where
 | bb (b : Bool) : IsiV K H (.bl b) "bool" true
 | bi (b : Bool) : IsiV K H (.bl b) "int" true
 | ii (i : Int) : IsiV K H (.int i) "int" true
 | ib (i : Int) : IsiV K H (.int i) "bool" false
 | ss (x : Str) : IsiV K H (.str x) "str" true
 | ll {a : Addr} {xs : List V} (h : SqL K H a xs) : IsiV K H (.ref a) "list" true
 | tt {a : Addr} {xs : List V} (h : SqT K H a xs) : IsiV K H (.ref a) "tuple" true
theorem call_isinst : CallR X (.builtin "isinstance") (fun xs H Q => ∃ x T b, xs = [x, .ty T] ∧ IsiV X.K H x T b ∧ Q (.bl b) H) := by
 intro pins s σ H xs us Q I r h
 obtain ⟨x, T, b, rfl, hi, q⟩ := h
 obtain ⟨u, w', rfl, ru, rw'⟩ := vals2 r
 cases rw'
 have fin : ∀ k, EP X pins σ Q (.bool b) { s with toks := k } := fun k => ⟨.bl b, H, I.tok k, rfl, q⟩
 cases hi with
 | bb => cases ru; exact IsiPair.bool_bool (fin s.toks)
 | bi => cases ru; exact IsiPair.bool_int (fin s.toks)
 | ii => obtain ⟨t, rfl⟩ := ru; exact IsiPair.int_int (fin s.toks)
 | ib => obtain ⟨t, rfl⟩ := ru; exact IsiPair.int_bool (fin _)
 | ss => obtain ⟨t, rfl⟩ := ru; exact IsiPair.str_str (fin s.toks)
 | ll h =>
  cases ru
  obtain ⟨its, _, ⟨o, n, e, c, _⟩, _⟩ := I.list h
  exact IsiPair.list_list e c (fin s.toks)
 | tt h =>
  cases ru
  obtain ⟨its, _, ⟨o, e, c, _⟩, _⟩ := I.tuple h
  exact IsiPair.tuple_tuple e c (fin s.toks)
theorem call_all : CallR X (.builtin "all") (fun xs H Q => X.A.handled = none ∧ ∃ (l : Addr) (bs : List Bool), xs = [.ref l] ∧ SqL X.K H l (bs.map V.bl) ∧ Q (.bl (bs.all id)) H) := by
 intro pins s σ H xs us Q I r h
 obtain ⟨hh, l, bs, rfl, hl, q⟩ := h
 obtain ⟨u, rfl, ru⟩ := vals1 r
 cases ru
 obtain ⟨its, rv, pl, hz⟩ := I.list hl
 have hget : ∀ (i : Nat) (v : Value), its.toArray[i]? = some v -> v = Value.bool (bs.getD i false) := fun i v e => by
  have e' : its[i]? = some v := by simpa using e
  have hi : i < its.length := (List.getElem?_eq_some_iff.mp e').1
  have hlen := rv.length
  simp at hlen
  obtain ⟨w', h1, h2⟩ := rv.get (i := i) (x := .bl bs[i]) (by simp)
  rw [e'] at h1
  cases h1
  have h2 : v = .bool bs[i] := h2
  have hb : i < bs.length := by omega
  rw [h2]
  simp [hb]
 refine call_all_walk (wpAny_pyIter_list pl.isList ?_)
 obtain ⟨o, n, ho, hc, hd, hs⟩ := id pl
 refine ⟨s.heap.objs.size, _, _, _, _, _, fun i => bs.getD i false, rfl, Walks.list (A := X.A.in1) hh s.heap.objs.size l (Nat.ne_of_lt (Heap.lt_size ho)) its.toArray, ⟨⟨_, Heap.get?_push_size _ rfl, rfl, rfl⟩, ⟨o, Heap.get?_push_of_some _ ho, hc, n, hs⟩⟩, ?_, fun h' tk hk => ?_⟩
 · intro i v s' Q' E' hP hQ
   rw [hget i v hP]
   exact wpAny_truthy_bool hQ
 · refine ⟨.bl (bs.all id), H, I.kept (h' := h') (t' := tk) (fun b ob e => hk b ob (by simp; exact Nat.ne_of_lt (Heap.lt_size e)) (Heap.get?_push_of_some _ e)), ?_, q⟩
   show Value.bool _ = Value.bool _
   congr 1
   have hlen := rv.length
   simp at hlen
   rw [List.size_toArray, <- hlen]
   rw [Bool.eq_iff_iff, List.all_eq_true, List.all_eq_true]
   constructor
   · intro hq b hb
     obtain ⟨i, hi, e⟩ := List.mem_iff_getElem.mp hb
     have := hq i (by simpa using hi)
     simp [hi, e] at this
     exact this
   · intro hq i hi
     have hi' : i < bs.length := by simpa using hi
     have := hq bs[i] (List.getElem_mem hi')
     simp [hi']
     exact this
end
section
variable {X : Cx} {ρ : List (Option D)} {m m1 m2 : Bool} {a e o : Expr} {d : D} {pos p ap cp : Pos} {ds : List D}
theorem e_slS {z : Str} {lo hi : Option Expr} {l u : Option Int} {p2 : Pos} (ha : E X m1 ρ a (.str z)) (hl : EO X ρ lo l) (hu : EO X ρ hi u) (hz : z.length <= sizeLine) : E X true ρ (.Subscript a (.Slice lo hi none p2) pos) (.str (Txt.slice z l u)) :=
 PE.mono (pe_slice sl_str ha hl hu) fun σ H Q z0 => el13 z0 fun Z oz en k => ⟨Z, oz, en, fun x H1 s1 i1 => ⟨Z, oz.same s1, en.same s1, fun H2 s2 => ⟨Z, oz.same (s1.trans s2), en.same (s1.trans s2), fun H3 s3 =>
  ⟨z, in_str.mp (i1.plain oz), hz, k _ H3 ((s1.trans s2).trans s3) (in_str.mpr rfl)⟩⟩⟩⟩
theorem e_lenL (ha : E X m1 ρ a (.lst ds)) (hm : X.mg "len" = none) (hg : Gl X "len" := by rfl) (hs : starEach [a] X.env = [(false, eval a X.env)] := by rfl) : E X true ρ (.Call (.Name "len" p) [a] [] pos) (.int ds.length) :=
 PE.mono (pe_callB call_len_seq hg hm PySem.boot_len (pa_cons ha pa_nil (by rw [hs]; rfl)) (by decide) (by decide) (by rw [hs]; rfl) rfl) fun σ H Q z0 => el13 z0 fun Z oz en k => ⟨Z, oz, en, fun x H1 s1 i1 => by
  obtain ⟨l, xs, rfl, at', j⟩ := in_lst.mp (i1.plain oz)
  exact ⟨l, xs, rfl, .inl at'.sq, k _ H1 s1 (in_int.mpr (by rw [j.length]))⟩⟩
theorem e_lenT (ha : E X m1 ρ a (.tup ds)) (hm : X.mg "len" = none) (hg : Gl X "len" := by rfl) (hs : starEach [a] X.env = [(false, eval a X.env)] := by rfl) : E X true ρ (.Call (.Name "len" p) [a] [] pos) (.int ds.length) :=
 PE.mono (pe_callB call_len_seq hg hm PySem.boot_len (pa_cons ha pa_nil (by rw [hs]; rfl)) (by decide) (by decide) (by rw [hs]; rfl) rfl) fun σ H Q z0 => el13 z0 fun Z oz en k => ⟨Z, oz, en, fun x H1 s1 i1 => by
  obtain ⟨l, xs, rfl, at', j⟩ := in_tupS (i1.plain oz)
  exact ⟨l, xs, rfl, .inr at', k _ H1 s1 (in_int.mpr (by rw [j.length]))⟩⟩
def isiD : D -> String -> Option Bool
 | .bl _, "bool" => some true
 | .bl _, "int" => some true
 | .int _, "int" => some true
 | .int _, "bool" => some false
 | .str _, "str" => some true
 | .lst _, "list" => some true
 | .tup _, "tuple" => some true
 | _, _ => none
theorem isiV_of {K : PySem.W.Frag} {H : Hp} {Z : Zone} {v : V} {ty : String} {b : Bool} (i : In K H Z d v) (h : isiD d ty = some b) : IsiV K H v ty b := by
 unfold isiD at h
 split at h <;> first
  | (cases h; done)
  | (cases h; rw [in_bl.mp i]; exact .bb _)
  | (cases h; rw [in_bl.mp i]; exact .bi _)
  | (cases h; rw [in_int.mp i]; exact .ii _)
  | (cases h; rw [in_int.mp i]; exact .ib _)
  | (cases h; rw [in_str.mp i]; exact .ss _)
  | (cases h; obtain ⟨a, xs, rfl, at', _⟩ := in_lst.mp i; exact .ll at'.sq)
  | (cases h; obtain ⟨a, xs, rfl, at', _⟩ := in_tupS i; exact .tt at')
theorem e_isi {ty : String} {tn : Str} {p2 : Pos} {b : Bool} (ha : E X m1 ρ a d) (h : isiD d ty = some b) (hv : bootBuiltins tn = some (.type ty)) (hm : X.mg "isinstance" = none) (hm2 : X.mg tn = none) (hg : Gl X "isinstance" := by rfl) (hg2 : Gl X tn := by rfl)
 (hs : starEach [a, .Name tn p2] X.env = [(false, eval a X.env), (false, eval (.Name tn p2) X.env)] := by rfl) (hs2 : starEach [.Name tn p2] X.env = [(false, eval (.Name tn p2) X.env)] := by rfl) (hn : tn ≠ "__name__" := by decide) (hdb : (tn == ("__debug__" : Str)) = false := by decide) :
 E X true ρ (.Call (.Name "isinstance" p) [a, .Name tn p2] [] pos) (.bl b) :=
 PE.mono (pe_callB call_isinst hg hm boot_isinstance (pa_cons ha (pa_cons (pe_bltn (v := .ty ty) hg2 hm2 hv rfl hn hdb) pa_nil (by rw [hs2]; rfl)) (by rw [hs, hs2])) (by decide) (by decide) (by rw [hs, hs2]) (by rw [hs2]; rfl)) fun σ H Q z0 => el13 z0 fun Z oz en k => ⟨Z, oz, en, fun x H1 s1 i1 =>
  ⟨x, ty, b, rfl, isiV_of (i1.plain oz) h, k _ H1 s1 (in_bl.mpr rfl)⟩⟩
theorem ins_bls_inv {K : PySem.W.Frag} {H : Hp} {Z : Zone} : ∀ {bs : List Bool} {vs : List V}, Ins K H Z (bs.map D.bl) vs -> vs = bs.map V.bl
 | [], _, h => ins_nil.mp h
 | n :: ns, _, h => by
  obtain ⟨v, r, rfl, a, j⟩ := ins_cons.mp h
  rw [in_bl.mp a, ins_bls_inv j]; rfl
theorem e_all {bs : List Bool} (ha : E X m1 ρ a (.lst (bs.map D.bl))) (hh : X.A.handled = none) (hm : X.mg "all" = none) (hg : Gl X "all" := by rfl) (hs : starEach [a] X.env = [(false, eval a X.env)] := by rfl) : E X true ρ (.Call (.Name "all" p) [a] [] pos) (.bl (bs.all id)) :=
 PE.mono (pe_callB call_all hg hm boot_all (pa_cons ha pa_nil (by rw [hs]; rfl)) (by decide) (by decide) (by rw [hs]; rfl) rfl) fun σ H Q z0 => el13 z0 fun Z oz en k => ⟨Z, oz, en, fun x H1 s1 i1 => by
  obtain ⟨l, xs, rfl, at', j⟩ := in_lst.mp (i1.plain oz)
  rw [ins_bls_inv j] at at'
  exact ⟨hh, l, bs, rfl, at'.sq, k _ H1 s1 (in_bl.mpr rfl)⟩⟩
theorem e_listL (ha : E X m1 ρ a (.lst ds)) (hm : X.mg "list" = none) (hmm : m = true -> m1 = true ∨ flats ds = true := by intro h; first | exact .inl h | cases h) (hg : Gl X "list" := by rfl) (hs : starEach [a] X.env = [(false, eval a X.env)] := by rfl) : E X m ρ (.Call (.Name "list" p) [a] [] pos) (.lst ds) :=
 PE.mono (pe_callTy call_list_of hg hm PyProof.Rows.boot_list (pa_cons ha pa_nil (by rw [hs]; rfl)) (by decide) (by decide) (by rw [hs]; rfl) rfl) fun σ H Q z0 => el13 z0 fun Z oz en k => ⟨Z, oz, en, fun x H1 s1 i1 => by
  obtain ⟨l, xs, rfl, at', j⟩ := in_lst.mp i1
  refine ⟨l, xs, rfl, .inl at'.sq, fun q hq => k (.ref q) _ (s1.trans (same_new hq)) (in_lst.mpr ⟨q, xs, rfl, .inl ⟨upd_same, ?_⟩, ?_⟩)⟩
  · cases m
    · exact oz q (s1.free hq)
    · exact s1.free hq
  · have jc := j.same (same_new (o := .lst xs) hq)
    cases m
    · cases m1
      · exact jc
      · exact jc.up oz
    · rcases hmm rfl with h | h
      · subst h; exact jc
      · exact jc.flat' h⟩
end
def keq : Key -> D -> Bool
 | .inl a, .int b => a == b
 | .inl a, .bl b => a == (if b then 1 else 0)
 | .inr a, .str b => a == b
 | _, _ => false
def keqs : List Key -> List D -> Bool
 | [], [] => true
 | k :: ks, d :: ds => keq k d && keqs ks ds
 | _, _ => false
mutual
def deq : D -> D -> Bool
 | .non, .non => true
 | .bl a, .bl b => a == b
 | .bl a, .int b => (if a then 1 else 0) == b
 | .int a, .bl b => a == (if b then 1 else 0)
 | .int a, .int b => a == b
 | .str a, .str b => a == b
 | .lst a, .lst b => deqs a b
 | .tup a, .tup b => deqs a b
 | .tup a, .ktup ks => deqs a (ks.map kD)
 | .dct _, .dct _ => true
 | .ktup ks, .tup b => keqs ks b
 | .ktup ks, .ktup ks' => keqs ks (ks'.map kD)
 | _, _ => false
def deqs : List D -> List D -> Bool
 | [], [] => true
 | a :: as, b :: bs => deq a b && deqs as bs
 | _, _ => false
end
mutual
def D.dep : D -> Nat
 | .lst ds => deps ds + 1
 | .tup ds => deps ds + 1
 | .dct _ => 100000
 | .ktup _ => 1
 | _ => 0
def deps : List D -> Nat
 | [] => 0
 | d :: ds => max d.dep (deps ds)
end
theorem deps_mem : ∀ {ds : List D} {d : D}, d ∈ ds -> d.dep <= deps ds
 | [], _, h => by simp at h
 | e :: ds, d, h => by
  unfold deps
  rcases List.mem_cons.mp h with rfl | h
  · exact Nat.le_max_left _ _
  · exact Nat.le_trans (deps_mem h) (Nat.le_max_right _ _)
theorem keqs_refl : ∀ ks : List Key, keqs ks (ks.map kD) = true
 | [] => rfl
 | .inl a :: ks => by simp [keqs, keq, kD, keqs_refl ks]
 | .inr a :: ks => by simp [keqs, keq, kD, keqs_refl ks]
mutual
theorem deq_refl : ∀ d : D, deq d d = true
 | .non => by simp [deq]
 | .bl _ => by simp [deq]
 | .int _ => by simp [deq]
 | .str _ => by simp [deq]
 | .lst ds => by simp [deq, deqs_refl ds]
 | .tup ds => by simp [deq, deqs_refl ds]
 | .dct _ => by simp [deq]
 | .ktup ks => by simp only [deq]; exact keqs_refl ks
theorem deqs_refl : ∀ ds : List D, deqs ds ds = true
 | [] => by simp [deqs]
 | d :: ds => by simp [deqs, deq_refl d, deqs_refl ds]
end
theorem deqs_range : ∀ (ds es : List D), ((List.range (min ds.length es.length)).all (fun j => deq (ds.getD j .non) (es.getD j .non)) && ds.length == es.length) = deqs ds es
 | [], [] => by simp [deqs]
 | [], _ :: _ => by simp [deqs]
 | _ :: _, [] => by simp [deqs]
 | a :: as, b :: bs => by
  have ih := deqs_range as bs
  rw [deqs, <- ih]
  have hm : min (a :: as).length (b :: bs).length = min as.length bs.length + 1 := by simp <;> omega
  rw [hm, List.range_succ_eq_map, List.all_cons, List.all_map]
  simp [Function.comp_def, Bool.and_assoc]
def Told {α : Type} [DecidableEq α] (f : α -> D) : Prop := ∀ a b, deq (f a) (f b) = decide (a = b)
section
variable {α β : Type} [DecidableEq α] [DecidableEq β] {f : α -> D} {g : β -> D}
theorem told_str : Told D.str := fun a b => by simp only [deq]; by_cases h : a = b <;> simp [h]
theorem told_all (h : Told f) : ∀ (as bs : List α), deqs (as.map f) (bs.map f) = decide (as = bs)
 | [], [] => by simp [deqs]
 | [], _ :: _ => by simp [deqs]
 | _ :: _, [] => by simp [deqs]
 | a :: as, b :: bs => by
  simp only [List.map_cons, deqs]
  rw [h a b, told_all h as bs]
  by_cases h1 : a = b <;> by_cases h2 : as = bs <;> simp [h1, h2]
theorem told_list (h : Told f) : Told (fun l : List α => D.lst (l.map f)) := fun a b => by simp only [deq]; exact told_all h a b
end
section
variable {X : Cx} {pins : List (Addr × Obj)} {σ : St} {H : Hp} {s : Shared} {Z Z' : Zone}
theorem dct_at {a : Addr} {o : DO} (I : Inv X pins σ H s) (h : H a = some o.ho) : DEq.IsDct s.heap a := by
 cases o with
 | k kvs =>
  obtain ⟨_, _, vs, _, ⟨cls, dd, data, sl⟩, es, ep, h1, h2, h3, _⟩ := dk_of I.hok h
  have hc : cls = .type "dict" := h2.1
  have hd : data = .dict es ep := h3
  subst hc hd
  exact ⟨dd, es, ep, sl, h1⟩
 | t kvs =>
  obtain ⟨_, _, vs, _, ⟨cls, dd, data, sl⟩, es, ep, h1, h2, h3, _⟩ := dt_of I.hok h
  have hc : cls = .type "dict" := h2.1
  have hd : data = .dict es ep := h3
  subst hc hd
  exact ⟨dd, es, ep, sl, h1⟩
theorem kfree {a : Addr} {ks : List Key} (I : Inv X pins σ H s) (h : KTup X.K a ks) : H a = none := by
 obtain ⟨o, _, _, hk, _⟩ := h
 exact (I.bs a o (I.mod.kin a o hk)).2
theorem sq_not_dct {a : Addr} {xs : List V} {o : DO} (I : Inv X pins σ H s) (h : SqL X.K H a xs) (h' : H a = some o.ho) : False := by
 obtain ⟨_, _, ⟨ob, n, e, c, _⟩, _⟩ := I.list h
 obtain ⟨dd, es, ep, sl, e'⟩ := dct_at I h'
 rw [e] at e'
 cases e'
 exact absurd c (by simp)
theorem lst_not_tup {a : Addr} {xs ys : List V} (I : Inv X pins σ H s) (h : SqL X.K H a xs) (h' : SqT X.K H a ys) : False := by
 obtain ⟨_, _, ⟨o, n, e, c, _⟩, _⟩ := I.list h
 obtain ⟨_, _, ⟨o', e', c', _⟩, _⟩ := I.tuple h'
 rw [e] at e'; cases e'
 rw [c] at c'
 exact absurd c' (by decide)
mutual
theorem In.inj (I : Inv X pins σ H s) : ∀ {d d' : D} {v : V}, In X.K H Z d v -> In X.K H Z' d' v -> d = d'
 | .non, d', v, h, h' => by
  rw [in_non.mp h] at h'
  cases d' with
  | non => rfl
  | bl b => cases in_bl.mp h'
  | int b => cases in_int.mp h'
  | str b => cases in_str.mp h'
  | lst b => obtain ⟨_, _, e, _⟩ := in_lst.mp h'; cases e
  | tup b => obtain ⟨_, _, e, _⟩ := in_tupS h'; cases e
  | dct b => obtain ⟨_, e, _⟩ := in_dct.mp h'; cases e
  | ktup b => obtain ⟨_, e, _⟩ := in_ktup.mp h'; cases e
 | .bl x, d', v, h, h' => by
  rw [in_bl.mp h] at h'
  cases d' with
  | non => cases in_non.mp h'
  | bl b => cases in_bl.mp h'; rfl
  | int b => cases in_int.mp h'
  | str b => cases in_str.mp h'
  | lst b => obtain ⟨_, _, e, _⟩ := in_lst.mp h'; cases e
  | tup b => obtain ⟨_, _, e, _⟩ := in_tupS h'; cases e
  | dct b => obtain ⟨_, e, _⟩ := in_dct.mp h'; cases e
  | ktup b => obtain ⟨_, e, _⟩ := in_ktup.mp h'; cases e
 | .int x, d', v, h, h' => by
  rw [in_int.mp h] at h'
  cases d' with
  | non => cases in_non.mp h'
  | bl b => cases in_bl.mp h'
  | int b => cases in_int.mp h'; rfl
  | str b => cases in_str.mp h'
  | lst b => obtain ⟨_, _, e, _⟩ := in_lst.mp h'; cases e
  | tup b => obtain ⟨_, _, e, _⟩ := in_tupS h'; cases e
  | dct b => obtain ⟨_, e, _⟩ := in_dct.mp h'; cases e
  | ktup b => obtain ⟨_, e, _⟩ := in_ktup.mp h'; cases e
 | .str x, d', v, h, h' => by
  rw [in_str.mp h] at h'
  cases d' with
  | non => cases in_non.mp h'
  | bl b => cases in_bl.mp h'
  | int b => cases in_int.mp h'
  | str b => cases in_str.mp h'; rfl
  | lst b => obtain ⟨_, _, e, _⟩ := in_lst.mp h'; cases e
  | tup b => obtain ⟨_, _, e, _⟩ := in_tupS h'; cases e
  | dct b => obtain ⟨_, e, _⟩ := in_dct.mp h'; cases e
  | ktup b => obtain ⟨_, e, _⟩ := in_ktup.mp h'; cases e
 | .lst ds, d', v, h, h' => by
  obtain ⟨a, xs, rfl, l, j⟩ := in_lst.mp h
  cases d' with
  | non => cases in_non.mp h'
  | bl b => cases in_bl.mp h'
  | int b => cases in_int.mp h'
  | str b => cases in_str.mp h'
  | lst es =>
   obtain ⟨_, ys, e, l', j'⟩ := in_lst.mp h'
   cases e
   have := I.list_inj l.sq l'.sq
   subst this
   rw [Ins.inj I j j']
  | tup es =>
   obtain ⟨_, ys, e, l', j'⟩ := in_tupS h'
   cases e
   exact (lst_not_tup I l.sq l').elim
  | dct o =>
   obtain ⟨_, e, l', _⟩ := in_dct.mp h'
   cases e
   exact (sq_not_dct I l.sq l').elim
  | ktup ks =>
   obtain ⟨_, e, l'⟩ := in_ktup.mp h'
   cases e
   exact (lst_not_tup I l.sq l'.sq).elim
 | .tup ds, d', v, h, h' => by
  obtain ⟨a, xs, rfl, l, j⟩ := in_tupS h
  cases d' with
  | non => cases in_non.mp h'
  | bl b => cases in_bl.mp h'
  | int b => cases in_int.mp h'
  | str b => cases in_str.mp h'
  | lst es =>
   obtain ⟨_, ys, e, l', j'⟩ := in_lst.mp h'
   cases e
   exact (lst_not_tup I l'.sq l).elim
  | tup es =>
   obtain ⟨_, ys, e, l', j'⟩ := in_tupS h'
   cases e
   have := I.tuple_inj l l'
   subst this
   rw [Ins.inj I j j']
  | dct o =>
   obtain ⟨_, e, l', _⟩ := in_dct.mp h'
   cases e
   obtain ⟨_, _, e, l, _⟩ := in_tup.mp h
   cases e
   rw [l] at l'
   exact ((MO.d o).ntup (Option.some.inj l').symm).elim
  | ktup ks =>
   obtain ⟨_, e, l'⟩ := in_ktup.mp h'
   cases e
   obtain ⟨_, _, e, l, _⟩ := in_tup.mp h
   cases e
   rw [kfree I l'] at l
   cases l
 | .ktup ks, d', v, h, h' => by
  obtain ⟨a, rfl, l⟩ := in_ktup.mp h
  cases d' with
  | non => cases in_non.mp h'
  | bl b => cases in_bl.mp h'
  | int b => cases in_int.mp h'
  | str b => cases in_str.mp h'
  | lst es =>
   obtain ⟨_, ys, e, l', _⟩ := in_lst.mp h'
   cases e
   exact (lst_not_tup I l'.sq l.sq).elim
  | tup es =>
   obtain ⟨_, ys, e, l', _⟩ := in_tup.mp h'
   cases e
   rw [kfree I l] at l'
   cases l'
  | dct o =>
   obtain ⟨_, e, l', _⟩ := in_dct.mp h'
   cases e
   rw [kfree I l] at l'
   cases l'
  | ktup ks' =>
   obtain ⟨_, e, l'⟩ := in_ktup.mp h'
   cases e
   rw [kVs_inj (I.tuple_inj (l.sq (H := H)) (l'.sq (H := H)))]
 | .dct o, d', v, h, h' => by
  obtain ⟨a, rfl, l, _⟩ := in_dct.mp h
  cases d' with
  | non => cases in_non.mp h'
  | bl b => cases in_bl.mp h'
  | int b => cases in_int.mp h'
  | str b => cases in_str.mp h'
  | lst es =>
   obtain ⟨_, ys, e, l', _⟩ := in_lst.mp h'
   cases e
   exact (sq_not_dct I l'.sq l).elim
  | tup es =>
   obtain ⟨_, ys, e, l', _⟩ := in_tup.mp h'
   cases e
   rw [l'] at l
   exact ((MO.d o).ntup (Option.some.inj l).symm).elim
  | dct o' =>
   obtain ⟨_, e, l', _⟩ := in_dct.mp h'
   cases e
   rw [l] at l'
   rw [DO.inj (Option.some.inj l')]
  | ktup ks =>
   obtain ⟨_, e, l'⟩ := in_ktup.mp h'
   cases e
   rw [kfree I l'] at l
   cases l
theorem Ins.inj (I : Inv X pins σ H s) : ∀ {ds ds' : List D} {vs : List V}, Ins X.K H Z ds vs -> Ins X.K H Z' ds' vs -> ds = ds'
 | [], ds', _, h, h' => by
  rw [ins_nil.mp h] at h'
  cases ds' with
  | nil => rfl
  | cons d ds => obtain ⟨_, _, e, _⟩ := ins_cons.mp h'; cases e
 | d :: ds, ds', _, h, h' => by
  obtain ⟨v, r, rfl, i, j⟩ := ins_cons.mp h
  cases ds' with
  | nil => cases ins_nil.mp h'
  | cons d' ds' =>
   obtain ⟨v', r', e, i', j'⟩ := ins_cons.mp h'
   cases e
   rw [In.inj I i i', Ins.inj I j j']
end
theorem keqs_is : ∀ (ks : List Key) (ds : List D), keqs ks ds = deqs (ks.map kD) ds
 | [], [] => by simp [keqs, deqs]
 | [], _ :: _ => by simp [keqs, deqs]
 | _ :: _, [] => by simp [keqs, deqs]
 | .inl a :: ks, d :: ds => by
  simp only [keqs, List.map_cons, deqs, kD]
  rw [keqs_is ks ds]
  cases d <;> simp [keq, deq]
 | .inr a :: ks, d :: ds => by
  simp only [keqs, List.map_cons, deqs, kD]
  rw [keqs_is ks ds]
  cases d <;> simp [keq, deq]
theorem deps_kD : ∀ ks : List Key, deps (ks.map kD) = 0
 | [] => by simp [deps]
 | .inl a :: ks => by simp [deps, kD, D.dep, deps_kD ks]
 | .inr a :: ks => by simp [deps, kD, D.dep, deps_kD ks]
open PySem.SeqAt in
theorem eqAt_D (I : Inv X pins σ H s) : ∀ (n : Nat) {A : Around} {d d' : D} {v v' : V} {u u' : Value}, In X.K H Z d v -> In X.K H Z' d' v' -> RelV v u -> RelV v' u' -> d.dep <= n -> A.units + n < cLine -> EqAt A s u u' (deq d d') := by
 intro n
 induction n with
 | zero =>
  intro A d d' v v' u u' i i' r r' hd hu
  have hu0 : A.units < cLine := by omega
  have key : ∀ {x : V}, flatV x = true -> v = x -> (∀ y, In X.K H Z' d' y -> RelV y u' -> EqAt A s u u' (deq d d')) -> EqAt A s u u' (deq d d') := fun _ _ h => h v' i' r'
  cases d with
  | lst ds => unfold D.dep at hd; omega
  | tup ds => unfold D.dep at hd; omega
  | dct o => unfold D.dep at hd; omega
  | ktup o => unfold D.dep at hd; omega
  | non =>
   cases in_non.mp i; cases r
   cases d' with
   | non => cases in_non.mp i'; cases r'; simp only [deq]; exact EqAt.same _
   | bl b => cases in_bl.mp i'; cases r'; simp only [deq]; exact EqAt.none_bool b
   | int b => cases in_int.mp i'; obtain ⟨t, rfl⟩ := r'; simp only [deq]; exact EqAt.none_int b t
   | str b => cases in_str.mp i'; obtain ⟨t, rfl⟩ := r'; simp only [deq]; exact EqAt.none_str b t
   | lst b => obtain ⟨a, xs, rfl, l, j⟩ := in_lst.mp i'; cases r'; obtain ⟨its, _, pl, _⟩ := I.list l.sq; simp only [deq]; exact EqAt.none_list pl.isList hu0
   | tup b => obtain ⟨a, xs, rfl, l, j⟩ := in_tupS i'; cases r'; obtain ⟨its, _, pl, _⟩ := I.tuple l; simp only [deq]; exact EqAt.none_tuple pl hu0
   | dct b => obtain ⟨a, rfl, l, _⟩ := in_dct.mp i'; cases r'; simp only [deq]; exact DEq.at_none (dct_at I l) hu0
   | ktup b => obtain ⟨a, rfl, l⟩ := in_ktup.mp i'; cases r'; obtain ⟨its, _, pl, _⟩ := I.tuple (l.sq (H := H)); simp only [deq]; exact EqAt.none_tuple pl hu0
  | bl x =>
   cases in_bl.mp i; cases r
   cases d' with
   | non => cases in_non.mp i'; cases r'; simp only [deq]; exact EqAt.bool_none x
   | bl b => cases in_bl.mp i'; cases r'; simp only [deq]; exact EqAt.bool_bool x b
   | int b => cases in_int.mp i'; obtain ⟨t, rfl⟩ := r'; simp only [deq]; exact EqAt.bool_int x b t
   | str b => cases in_str.mp i'; obtain ⟨t, rfl⟩ := r'; simp only [deq]; exact EqAt.bool_str x b t
   | lst b => obtain ⟨a, xs, rfl, l, j⟩ := in_lst.mp i'; cases r'; obtain ⟨its, _, pl, _⟩ := I.list l.sq; simp only [deq]; exact EqAt.bool_list x pl.isList hu0
   | tup b => obtain ⟨a, xs, rfl, l, j⟩ := in_tupS i'; cases r'; obtain ⟨its, _, pl, _⟩ := I.tuple l; simp only [deq]; exact EqAt.bool_tuple x pl hu0
   | dct b => obtain ⟨a, rfl, l, _⟩ := in_dct.mp i'; cases r'; simp only [deq]; exact DEq.at_bool x (dct_at I l) hu0
   | ktup b => obtain ⟨a, rfl, l⟩ := in_ktup.mp i'; cases r'; obtain ⟨its, _, pl, _⟩ := I.tuple (l.sq (H := H)); simp only [deq]; exact EqAt.bool_tuple x pl hu0
  | int x =>
   cases in_int.mp i; obtain ⟨t0, rfl⟩ := r
   cases d' with
   | non => cases in_non.mp i'; cases r'; simp only [deq]; exact EqAt.int_none x t0
   | bl b => cases in_bl.mp i'; cases r'; simp only [deq]; exact EqAt.int_bool x t0 b
   | int b => cases in_int.mp i'; obtain ⟨t, rfl⟩ := r'; simp only [deq]; exact EqAt.int_int x t0 b t
   | str b => cases in_str.mp i'; obtain ⟨t, rfl⟩ := r'; simp only [deq]; exact EqAt.int_str x t0 b t
   | lst b => obtain ⟨a, xs, rfl, l, j⟩ := in_lst.mp i'; cases r'; obtain ⟨its, _, pl, _⟩ := I.list l.sq; simp only [deq]; exact EqAt.int_list x t0 pl.isList hu0
   | tup b => obtain ⟨a, xs, rfl, l, j⟩ := in_tupS i'; cases r'; obtain ⟨its, _, pl, _⟩ := I.tuple l; simp only [deq]; exact EqAt.int_tuple x t0 pl hu0
   | dct b => obtain ⟨a, rfl, l, _⟩ := in_dct.mp i'; cases r'; simp only [deq]; exact DEq.at_int x t0 (dct_at I l) hu0
   | ktup b => obtain ⟨a, rfl, l⟩ := in_ktup.mp i'; cases r'; obtain ⟨its, _, pl, _⟩ := I.tuple (l.sq (H := H)); simp only [deq]; exact EqAt.int_tuple x t0 pl hu0
  | str x =>
   cases in_str.mp i; obtain ⟨t0, rfl⟩ := r
   cases d' with
   | non => cases in_non.mp i'; cases r'; simp only [deq]; exact EqAt.str_none x t0
   | bl b => cases in_bl.mp i'; cases r'; simp only [deq]; exact EqAt.str_bool x t0 b
   | int b => cases in_int.mp i'; obtain ⟨t, rfl⟩ := r'; simp only [deq]; exact EqAt.str_int x t0 b t
   | str b => cases in_str.mp i'; obtain ⟨t, rfl⟩ := r'; simp only [deq]; exact EqAt.str_str x t0 b t
   | lst b => obtain ⟨a, xs, rfl, l, j⟩ := in_lst.mp i'; cases r'; obtain ⟨its, _, pl, _⟩ := I.list l.sq; simp only [deq]; exact EqAt.str_list x t0 pl.isList hu0
   | tup b => obtain ⟨a, xs, rfl, l, j⟩ := in_tupS i'; cases r'; obtain ⟨its, _, pl, _⟩ := I.tuple l; simp only [deq]; exact EqAt.str_tuple x t0 pl hu0
   | dct b => obtain ⟨a, rfl, l, _⟩ := in_dct.mp i'; cases r'; simp only [deq]; exact DEq.at_str x t0 (dct_at I l) hu0
   | ktup b => obtain ⟨a, rfl, l⟩ := in_ktup.mp i'; cases r'; obtain ⟨its, _, pl, _⟩ := I.tuple (l.sq (H := H)); simp only [deq]; exact EqAt.str_tuple x t0 pl hu0
 | succ n ih =>
  intro A d d' v v' u u' i i' r r' hd hu
  have hu0 : A.units < cLine := by omega
  have hu1 : A.in1.units + n < cLine := by show A.units + 1 + n < cLine; omega
  have small : d.dep <= n -> EqAt A s u u' (deq d d') := fun h => ih i i' r r' h (by omega)
  -- the items, one by one
  have items : ∀ {ds es : List D} {xs ys : List V} {its its2 : List Value}, deps ds <= n -> Ins X.K H Z ds xs -> Ins X.K H Z' es ys -> Vals xs its -> Vals ys its2 -> ∀ j (h1 : j < its.toArray.size) (h2 : j < its2.toArray.size),
   EqAt A.in1 s its.toArray[j] its2.toArray[j] (deq (ds.getD j .non) (es.getD j .non)) := fun {ds es xs ys its its2} hdn jx jy rx ry j h1 h2 => by
   have z1 := jx.length; have z2 := jy.length; have z3 := rx.length; have z4 := ry.length
   simp at h1 h2
   have hj1 : j < ds.length := by omega
   have hj2 : j < es.length := by omega
   obtain ⟨x, ex, ix⟩ := jx.get (i := j) (d := ds[j]) (by simp [hj1])
   obtain ⟨y, ey, iy⟩ := jy.get (i := j) (d := es[j]) (by simp [hj2])
   obtain ⟨w1, f1, q1⟩ := rx.get ex
   obtain ⟨w2, f2, q2⟩ := ry.get ey
   have g1 : its.toArray[j] = w1 := by
    have := (List.getElem?_eq_some_iff.mp f1).2
    simpa using this
   have g2 : its2.toArray[j] = w2 := by
    have := (List.getElem?_eq_some_iff.mp f2).2
    simpa using this
   rw [g1, g2]
   have e1 : ds.getD j .non = ds[j] := by simp [hj1]
   have e2 : es.getD j .non = es[j] := by simp [hj2]
   rw [e1, e2]
   exact ih ix iy q1 q2 (Nat.le_trans (deps_mem (List.getElem_mem hj1)) hdn) hu1
  cases d with
  | non => exact small (by simp [D.dep])
  | bl x => exact small (by simp [D.dep])
  | int x => exact small (by simp [D.dep])
  | str x => exact small (by simp [D.dep])
  | dct o => exact absurd hu (by unfold D.dep at hd; have : cLine = 9900 := rfl; omega)
  | ktup ks0 =>
   obtain ⟨a, rfl, l⟩ := in_ktup.mp i
   cases r
   obtain ⟨its, rx, pl, _⟩ := I.tuple (l.sq (H := H))
   have j : Ins X.K H Z (ks0.map kD) (ks0.map kV) := ins_kV ks0
   have hdn : deps (ks0.map kD) <= n := by rw [deps_kD]; exact Nat.zero_le _
   cases d' with
   | non => cases in_non.mp i'; cases r'; simp only [deq]; exact EqAt.tuple_none pl hu0
   | bl b => cases in_bl.mp i'; cases r'; simp only [deq]; exact EqAt.tuple_bool b pl hu0
   | int b => cases in_int.mp i'; obtain ⟨t, rfl⟩ := r'; simp only [deq]; exact EqAt.tuple_int b t pl hu0
   | str b => cases in_str.mp i'; obtain ⟨t, rfl⟩ := r'; simp only [deq]; exact EqAt.tuple_str b t pl hu0
   | lst es => obtain ⟨a', ys, rfl, l', j'⟩ := in_lst.mp i'; cases r'; obtain ⟨its2, _, pl2, _⟩ := I.list l'.sq; simp only [deq]; exact EqAt.tuple_list pl pl2.isList hu0
   | dct b => obtain ⟨a', rfl, l', _⟩ := in_dct.mp i'; cases r'; simp only [deq]; exact DEq.at_tuple pl (dct_at I l') hu0
   | ktup ks =>
    obtain ⟨a', rfl, l'⟩ := in_ktup.mp i'
    cases r'
    obtain ⟨its2, ry, pl2, _⟩ := I.tuple (l'.sq (H := H))
    by_cases haa : a = a'
    · subst haa
      have e : D.ktup ks0 = D.ktup ks := In.inj I i i'
      rw [e, deq_refl]
      exact EqAt.same _
    have j' : Ins X.K H Z' (ks.map kD) (ks.map kV) := ins_kV ks
    refine EqAt.of_refs haa ?_
    have z1 := j.length; have z2 := j'.length; have z3 := rx.length; have z4 := ry.length
    simp only [deq]
    rw [keqs_is, <- deqs_range]
    have := RcAt.tuples (e := fun k => deq ((ks0.map kD).getD k .non) ((ks.map kD).getD k .non)) pl pl2 hu0 (items hdn j j' rx ry)
    have e1 : its.toArray.size = (ks0.map kD).length := by simp at z1 z3 ⊢; omega
    have e2 : its2.toArray.size = (ks.map kD).length := by simp at z2 z4 ⊢; omega
    rw [e1, e2] at this
    exact this
   | tup es =>
    obtain ⟨a', ys, rfl, l', j'⟩ := in_tupS i'
    cases r'
    obtain ⟨its2, ry, pl2, _⟩ := I.tuple l'
    have haa : a ≠ a' := fun z => by
     subst z
     obtain ⟨_, _, e, lt, _⟩ := in_tup.mp i'
     cases e
     rw [kfree I l] at lt
     cases lt
    refine EqAt.of_refs haa ?_
    have z1 := j.length; have z2 := j'.length; have z3 := rx.length; have z4 := ry.length
    simp only [deq]
    rw [keqs_is, <- deqs_range]
    have := RcAt.tuples (e := fun k => deq ((ks0.map kD).getD k .non) (es.getD k .non)) pl pl2 hu0 (items hdn j j' rx ry)
    have e1 : its.toArray.size = (ks0.map kD).length := by simp at z1 z3 ⊢; omega
    have e2 : its2.toArray.size = es.length := by simp at z2 z4 ⊢; omega
    rw [e1, e2] at this
    exact this
  | lst ds =>
   have hdn : deps ds <= n := by unfold D.dep at hd; omega
   obtain ⟨a, xs, rfl, l, j⟩ := in_lst.mp i
   cases r
   obtain ⟨its, rx, pl, _⟩ := I.list l.sq
   cases d' with
   | non => cases in_non.mp i'; cases r'; simp only [deq]; exact EqAt.list_none pl.isList hu0
   | bl b => cases in_bl.mp i'; cases r'; simp only [deq]; exact EqAt.list_bool b pl.isList hu0
   | int b => cases in_int.mp i'; obtain ⟨t, rfl⟩ := r'; simp only [deq]; exact EqAt.list_int b t pl.isList hu0
   | str b => cases in_str.mp i'; obtain ⟨t, rfl⟩ := r'; simp only [deq]; exact EqAt.list_str b t pl.isList hu0
   | tup es => obtain ⟨a', ys, rfl, l', j'⟩ := in_tupS i'; cases r'; obtain ⟨its2, _, pl2, _⟩ := I.tuple l'; simp only [deq]; exact EqAt.list_tuple pl.isList pl2 hu0
   | dct b => obtain ⟨a', rfl, l', _⟩ := in_dct.mp i'; cases r'; simp only [deq]; exact DEq.at_list pl.isList (dct_at I l') hu0
   | ktup b => obtain ⟨a', rfl, l'⟩ := in_ktup.mp i'; cases r'; obtain ⟨its2, _, pl2, _⟩ := I.tuple (l'.sq (H := H)); simp only [deq]; exact EqAt.list_tuple pl.isList pl2 hu0
   | lst es =>
    obtain ⟨a', ys, rfl, l', j'⟩ := in_lst.mp i'
    cases r'
    obtain ⟨its2, ry, pl2, _⟩ := I.list l'.sq
    by_cases haa : a = a'
    · subst haa
      have e : D.lst ds = D.lst es := In.inj I i i'
      rw [e, deq_refl]
      exact EqAt.same _
    · refine EqAt.of_refs haa ?_
      have z1 := j.length; have z2 := j'.length; have z3 := rx.length; have z4 := ry.length
      simp only [deq]
      rw [<- deqs_range]
      by_cases hsz : its.toArray.size = its2.toArray.size
      · have := RcAt.lists (e := fun k => deq (ds.getD k .non) (es.getD k .non)) pl.isList pl2.isList hsz hu0 (items hdn j j' rx ry)
        have e1 : its.toArray.size = min ds.length es.length := by simp at hsz ⊢; omega
        have e2 : (ds.length == es.length) = true := by simp at hsz ⊢; omega
        rw [e1] at this
        rw [e2, Bool.and_true]
        exact this
      · have e2 : (ds.length == es.length) = false := by simp at hsz ⊢; omega
        rw [e2, Bool.and_false]
        exact RcAt.lists_lengths pl.isList pl2.isList (by simpa using hsz) hu0
  | tup ds =>
   have hdn : deps ds <= n := by unfold D.dep at hd; omega
   obtain ⟨a, xs, rfl, l, j⟩ := in_tupS i
   cases r
   obtain ⟨its, rx, pl, _⟩ := I.tuple l
   cases d' with
   | non => cases in_non.mp i'; cases r'; simp only [deq]; exact EqAt.tuple_none pl hu0
   | bl b => cases in_bl.mp i'; cases r'; simp only [deq]; exact EqAt.tuple_bool b pl hu0
   | int b => cases in_int.mp i'; obtain ⟨t, rfl⟩ := r'; simp only [deq]; exact EqAt.tuple_int b t pl hu0
   | str b => cases in_str.mp i'; obtain ⟨t, rfl⟩ := r'; simp only [deq]; exact EqAt.tuple_str b t pl hu0
   | lst es => obtain ⟨a', ys, rfl, l', j'⟩ := in_lst.mp i'; cases r'; obtain ⟨its2, _, pl2, _⟩ := I.list l'.sq; simp only [deq]; exact EqAt.tuple_list pl pl2.isList hu0
   | dct b => obtain ⟨a', rfl, l', _⟩ := in_dct.mp i'; cases r'; simp only [deq]; exact DEq.at_tuple pl (dct_at I l') hu0
   | ktup ks =>
    obtain ⟨a', rfl, l'⟩ := in_ktup.mp i'
    cases r'
    obtain ⟨its2, ry, pl2, _⟩ := I.tuple (l'.sq (H := H))
    have j' : Ins X.K H Z' (ks.map kD) (ks.map kV) := ins_kV ks
    have haa : a ≠ a' := fun z => by
     subst z
     obtain ⟨_, _, e, lt, _⟩ := in_tup.mp i
     cases e
     rw [kfree I l'] at lt
     cases lt
    refine EqAt.of_refs haa ?_
    have z1 := j.length; have z2 := j'.length; have z3 := rx.length; have z4 := ry.length
    simp only [deq]
    rw [<- deqs_range]
    have := RcAt.tuples (e := fun k => deq (ds.getD k .non) ((ks.map kD).getD k .non)) pl pl2 hu0 (items hdn j j' rx ry)
    have e1 : its.toArray.size = ds.length := by simp; omega
    have e2 : its2.toArray.size = (ks.map kD).length := by simp at z2 z4 ⊢; omega
    rw [e1, e2] at this
    exact this
   | tup es =>
    obtain ⟨a', ys, rfl, l', j'⟩ := in_tupS i'
    cases r'
    obtain ⟨its2, ry, pl2, _⟩ := I.tuple l'
    by_cases haa : a = a'
    · subst haa
      have e : D.tup ds = D.tup es := In.inj I i i'
      rw [e, deq_refl]
      exact EqAt.same _
    · refine EqAt.of_refs haa ?_
      have z1 := j.length; have z2 := j'.length; have z3 := rx.length; have z4 := ry.length
      simp only [deq]
      rw [<- deqs_range]
      have := RcAt.tuples (e := fun k => deq (ds.getD k .non) (es.getD k .non)) pl pl2 hu0 (items hdn j j' rx ry)
      have e1 : its.toArray.size = ds.length := by simp; omega
      have e2 : its2.toArray.size = es.length := by simp; omega
      rw [e1, e2] at this
      exact this
end
section
variable {X : Cx}
open PySem.SeqAt
def pairD : D -> D -> Bool
 | .lst _, .lst _ => true
 | .tup _, .tup _ => true
 | _, _ => false
theorem op_eqD : OpR X (compareOp .Eq) (fun x y H Q => ∃ d d' Z Z', In X.K H Z d x ∧ In X.K H Z' d' y ∧ pairD d d' = true ∧ X.A.units + d.dep < cLine ∧ Q (.bl (deq d d')) H) := by
 intro pins s σ H x y v u Q I rx ry h
 obtain ⟨d, d', Z, Z', i, i', hp, hu, q⟩ := h
 have fin : EP X pins σ Q (.bool (deq d d')) s := ⟨.bl (deq d d'), H, I, rfl, q⟩
 have hu0 : X.A.units < cLine := by omega
 have items : ∀ {ds es : List D} {xs ys : List V} {its its2 : List Value}, deps ds < d.dep -> Ins X.K H Z ds xs -> Ins X.K H Z' es ys -> Vals xs its -> Vals ys its2 -> ∀ j (h1 : j < its.toArray.size) (h2 : j < its2.toArray.size),
  EqAt X.A.in1 s its.toArray[j] its2.toArray[j] (deq (ds.getD j .non) (es.getD j .non)) := fun {ds es xs ys its its2} hdn jx jy rx ry j h1 h2 => by
  have z1 := jx.length; have z2 := jy.length; have z3 := rx.length; have z4 := ry.length
  simp at h1 h2
  have hj1 : j < ds.length := by omega
  have hj2 : j < es.length := by omega
  obtain ⟨x, ex, ix⟩ := jx.get (i := j) (d := ds[j]) (by simp [hj1])
  obtain ⟨y, ey, iy⟩ := jy.get (i := j) (d := es[j]) (by simp [hj2])
  obtain ⟨w1, f1, q1⟩ := rx.get ex
  obtain ⟨w2, f2, q2⟩ := ry.get ey
  have g1 : its.toArray[j] = w1 := by
   have := (List.getElem?_eq_some_iff.mp f1).2
   simpa using this
  have g2 : its2.toArray[j] = w2 := by
   have := (List.getElem?_eq_some_iff.mp f2).2
   simpa using this
  rw [g1, g2]
  have e1 : ds.getD j .non = ds[j] := by simp [hj1]
  have e2 : es.getD j .non = es[j] := by simp [hj2]
  rw [e1, e2]
  exact eqAt_D I (d.dep - 1) ix iy q1 q2 (by have := deps_mem (List.getElem_mem hj1); omega) (by show X.A.units + 1 + (d.dep - 1) < cLine; omega)
 unfold pairD at hp
 split at hp
 · rename_i ds es
   obtain ⟨a, xs, rfl, l, j⟩ := in_lst.mp i
   obtain ⟨a', ys, rfl, l', j'⟩ := in_lst.mp i'
   cases rx; cases ry
   obtain ⟨its, rx, pl, _⟩ := I.list l.sq
   obtain ⟨its2, ry, pl2, _⟩ := I.list l'.sq
   have z1 := j.length; have z2 := j'.length; have z3 := rx.length; have z4 := ry.length
   simp only [deq] at fin
   rw [<- deqs_range] at fin
   by_cases hsz : its.toArray.size = its2.toArray.size
   · have e1 : its.toArray.size = min ds.length es.length := by simp at hsz ⊢; omega
     have e2 : (ds.length == es.length) = true := by simp at hsz ⊢; omega
     rw [e2, Bool.and_true, <- e1] at fin
     exact eq_listAt (e := fun k => deq (ds.getD k .non) (es.getD k .non)) pl.isList pl2.isList hsz hu0 (items (by simp [D.dep]) j j' rx ry) fin
   · have e2 : (ds.length == es.length) = false := by simp at hsz ⊢; omega
     rw [e2, Bool.and_false] at fin
     exact eq_list_lengthsAt pl.isList pl2.isList (by simpa using hsz) hu0 fin
 · rename_i ds es
   obtain ⟨a, xs, rfl, l, j⟩ := in_tupS i
   obtain ⟨a', ys, rfl, l', j'⟩ := in_tupS i'
   cases rx; cases ry
   obtain ⟨its, rx, pl, _⟩ := I.tuple l
   obtain ⟨its2, ry, pl2, _⟩ := I.tuple l'
   have z1 := j.length; have z2 := j'.length; have z3 := rx.length; have z4 := ry.length
   simp only [deq] at fin
   rw [<- deqs_range] at fin
   have e1 : its.toArray.size = ds.length := by simp; omega
   have e2 : its2.toArray.size = es.length := by simp; omega
   rw [<- e1, <- e2] at fin
   exact eq_tupleAt (e := fun k => deq (ds.getD k .non) (es.getD k .non)) pl pl2 hu0 (items (by simp [D.dep]) j j' rx ry) fin
 · cases hp
theorem op_neD : OpR X (compareOp .NotEq) (fun x y H Q => ∃ d d' Z Z', In X.K H Z d x ∧ In X.K H Z' d' y ∧ pairD d d' = true ∧ X.A.units + d.dep < cLine ∧ Q (.bl (!deq d d')) H) := by
 intro pins s σ H x y v u Q I rx ry h
 obtain ⟨d, d', Z, Z', i, i', hp, hu, q⟩ := h
 have fin : EP X pins σ Q (.bool (!deq d d')) s := ⟨.bl (!deq d d'), H, I, rfl, q⟩
 have hu0 : X.A.units < cLine := by omega
 have items : ∀ {ds es : List D} {xs ys : List V} {its its2 : List Value}, deps ds < d.dep -> Ins X.K H Z ds xs -> Ins X.K H Z' es ys -> Vals xs its -> Vals ys its2 -> ∀ j (h1 : j < its.toArray.size) (h2 : j < its2.toArray.size),
  EqAt X.A.in1 s its.toArray[j] its2.toArray[j] (deq (ds.getD j .non) (es.getD j .non)) := fun {ds es xs ys its its2} hdn jx jy rx ry j h1 h2 => by
  have z1 := jx.length; have z2 := jy.length; have z3 := rx.length; have z4 := ry.length
  simp at h1 h2
  have hj1 : j < ds.length := by omega
  have hj2 : j < es.length := by omega
  obtain ⟨x, ex, ix⟩ := jx.get (i := j) (d := ds[j]) (by simp [hj1])
  obtain ⟨y, ey, iy⟩ := jy.get (i := j) (d := es[j]) (by simp [hj2])
  obtain ⟨w1, f1, q1⟩ := rx.get ex
  obtain ⟨w2, f2, q2⟩ := ry.get ey
  have g1 : its.toArray[j] = w1 := by
   have := (List.getElem?_eq_some_iff.mp f1).2
   simpa using this
  have g2 : its2.toArray[j] = w2 := by
   have := (List.getElem?_eq_some_iff.mp f2).2
   simpa using this
  rw [g1, g2]
  have e1 : ds.getD j .non = ds[j] := by simp [hj1]
  have e2 : es.getD j .non = es[j] := by simp [hj2]
  rw [e1, e2]
  exact eqAt_D I (d.dep - 1) ix iy q1 q2 (by have := deps_mem (List.getElem_mem hj1); omega) (by show X.A.units + 1 + (d.dep - 1) < cLine; omega)
 unfold pairD at hp
 split at hp
 · rename_i ds es
   obtain ⟨a, xs, rfl, l, j⟩ := in_lst.mp i
   obtain ⟨a', ys, rfl, l', j'⟩ := in_lst.mp i'
   cases rx; cases ry
   obtain ⟨its, rx, pl, _⟩ := I.list l.sq
   obtain ⟨its2, ry, pl2, _⟩ := I.list l'.sq
   have z1 := j.length; have z2 := j'.length; have z3 := rx.length; have z4 := ry.length
   simp only [deq] at fin
   rw [<- deqs_range] at fin
   by_cases hsz : its.toArray.size = its2.toArray.size
   · have e1 : its.toArray.size = min ds.length es.length := by simp at hsz ⊢; omega
     have e2 : (ds.length == es.length) = true := by simp at hsz ⊢; omega
     rw [e2, Bool.and_true, <- e1] at fin
     exact RcNeAt.lists (e := fun k => deq (ds.getD k .non) (es.getD k .non)) pl.isList pl2.isList hsz hu0 (items (by simp [D.dep]) j j' rx ry) _ _ _ _ fin
   · have e2 : (ds.length == es.length) = false := by simp at hsz ⊢; omega
     rw [e2, Bool.and_false] at fin
     exact RcNeAt.lists_lengths pl.isList pl2.isList (by simpa using hsz) hu0 _ _ _ _ fin
 · rename_i ds es
   obtain ⟨a, xs, rfl, l, j⟩ := in_tupS i
   obtain ⟨a', ys, rfl, l', j'⟩ := in_tupS i'
   cases rx; cases ry
   obtain ⟨its, rx, pl, _⟩ := I.tuple l
   obtain ⟨its2, ry, pl2, _⟩ := I.tuple l'
   have z1 := j.length; have z2 := j'.length; have z3 := rx.length; have z4 := ry.length
   simp only [deq] at fin
   rw [<- deqs_range] at fin
   have e1 : its.toArray.size = ds.length := by simp; omega
   have e2 : its2.toArray.size = es.length := by simp; omega
   rw [<- e1, <- e2] at fin
   exact RcNeAt.tuples (e := fun k => deq (ds.getD k .non) (es.getD k .non)) pl pl2 hu0 (items (by simp [D.dep]) j j' rx ry) _ _ _ _ fin
 · cases hp
end
section
variable {X : Cx} {ρ : List (Option D)} {m1 m2 : Bool} {a b : Expr} {d d' : D} {pos : Pos}
theorem e_eqD (ha : E X m1 ρ a d) (hb : E X m2 ρ b d') (hp : pairD d d' = true) (hu : X.A.units + d.dep < cLine) : E X true ρ (.Compare a [.Eq] [b] pos) (.bl (deq d d')) :=
 e_cmp op_eqD ha hb (fun x y H Z Q _ i1 i2 k => ⟨d, d', Z, Z, i1, i2, hp, hu, k _ _ (Same.refl H) (in_bl.mpr rfl)⟩) (nomark _)
theorem t_eqD (ha : E X m1 ρ a d) (hb : E X m2 ρ b d') (hp : pairD d d' = true) (hu : X.A.units + d.dep < cLine) : T X ρ (.Compare a [.Eq] [b] pos) (deq d d') :=
 t_cmp op_eqD ha hb (fun x y H Z Q _ i1 i2 k => ⟨d, d', Z, Z, i1, i2, hp, hu, k _ (Same.refl H)⟩) (nomark _)
theorem t_neD (ha : E X m1 ρ a d) (hb : E X m2 ρ b d') (hp : pairD d d' = true) (hu : X.A.units + d.dep < cLine) : T X ρ (.Compare a [.NotEq] [b] pos) (!deq d d') :=
 t_cmp op_neD ha hb (fun x y H Z Q _ i1 i2 k => ⟨d, d', Z, Z, i1, i2, hp, hu, k _ (Same.refl H)⟩) (nomark _)
end
section
variable {X : Cx} {F : Fn} {ρ : Rho} {Q : EndD} {rest : List Stmt} {e : Expr} {d : D} {pos p : Pos} {x : Str} {fr m1 : Bool} {ds : List D} {dss : List (List D)}
theorem sd_setCN (i : Nat) {x : Str} {d : D} (he : EC X true (view true false ρ) e d) (hr : SD X F rest (ρ.set i (some (.pl true d))) Q) (hN : X.N.Nodup) (hi : X.N[i]? = some x := by rfl)
 (hx : Loc X.env.scope x := by first | exact Or.inl rfl | exact Or.inr rfl) (hρ : i < ρ.length := by exact of_decide_eq_true rfl) (hs : swapsWith e (some (.Name x p)) pos.line X.env = pure true := by rfl) (hf : X.fn x = true ∨ X.env.scope.names.lookup x = some .local := by first | exact .inl rfl | exact .inr rfl) :
 SD X F (.Assign [.Name x p] e pos :: rest) ρ Q :=
 sd_then (PS.mono (he.s x i pos p hN hi hx hs hf) fun Q' σ H z0 => el33 z0 fun hv hρ' A hl S f => ⟨_, vz_open S true false, S.env hl true false, fun v H1 s1 i1 => f.nx _ H1 (put_pl hl S hρ s1 (In.up (zn_open S true) i1))⟩) hr
theorem StIn.ow2 {K : PySem.W.Frag} {H : Hp} {σ hv : St} {hρ : Rho} {A : Nat -> List Addr} {i : Nat} (S : StIn K F H (σ ++ hv) (ρ ++ hρ) A) (hl : σ.length = ρ.length) (h : ρ[i]? = some (some (.ow2 fr dss))) :
 ∃ l as, σ[i]? = some (some (.ref l)) ∧ A i = l :: as ∧ H l = some (.lst (as.map V.ref)) ∧ RowsAt K H (zn F (Owned A) fr) dss as := by
 have hi : i < ρ.length := (List.getElem?_eq_some_iff.mp h).1
 obtain ⟨v, a, l, as, e1, rfl, e2, j⟩ := S.at' i _ (by rw [List.getElem?_append_left hi]; exact h)
 rw [List.getElem?_append_left (by omega)] at a
 exact ⟨l, as, a, e1, e2, j⟩
theorem RowsAt.length {K : PySem.W.Frag} {H : Hp} {Z : Zone} {as : List Addr} (h : RowsAt K H Z dss as) : dss.length = as.length := Paired.length h
theorem RowsAt.snoc {K : PySem.W.Frag} {H : Hp} {Z : Zone} {as : List Addr} {ds : List D} {a : Addr} {xs : List V} (h : RowsAt K H Z dss as) (e : H a = some (.lst xs)) (i : Ins K H Z ds xs) : RowsAt K H Z (dss ++ [ds]) (as ++ [a]) := Paired.snoc h ⟨xs, e, i⟩
theorem RowsAt.unsnoc {K : PySem.W.Frag} {H : Hp} {Z : Zone} : ∀ {dss : List (List D)} {as : List Addr} {ds : List D}, RowsAt K H Z (dss ++ [ds]) as -> ∃ bs a xs, as = bs ++ [a] ∧ RowsAt K H Z dss bs ∧ H a = some (.lst xs) ∧ Ins K H Z ds xs
 | [], as, ds, h => by
  cases h with
  | cons r t => cases t; obtain ⟨xs, e, i⟩ := r; exact ⟨[], _, xs, rfl, .nil, e, i⟩
 | d :: dss, as, ds, h => by
  cases h with
  | cons r t =>
   obtain ⟨bs, a, xs, rfl, h1, e, i⟩ := RowsAt.unsnoc t
   exact ⟨_ :: bs, a, xs, rfl, .cons r h1, e, i⟩
theorem sd_append2n (i : Nat) {x : Str} {ap cp : Pos} {dss : List (List D)} (fr : Bool) (h : ρ[i]? = some (some (.ow2 fr dss)) := by rfl) (he : E X true (view true false ρ) e (.lst [])) (hz : dss.length < 1000) (hr : SD X F rest (ρ.set i (some (.ow2 fr (dss ++ [[]])))) Q)
 (hN : X.N[i]? = some x := by rfl) (hv : Vis X.env.scope x := by first | exact Or.inl rfl | exact Or.inr (Or.inl rfl) | exact Or.inr (Or.inr rfl)) (hd : (x == ("__debug__" : Str)) = false := by decide) (hcd : (x == ("__classdict__" : Str)) = false := by decide)
 (hbase : attributeBase (.Name x p) "append" X.env (eval (.Name x p) X.env) = eval (.Name x p) X.env := by rfl) (hline : (ap.endLine == cp.line) = true := by rfl)
 (hs : starEach [e] X.env = [(false, eval e X.env)] := by rfl) (hsw : swapsWith (.Call (.Attribute (.Name x p) "append" ap) [e] [] cp) none pos.line X.env = pure false := by rfl) :
 SD X F (.Expr (.Call (.Attribute (.Name x p) "append" ap) [e] [] cp) pos :: rest) ρ Q := by
 refine sd_then (PS.mono (ps_expr (pe_bm PySem.F.plainAttrs_list PySem.F.slot_list_append PySem.F.type_list_append mt_append (pe_var hN hv hd hcd) (pa_cons he pa_nil (by rw [hs]; rfl)) hbase (by rw [hs]; rfl) hline (by rw [hs]; rfl) rfl) hsw) ?_) hr
 rintro Q' σ H ⟨hv, hρ, A, hl, S, f⟩
 obtain ⟨l, as, e1, e2, e3, j⟩ := S.ow2 hl h
 have hi : i < σ.length := (List.getElem?_eq_some_iff.mp e1).1
 refine ⟨.ref l, e1, .inl ⟨rfl, _, SqL.of e3⟩, _, vz_open S true false, S.env hl true false, fun v H1 s1 i1 => ?_⟩
 obtain ⟨a, ys, rfl, at', jn⟩ := in_lst.mp i1
 cases ins_nil.mp jn
 obtain ⟨ea, en⟩ : H1 a = some (.lst []) ∧ H a = none := by
  rcases at' with z | z
  · exact z
  · exact absurd z.1 (by simp [out, nw])
 have hlen : (as.map V.ref).length < sizeLine := by rw [List.length_map, <- j.length]; exact small1000 (by omega)
 refine ⟨l, _, .ref a, rfl, rfl, s1.at e3, hlen, f.nx _ _ ?_⟩
 have hal : a ≠ l := by rintro rfl; rw [e3] at en; cases en
 have haA : ∀ j, a ∉ A j := fun j hj => by obtain ⟨xs, e⟩ := S.lst j a hj; rw [en] at e; cases e
 have hnd := S.nd i
 rw [e2] at hnd
 have hl0 : l ∉ as := (List.nodup_cons.mp hnd).1
 have kk : ∀ b o, H b = some o -> isT o = false -> b ∉ A i -> (upd H1 l (.lst (as.map V.ref ++ [.ref a]))) b = some o := fun b o e n hb => by
  rw [e2] at hb
  have : b ≠ l := fun z => hb (by simp [z])
  rw [upd_ne this]; exact s1.get b o e n
 have mine : ∀ b ∈ l :: (as ++ [a]), b ∈ A i ∨ H b = none := fun b hb => by
  rcases List.mem_cons.mp hb with z | hb
  · exact .inl (by rw [e2, z]; simp)
  · rcases List.mem_append.mp hb with hb | hb
    · exact .inl (by rw [e2]; simp [hb])
    · have : b = a := by simpa using hb
      exact .inr (by rw [this]; exact en)
 refine ⟨_, putA A i (l :: (as ++ [a])), by simp [hl], ?_, rfl⟩
 have key := S.re (i := i) (v := .ref l) (sl := .ow2 fr (dss ++ [[]])) (l := l :: (as ++ [a])) (H2 := upd H1 l (.lst (as.map V.ref ++ [.ref a]))) (by rw [List.length_append]; omega) (by rw [List.length_append]; omega) ((S.same.trans s1).write (S.new i l (by rw [e2]; simp)) (s1.at e3)) kk ?_ (fun b hb => ⟨mine b hb, ?_⟩) ⟨l, as ++ [a], rfl, rfl, ?_, ?_⟩
 · rw [set_self (by rw [List.getElem?_append_left hi]; exact e1), set_app (by omega)] at key
   exact key
 · have n1 : a ∉ l :: as := by rw [<- e2]; exact haA i
   rw [<- List.cons_append]
   exact List.nodup_append.mpr ⟨hnd, by simp, fun b hb c hc => by
    have : c = a := by simpa using hc
    subst this
    rintro rfl
    exact n1 hb⟩
 · rcases List.mem_cons.mp hb with z | hb
   · exact ⟨.l _, by rw [z, upd_same]; rfl⟩
   · rcases List.mem_append.mp hb with hb | hb
     · have : b ≠ l := fun z => hl0 (z ▸ hb)
       obtain ⟨xs, e⟩ := S.lst i b (by rw [e2]; simp [hb])
       exact ⟨xs, by rw [upd_ne this]; exact s1.at e xs.nt⟩
     · have : b = a := by simpa using hb
       rw [this, upd_ne hal]
       exact ⟨.l _, ea⟩
 · rw [upd_same, List.map_append]; rfl
 · refine RowsAt.snoc (xs := []) (j.carry (fun b xs hb e => ?_) (carry_re S kk mine fr)) (by rw [upd_ne hal]; exact ea) (ins_nil.mpr rfl)
   have : b ≠ l := by rintro rfl; exact hl0 hb
   rw [upd_ne this]; exact s1.at e
theorem sd_append2 (i : Nat) {x : Str} {ap cp sp : Pos} {ix : Expr} {mi : Bool} {dss : List (List D)} {ds : List D} (fr : Bool) {d : D} (h : ρ[i]? = some (some (.ow2 fr (dss ++ [ds]))) := by rfl) (hix : E X mi (view true false ρ) ix (.int (-1))) (he : E X m1 (view true false ρ) e d) (fl : d.flat = true) (hz : ds.length < 1000)
 (hr : SD X F rest (ρ.set i (some (.ow2 fr (dss ++ [ds ++ [d]])))) Q)
 (hN : X.N[i]? = some x := by rfl) (hv : Vis X.env.scope x := by first | exact Or.inl rfl | exact Or.inr (Or.inl rfl) | exact Or.inr (Or.inr rfl)) (hd : (x == ("__debug__" : Str)) = false := by decide) (hcd : (x == ("__classdict__" : Str)) = false := by decide)
 (hpi : PlainIx ix := by intro _ _; rfl) (hbase : attributeBase (.Subscript (.Name x p) ix sp) "append" X.env (eval (.Subscript (.Name x p) ix sp) X.env) = eval (.Subscript (.Name x p) ix sp) X.env := by rfl)
 (hline : (ap.endLine == cp.line) = true := by rfl)
 (hs : starEach [e] X.env = [(false, eval e X.env)] := by rfl) (hsw : swapsWith (.Call (.Attribute (.Subscript (.Name x p) ix sp) "append" ap) [e] [] cp) none pos.line X.env = pure false := by rfl) :
 SD X F (.Expr (.Call (.Attribute (.Subscript (.Name x p) ix sp) "append" ap) [e] [] cp) pos :: rest) ρ Q := by
 refine sd_then (PS.mono (ps_expr (pe_bm PySem.F.plainAttrs_list PySem.F.slot_list_append PySem.F.type_list_append mt_append (pe_ix ix_list (pe_var hN hv hd hcd) hix hpi) (pa_cons he pa_nil (by rw [hs]; rfl)) hbase (by rw [hs]; rfl) hline (by rw [hs]; rfl) rfl) hsw) ?_) hr
 rintro Q' σ H ⟨hv, hρ, A, hl, S, f⟩
 obtain ⟨l, as, e1, e2, e3, j⟩ := S.ow2 hl h
 have hi : i < σ.length := (List.getElem?_eq_some_iff.mp e1).1
 obtain ⟨bs, a, xs, rfl, j1, ea, ja⟩ := j.unsnoc
 have hnd := S.nd i
 rw [e2] at hnd
 have hal : a ≠ l := fun z => (List.nodup_cons.mp hnd).1 (by simp [z])
 have hab : a ∉ bs := fun z => by
  have := (List.nodup_append.mp (List.nodup_cons.mp hnd).2).2.2 a z a (by simp)
  exact this rfl
 refine ⟨.ref l, e1, _, vz_open S true false, S.env hl true false, fun y H1 s1 i1 => ⟨l, _, -1, .ref a, rfl, in_int.mp (i1.plain (vz_open S true false)), SqL.of (s1.at e3), ?_, .inl ⟨rfl, xs, SqL.of (s1.at ea)⟩, _, (vz_open S true false).same s1, (S.env hl true false).same s1, fun w H2 s2 i2 => ?_⟩⟩
 · rw [List.map_append]; exact atI_last _ _
 · have s12 := s1.trans s2
   have S2 := S.grow s12
   have hlen : xs.length < sizeLine := by rw [<- ja.length]; exact small1000 (by omega)
   refine ⟨a, xs, w, rfl, rfl, s12.at ea, hlen, f.nx _ _ ?_⟩
   have aA : a ∈ A i := by rw [e2]; simp
   have kk : ∀ b o, H2 b = some o -> isT o = false -> b ∉ A i -> (upd H2 a (.lst (xs ++ [w]))) b = some o := fun b o e n hb => by
    have : b ≠ a := fun z => hb (z ▸ aA)
    rw [upd_ne this]; exact e
   have mine : ∀ b ∈ l :: (bs ++ [a]), b ∈ A i ∨ H2 b = none := fun b hb => .inl (by rw [e2]; exact hb)
   refine ⟨_, putA A i (l :: (bs ++ [a])), by simp [hl], ?_, rfl⟩
   have key := S2.re (i := i) (v := .ref l) (sl := .ow2 fr (dss ++ [ds ++ [d]])) (l := l :: (bs ++ [a])) (H2 := upd H2 a (.lst (xs ++ [w]))) (by rw [List.length_append]; omega) (by rw [List.length_append]; omega) (S2.same.write (S2.new i a aA) (s12.at ea)) kk hnd (fun b hb => ⟨mine b hb, ?_⟩) ⟨l, bs ++ [a], rfl, rfl, ?_, ?_⟩
   · rw [set_self (by rw [List.getElem?_append_left hi]; exact e1), set_app (by omega)] at key
     exact key
   · by_cases z : b = a
     · exact ⟨.l _, by rw [z, upd_same]; rfl⟩
     · rw [upd_ne z]
       exact S2.lst i b (by rw [e2]; exact hb)
   · rw [upd_ne (Ne.symm hal)]; exact s12.at e3
   · have c := carry_re S2 kk mine fr
     have sqt : ∀ b (ys : List V), H2 b = some (.tup ys) -> (upd H2 a (.lst (xs ++ [w]))) b = some (.tup ys) := c.t
     have j1' : RowsAt X.K H2 (zn F (Owned A) fr) dss bs := j1.carry (fun b ys hb e => s12.at e) (Carry.same s12)
     refine RowsAt.snoc (j1'.carry (fun b ys hb e => ?_) c) upd_same (Ins.append ((ja.same s12).carry c) (Ins.one (In.flat sqt fl i2)))
     have : b ≠ a := fun z => hab (z ▸ hb)
     rw [upd_ne this]; exact e
end
section
variable {X : Cx} {pins : List (Addr × Obj)} {σ : St} {H H' : Hp} {s : Shared} {h' : Heap}
theorem turnedL {t' : Nat} {ch : List Addr} (I : Inv X pins σ H s) (k : ∀ b o, b ∉ ch -> s.heap.get? b = some o -> h'.get? b = some o) (hf : ∀ b ∈ ch, FpOk X pins H b) : Inv X pins σ H { s with heap := h', toks := t' } := by
 have nit : ∀ b u, H b = some u -> b ∉ ch := fun b u e z => by rw [(hf b z).1] at e; cases e
 refine I.step (g' := s.gens) (d' := s.drawn) (ch := ch) (fun b hb => ⟨(hf b hb).2.2.2.1, (hf b hb).2.1, (hf b hb).2.2.2.2.1, (hf b hb).2.2.2.2.2⟩) (fun b o _ _ hc e _ => k b o hc e) (fun b o _ _ hc e _ => ⟨o.slots, k b o hc e⟩) (fun _ _ _ _ n => n)
  (fun b o hc e => ⟨o, k b o hc e⟩) (fun _ _ e => e) (fun _ _ _ e => e) (fun b ps e => ⟨#[], by rw [e]; simp⟩) (fun m hm => ?_) (fun b u e => ?_) I.bare
 · obtain ⟨o, es, ep, ho, r⟩ := hm
   exact ⟨o, es, ep, k _ o (fun z => (hf _ z).2.1 rfl) ho, r⟩
 · refine (I.hok b u e).stay (fun c v hc q => k c v ?_ q) (fun _ q => q) fun _ _ q => q
   rcases hc with z | z
   · rw [z]; exact nit b u e
   · exact nit c _ z
theorem track {a : Addr} {o : HO} (I : Inv X pins σ H s) (f : FpOk X pins H a) (ha : X.s₀.heap.objs.size <= a) (new : ObjOk X.prog X.w (upd H a o) s.heap a o) : Inv X pins σ (upd H a o) s := by
 have hn := f.1
 have ne0 : ∀ b ob, X.s₀.heap.get? b = some ob -> b ≠ a := fun b ob e => Nat.ne_of_lt (Nat.lt_of_lt_of_le (Heap.lt_size e) ha)
 refine ⟨I.ok, I.os, I.bare, ⟨I.base.keep, I.base.slot, fun b ob e n hx => ?_, I.base.there, fun b xs e => ?_, fun b ob u e => ?_, fun b ps e => ?_⟩, I.loc, I.cell, ?_, fun x c e => ?_, fun p hp => ?_, fun b u e => ?_, I.len⟩
 · rw [upd_ne (ne0 b ob e)]; exact I.base.free b ob e n hx
 · have := I.base.tups b xs e
   rw [upd_ne (ne_of_none this hn)]; exact this
 · have := I.base.frzs b ob u e
   rw [upd_ne (ne_of_none this hn)]; exact this
 · obtain ⟨m, e1⟩ := I.base.tbls b ps e
   exact ⟨m, by rw [upd_ne (ne_of_none e1 hn)]; exact e1⟩
 · rw [upd_ne (Ne.symm f.2.1)]; exact I.free
 · rw [upd_ne (f.2.2.2.2.1 x c e)]; exact I.freeC x c e
 · obtain ⟨h1, h2, h3, h4, h5⟩ := I.pin p hp
   exact ⟨h1, by rw [upd_ne (f.2.2.2.2.2 p hp)]; exact h2, h3, h4, h5⟩
 · by_cases hb : b = a
   · subst hb; rw [upd_same] at e; cases e; exact new
   · rw [upd_ne hb] at e
     exact (I.hok b u e).stay (fun c v _ q => q) (fun c q => by rw [upd_ne (ne_of_none q hn)]; exact q) fun c xs q => by rw [upd_ne (ne_of_none q hn)]; exact q
end
def Ite (K : PySem.W.Frag) (a : Addr) : It :=
 ⟨fun i H => ∃ xs x, SqL K H a xs ∧ xs[i]? = some x, fun i H y H' => ∃ p x, H p = none ∧ y = .ref p ∧ (∀ xs, SqL K H a xs -> xs[i]? = some x) ∧ H' = upd H p (.tup [.int i, x]), fun i H => ∃ xs, SqL K H a xs ∧ xs.length <= i⟩
theorem turn_enum {P : Program} {w : World} {K : PySem.W.Frag} {es : List Expr} {kt : Nat} {pt : Pos} (a e it : Addr) (hne : e ≠ it) : Turn P w K (.Tuple es kt pt) (Ite K a) [e, it] e (fun i h => (∃ old, IsEnum h e it (i : Nat) old) ∧ h.IsListIter it a i) where
 mem := by simp
 obj := fun i h st b hb => by
  obtain ⟨⟨old, he⟩, o, e1, c, d⟩ := st
  rcases List.mem_cons.mp hb with rfl | hb
  · exact ⟨_, he, fun v z => by
     have z' : Data.fields _ = Data.cell v := z
     cases z'⟩
  · have e2 : b = it := by simpa using hb
    subst e2
    exact ⟨o, e1, fun v z => by rw [d] at z; cases z⟩
 keep := fun i h h' st k => by
  obtain ⟨⟨old, he⟩, hit⟩ := st
  exact ⟨⟨old, k e (by simp) _ he⟩, hit.at fun o q => k it (by simp) o q⟩
 item := by
  intro X hP hw hK hc i pins s σ H E I hf st hg
  subst hP hw hK
  obtain ⟨⟨old, he⟩, hit⟩ := st
  obtain ⟨xs, x, hq, hx⟩ := hg
  obtain ⟨its, rv, p, hz⟩ := I.list hq
  obtain ⟨u, hu, ru⟩ := rv.get hx
  refine wpAny_pyNext_enum_item he hit p.isList (x := u) (by simpa using hu) hne fun h1 he1 hit1 ht1 hz1 hk1 => ?_
  refine ⟨_, rfl, wpAny_letOwnedTupleGo_enum (s := { s with heap := h1, toks := s.toks + 1 }) he1 fun h2 he2 sb2 => ?_⟩
  have hlt : e < s.heap.objs.size := Heap.lt_size he
  have kk : ∀ b o, b ∉ [e, it] -> s.heap.get? b = some o -> h2.get? b = some o := fun b o hb q => by
   have b1 : b ≠ e := fun z => hb (by simp [z])
   have b2 : b ≠ it := fun z => hb (by simp [z])
   exact (sb2.2 b b1).trans (hk1 b o b1 b2 q)
  have I2 : Inv X pins σ H { s with heap := h2, toks := s.toks + 1 } := turnedL I kk hf
  have fresh := I.hok.fresh (Nat.le_refl s.heap.objs.size)
  have tup : h2.get? s.heap.objs.size = some { cls := .type "tuple", data := .seq #[.int i s.toks, u] } := (sb2.2 _ (Nat.ne_of_gt hlt)).trans ht1
  have I3 := track (o := .tup [.int (i : Nat), x]) I2 (I.fpOk (Nat.le_refl _) fresh) (Nat.le_trans I.sz (Nat.le_refl _)) ⟨by show 2 <= sizeLine; exact Nat.le_of_lt (small1000 (by decide)), [.int i s.toks, u], .cons ⟨_, rfl⟩ (.cons ru .nil), ⟨_, tup, rfl, _, rfl⟩⟩
  refine ⟨.ref s.heap.objs.size, _, I3, rfl, ⟨s.heap.objs.size, x, fresh, rfl, fun ys hy => by rw [I.list_inj hy hq]; exact hx, rfl⟩, ⟨⟨u, ?_⟩, ?_⟩, fun b hb => ?_⟩
  · have : ((i : Int) + 1) = ((i + 1 : Nat) : Int) := by omega
    rw [<- this]; exact he2
  · obtain ⟨o, q, c, d⟩ := hit1
    exact ⟨o, (sb2.2 it (Ne.symm hne)).trans q, c, d⟩
  · have hb' : b < s.heap.objs.size := by
     rcases List.mem_cons.mp hb with rfl | hb
     · exact hlt
     · have e2 : b = it := by simpa using hb
       subst e2
       obtain ⟨o, q, _⟩ := hit
       exact Heap.lt_size q
    rw [upd_ne (Nat.ne_of_lt hb')]; exact (hf b hb).1
 done := by
  intro X hP hw hK hc i pins s σ H E I hf st hg
  subst hP hw hK
  obtain ⟨⟨old, he⟩, hit⟩ := st
  obtain ⟨xs, hq, hx⟩ := hg
  obtain ⟨its, rv, p, hz⟩ := I.list hq
  have hl := rv.length
  exact wpAny_pyNext_enum_end (I.ok.hd hc) he hit p.isList (by simp; omega) fun h' eb => ⟨rfl, turnedL (t' := s.toks) (ch := [it]) I (fun b o hb q => eb b o (by simpa using hb) q) fun b hb => hf b (by
   have : b = it := by simpa using hb
   simp [this])⟩
 self := fun _ _ _ _ _ st h => by
  obtain ⟨⟨old, he⟩, _⟩ := st
  exact wpAny_pyIter_enum he h
section
variable {X : Cx} {ρ : List (Option D)} {m m1 m2 : Bool} {es : List Expr} {kt : Nat} {pt p pos : Pos} {a b : Expr} {ds es' : List D}
def iEnum (K : PySem.W.Frag) (ta : TA) : TI := fun σ H R => ta σ H fun vs H1 => ∃ l, vs = [.ref l] ∧ (∃ xs, SqL K H1 l xs) ∧ R (Ite K l) H1
theorem pi_enum {ta : TA} (hg : Gl X "enumerate") (hm : X.mg "enumerate" = none) (ha : PA X [a] ta) (hs : starEach [a] X.env = [(false, eval a X.env)] := by rfl) : PI X (.Tuple es kt pt) (.Call (.Name "enumerate" p) [a] [] pos) (iEnum X.K ta) := by
 intro pins s σ H R I h
 refine Call_ (ld_blt I hg hm boot_enumerate (PyProof.Rows.callWith_type1 (thn (ha pos pins s σ H _ I h) fun us s1 ⟨vs, H1, I1, r1, q1⟩ => ?_) hs rfl))
 obtain ⟨l, e, ⟨xs, hq⟩, q⟩ := q1
 subst e
 obtain ⟨u, rfl, ru⟩ := vals1 r1
 cases ru
 obtain ⟨its, rv, pl, hz⟩ := I1.list hq
 refine call_enumerate_list pl.isList fun h' he hit hz' hk => ?_
 have I2 : Inv X pins σ H1 { s1 with heap := h' } := I1.kept (t' := s1.toks) hk
 refine wpAny_pyIter_enum (s := { s1 with heap := h' }) he ⟨s1.heap.objs.size + 1, [s1.heap.objs.size + 1, s1.heap.objs.size], _, _, H1, rfl, I2, turn_enum l _ _ (Nat.succ_ne_self _), ⟨⟨_, he⟩, hit⟩, fun b hb => ?_, q⟩
 rcases List.mem_cons.mp hb with rfl | hb
 · exact I1.fpOk (Nat.le_succ _) (I1.hok.fresh (Nat.le_succ _))
 · have e : b = s1.heap.objs.size := by simpa using hb
   subst e
   exact I1.fpOk (Nat.le_refl _) (I1.hok.fresh (Nat.le_refl _))
def enumD (ds : List D) : List D := (List.range ds.length).map fun i => D.tup [.int (i : Nat), ds.getD i .non]
theorem enumD_get {i : Nat} {d : D} (h : (enumD ds)[i]? = some d) : ∃ d', ds[i]? = some d' ∧ d = .tup [.int (i : Nat), d'] := by
 unfold enumD at h
 rw [List.getElem?_map] at h
 by_cases hi : i < ds.length
 · rw [List.getElem?_range hi] at h
   refine ⟨ds[i], by simp [hi], ?_⟩
   have := Option.some.inj h
   rw [<- this]; simp [hi]
 · rw [List.getElem?_eq_none (by simpa using hi)] at h
   cases h
theorem enumD_len : (enumD ds).length = ds.length := by simp [enumD]
theorem it_enum (h : E X m ρ a (.lst ds)) (hm : X.mg "enumerate" = none) (hg : Gl X "enumerate" := by rfl) (hs : starEach [a] X.env = [(false, eval a X.env)] := by rfl) :
 IT X (.Tuple es kt pt) m ρ (.Call (.Name "enumerate" p) [a] [] pos) (enumD ds) := PI.mono (pi_enum hg hm (pa_cons h pa_nil (by rw [hs]; rfl)) hs) fun σ H R z0 => el13 z0 fun Z oz en k => ⟨Z, oz, en, fun v H1 s1 i1 => by
 obtain ⟨l, xs, rfl, at', j⟩ := in_lst.mp i1
 refine ⟨l, rfl, ⟨xs, at'.sq⟩, k _ H1 [.ref l] [.lst ds] s1 (Ins.one i1) ⟨fun Z2 H2 o2 j2 i d e => ?_, fun Z2 H2 o2 j2 => ?_⟩⟩
 · obtain ⟨d', e', rfl⟩ := enumD_get e
   obtain ⟨w, r, e1, j3, j4⟩ := ins_cons.mp j2
   cases e1
   obtain ⟨a', ys, e2, l2, j5⟩ := in_lst.mp j3
   cases e2
   obtain ⟨v, e3, iv⟩ := j5.get e'
   refine ⟨⟨ys, v, l2.sq, e3⟩, fun x H3 ⟨q, y, hq, ex, hy, eH⟩ => ?_⟩
   subst ex eH
   have := hy ys l2.sq
   rw [e3] at this
   cases this
   exact ⟨same_new hq, in_tup.mpr ⟨q, _, rfl, upd_same, ins_cons.mpr ⟨_, _, rfl, in_int.mpr rfl, Ins.one (iv.same (same_new hq))⟩⟩⟩
 · obtain ⟨w, r, e1, j3, j4⟩ := ins_cons.mp j2
   cases e1
   obtain ⟨a', ys, e2, l2, j5⟩ := in_lst.mp j3
   cases e2
   exact ⟨ys, l2.sq, by rw [enumD_len]; exact Nat.le_of_eq j5.length.symm⟩⟩
end
theorem cut_map {α β : Type} (f : α -> β) (l : List α) (a b : Option Int) : cut (l.map f) a b = (cut l a b).map f := by
 unfold cut
 rw [List.length_map, List.map_take, List.map_drop]
theorem cut_sub {α : Type} {l : List α} {a b : Option Int} {x : α} (h : x ∈ cut l a b) : x ∈ l := List.mem_of_mem_drop (List.mem_of_mem_take h)
theorem smallL {n : Nat} (h : n <= 1000) : n <= sizeLine := Nat.le_of_lt (small1000 h)
theorem cut_from {α : Type} (xs : List α) (k : Nat) : cut xs (some (k : Int)) none = xs.drop k := by
 unfold cut
 rw [HT.sIx_nat, HT.sIx_none]
 by_cases h : k <= xs.length
 · rw [Nat.min_eq_left h]
   exact List.take_of_length_le (by simp)
 · have h' : xs.length <= k := by omega
   rw [Nat.min_eq_right h', List.drop_of_length_le h', List.drop_length]
   simp
theorem cut_both {α : Type} (xs : List α) (j k : Nat) : cut xs (some (j : Int)) (some (k : Int)) = (xs.drop j).take (k - j) := by
 unfold cut
 rw [HT.sIx_nat, HT.sIx_nat]
 by_cases h : j <= xs.length
 · rw [Nat.min_eq_left h]
   by_cases h2 : k <= xs.length
   · rw [Nat.min_eq_left h2]
   · have h3 : xs.length <= k := by omega
     rw [Nat.min_eq_right h3, List.take_of_length_le (by simp), List.take_of_length_le (by simp; omega)]
 · have h' : xs.length <= j := by omega
   rw [Nat.min_eq_right h', List.drop_of_length_le h', List.drop_length]
   simp
theorem flats_cut {ds : List D} {a b : Option Int} (h : flats ds = true) : flats (cut ds a b) = true := flats_all fun d hd => flats_mem h d (cut_sub hd)
theorem atI_get {α : Type} {xs : List α} {i : Int} {a : α} (h0 : 0 <= i) (h : xs[i.toNat]? = some a) : atI xs i = some a := by
 obtain ⟨k, rfl⟩ := Int.eq_ofNat_of_zero_le h0
 exact atI_nat (by simpa using h)
section
variable {X : Cx} {F : Fn} {ρ : Rho} {Q : EndD} {rest : List Stmt} {e : Expr} {d : D} {pos p sp : Pos} {x : Str} {fr m1 mi : Bool} {ds : List D} {dss : List (List D)} {ix : Expr}
theorem sd_clear (i : Nat) {x : Str} {ap cp : Pos} {ds : List D} (fr : Bool) (h : ρ[i]? = some (some (.ow fr ds)) := by rfl) (hr : SD X F rest (ρ.set i (some (.ow fr []))) Q)
 (hN : X.N[i]? = some x := by rfl) (hv : Vis X.env.scope x := by first | exact Or.inl rfl | exact Or.inr (Or.inl rfl) | exact Or.inr (Or.inr rfl)) (hd : (x == ("__debug__" : Str)) = false := by decide) (hcd : (x == ("__classdict__" : Str)) = false := by decide)
 (hbase : attributeBase (.Name x p) "clear" X.env (eval (.Name x p) X.env) = eval (.Name x p) X.env := by rfl) (hline : (ap.endLine == cp.line) = true := by rfl)
 (hsw : swapsWith (.Call (.Attribute (.Name x p) "clear" ap) [] [] cp) none pos.line X.env = pure false := by rfl) :
 SD X F (.Expr (.Call (.Attribute (.Name x p) "clear" ap) [] [] cp) pos :: rest) ρ Q := by
 refine sd_then (PS.mono (ps_expr (pe_bm0 PySem.F.plainAttrs_list PySem.F.slot_list_clear PySem.F.type_list_clear mt_clear (pe_var hN hv hd hcd) hbase hline) hsw) ?_) hr
 rintro Q' σ H ⟨hv, hρ, A, hl, S, f⟩
 obtain ⟨l, xs, e1, e2, e3, j⟩ := S.ow hl h
 exact ⟨.ref l, e1, .inl ⟨rfl, xs, SqL.of e3⟩, l, xs, rfl, rfl, e3, f.nx _ _ (put_ow hl S e1 e2 e3 (ins_nil.mpr rfl))⟩
end
end Y
namespace Y
open PySem PyProof.Rows Builtin Builtin.Str StrLaws
abbrev cl (z : Str) : List Nat := z.cps.toList
def mkS (l : List Nat) : Str := ⟨l.toArray⟩
theorem mkS_cl (z : Str) : mkS (cl z) = z := by simp [cl, mkS]
theorem cl_inj {a b : Str} (h : cl a = cl b) : a = b := by rw [<- mkS_cl a, <- mkS_cl b, h]
end Y
namespace Y
open PySem PyProof.Rows Builtin Builtin.Str StrLaws
def W36 : Str := "abcdefghijklmnopqrstuvwxyz0123456789"
def sgB (c : Nat) : Bool := decide (c ∈ cl W36)
def wopt (cur : List Nat) : List (List Nat) := if cur = [] then [] else [cur]
def ropt (row : List (List Nat)) : List (List (List Nat)) := if row = [] then [] else [row]
def scan : List Nat -> List (List Nat) -> List Nat -> List (List (List Nat))
 | [], row, cur => ropt (row ++ wopt cur)
 | c :: cs, row, cur => if c = 10 then ropt (row ++ wopt cur) ++ scan cs [] [] else if sgB (lo1 c) then scan cs row (cur ++ [lo1 c]) else scan cs (row ++ wopt cur) []
end Y
namespace Y
open PySem PyProof.Rows Builtin Builtin.Str StrLaws
end Y
namespace Y
open PySem PyProof.Rows Builtin Builtin.Str StrLaws
end Y
namespace Y
open PySem PySem.Spec PyProof.Rows L2
variable [Tabs]
def cellAt (ns : List Int) (k : Nat) : Int := ns.getD k 0
def gCellAt (ds : List D) (d : D) : Prop := ∃ (ns : List Int) (k : Nat), ns.length <= 1000 ∧ ds = [.lst (ns.map D.int), .int k] ∧ d = .int (cellAt ns k)
def part (c k m : Int) : Int := (c % 99991 + 17) * (48271 + 7919 * k) % 65537 * (k + 3) % 8191 % m
theorem part_nn (c k : Int) {m : Int} (h : 0 < m) : 0 <= part c k m := Int.emod_nonneg _ (by omega)
theorem part_lt (c k : Int) {m : Int} (h : 0 < m) : part c k m < m := Int.emod_lt_of_pos _ h
def gPart (ds : List D) (d : D) : Prop := ∃ c k m : Int, 0 < m ∧ ds = [.int c, .int k, .int m] ∧ d = .int (part c k m)
def sgnAt (n : Int) : Nat := W36.cps.toList.getD (n % 36).toNat 0
theorem atI_sgn (n : Int) : atI W36.cps.toList (n % 36) = some (sgnAt n) := by
 have h0 := Int.emod_nonneg n (show (36 : Int) ≠ 0 by decide)
 have h1 := Int.emod_lt_of_pos n (show (0 : Int) < 36 by decide)
 have hl : W36.cps.toList.length = 36 := by decide +kernel
 obtain ⟨k, hk⟩ := Int.eq_ofNat_of_zero_le h0
 unfold sgnAt
 rw [hk]
 refine atI_nat ?_
 have : k < W36.cps.toList.length := by omega
 simp at this
 simp [this]
def strsD (ws : List Str) : D := .lst (ws.map D.str)
def intsD (ns : List Int) : D := .lst (ns.map D.int)
def rowsD (rows : List (List Str)) : D := .lst (rows.map strsD)
theorem snoc_ind {α : Type} {p : List α -> Prop} (h0 : p []) (hs : ∀ l a, p l -> p (l ++ [a])) (l : List α) : p l := by
 have : ∀ n (l : List α), l.length = n -> p l := by
  intro n
  induction n with
  | zero => intro l h; cases l with
   | nil => exact h0
   | cons => simp at h
  | succ n ih =>
   intro l h
   have hne : l ≠ [] := by intro e; subst e; simp at h
   rw [<- List.dropLast_concat_getLast hne]
   exact hs _ _ (ih _ (by simp [h]))
 exact this _ l rfl
theorem strs_get {ws : List Str} {n : Nat} (h : n < ws.length) : (ws.map D.str)[n]? = some (.str (ws.getD n "")) := by simp [h]
def plD (p : Nat × Nat) : D := .tup [.int p.1, .int p.2]
def plsD (ps : List (Nat × Nat)) : D := .lst (ps.map plD)
def tot (rows : List (List Str)) : Nat := (rows.map List.length).sum
def allPn (rows : List (List Str)) (n : Nat) : List (Nat × Nat) := (List.range n).flatMap fun r => (List.range (rows.getD r []).length).map fun a => (r, a)
def allP (rows : List (List Str)) : List (Nat × Nat) := allPn rows rows.length
theorem allPn_succ (rows : List (List Str)) (n : Nat) : allPn rows (n + 1) = allPn rows n ++ (List.range (rows.getD n []).length).map fun a => (n, a) := by
 unfold allPn
 rw [List.range_succ, List.flatMap_append]
 simp
theorem allPn_len (rows : List (List Str)) : ∀ n, n <= rows.length -> (allPn rows n).length = ((rows.take n).map List.length).sum
 | 0, _ => by simp [allPn]
 | n + 1, h => by
  have hn : n < rows.length := by omega
  have e : rows.take (n + 1) = rows.take n ++ [rows.getD n []] := by
   rw [List.take_add_one]; simp [hn]
  rw [allPn_succ, List.length_append, allPn_len rows n (by omega), List.length_map, List.length_range, e, List.map_append, List.sum_append]
  simp
theorem sum_take_le : ∀ (l : List (List Str)) (n : Nat), ((l.take n).map List.length).sum <= (l.map List.length).sum
 | [], n => by simp
 | a :: l, 0 => by simp
 | a :: l, n + 1 => by
  have := sum_take_le l n
  simp at this ⊢
  omega
theorem tot_take (rows : List (List Str)) (n : Nat) (h : n <= rows.length) : (allPn rows n).length <= tot rows := by
 rw [allPn_len rows n h]; exact sum_take_le rows n
theorem tot_row {rows : List (List Str)} {n : Nat} {row : List Str} (h : rows[n]? = some row) (m : Nat) (hm : m <= row.length) : (allPn rows n).length + m <= tot rows := by
 have hn : n < rows.length := (List.getElem?_eq_some_iff.mp h).1
 have h1 := tot_take rows (n + 1) (by omega)
 rw [allPn_succ, List.length_append] at h1
 simp [h] at h1
 omega
def gAll (ds : List D) (d : D) : Prop := ∃ rows, tot rows <= 900 ∧ ds = [rowsD rows] ∧ d = plsD (allP rows)
def endAt (rows : List (List Str)) (p : Nat × Nat) : List Str := (rows.getD p.1 []).drop p.2
def gEnd (ds : List D) (d : D) : Prop := ∃ (rows : List (List Str)) (p : Nat × Nat), p.1 < rows.length ∧ ds = [rowsD rows, plD p] ∧ d = strsD (endAt rows p)
theorem rangeD0_get {n i : Nat} {d : D} (h : (rangeD 0 n)[i]? = some d) : i < n ∧ d = .int (i : Nat) := by
 obtain ⟨h1, h2⟩ := rangeD_get h
 exact ⟨h1, by rw [h2, Int.zero_add]⟩
theorem flat_range {lo : Int} {n : Nat} : ∀ d ∈ rangeD lo n, d.flat = true := fun d hd => by obtain ⟨i, _, rfl⟩ := List.mem_map.mp hd; rfl
theorem flat_ints {ns : List Int} : ∀ d ∈ ns.map D.int, d.flat = true := fun d hd => by obtain ⟨i, _, rfl⟩ := List.mem_map.mp hd; rfl
theorem flat_strs {ns : List Str} : ∀ d ∈ ns.map D.str, d.flat = true := fun d hd => by obtain ⟨i, _, rfl⟩ := List.mem_map.mp hd; rfl
theorem told_strs : Told strsD := told_list told_str
theorem told_plD : Told plD := fun p q => by
 obtain ⟨a, b⟩ := p
 obtain ⟨c, d⟩ := q
 simp only [plD, deq, deqs, Bool.and_true]
 by_cases h1 : a = c
 · by_cases h2 : b = d
   · simp [h1, h2]
   · simp [h1, h2]; omega
 · simp [h1]; omega
theorem deps_le {n : Nat} : ∀ {ds : List D}, (∀ d ∈ ds, d.dep <= n) -> deps ds <= n
 | [], _ => by simp [deps]
 | d :: ds, h => by
  have h1 := h d List.mem_cons_self
  have h2 : deps ds <= n := deps_le fun e he => h e (List.mem_cons_of_mem _ he)
  simp [deps]; omega
theorem dep_lst {n : Nat} {ds : List D} (h : ∀ d ∈ ds, d.dep <= n) : (D.lst ds).dep <= n + 1 := by
 have := deps_le h
 simp [D.dep]; omega
theorem dep_strs (ws : List Str) : (strsD ws).dep <= 1 := dep_lst fun d hd => by obtain ⟨i, _, rfl⟩ := List.mem_map.mp hd; simp [D.dep]
theorem dep_rows (ws : List (List Str)) : (rowsD ws).dep <= 2 := dep_lst fun d hd => by obtain ⟨i, _, rfl⟩ := List.mem_map.mp hd; exact dep_strs i
theorem dep_plD (p : Nat × Nat) : (plD p).dep <= 1 := by simp [plD, D.dep, deps]
theorem dep_pls (ps : List (Nat × Nat)) : (plsD ps).dep <= 2 := dep_lst fun d hd => by obtain ⟨i, _, rfl⟩ := List.mem_map.mp hd; exact dep_plD i
theorem roomD {k n : Nat} {A : Around} {d : D} (r : Room k A) (h : d.dep <= n) (hn : n <= 200 := by decide) : A.units + d.dep < cLine := by have := r.un; omega
theorem tot_append (a b : List (List Str)) : tot (a ++ b) = tot a + tot b := by simp [tot]
theorem row_le_tot {rows : List (List Str)} {r : List Str} (h : r ∈ rows) : r.length <= tot rows := by
 obtain ⟨n, hn⟩ := List.getElem?_of_mem h
 have := tot_row hn r.length (Nat.le_refl _)
 omega
theorem allP_mem {rows : List (List Str)} {p : Nat × Nat} (h : p ∈ allP rows) : p.1 < rows.length ∧ p.2 < (rows.getD p.1 []).length := by
 unfold allP allPn at h
 obtain ⟨r, hr, hp⟩ := List.mem_flatMap.mp h
 obtain ⟨a, ha, rfl⟩ := List.mem_map.mp hp
 exact ⟨List.mem_range.mp hr, List.mem_range.mp ha⟩
theorem big5000 : 5000 <= sizeLine := by decide
theorem smallN {n : Nat} (h : n <= 5000) : n <= sizeLine := Nat.le_trans h big5000
theorem T.castB {X : Cx} {ρ : List (Option D)} {e : Expr} {b b' : Bool} (h : T X ρ e b) (q : b = b') : T X ρ e b' := q ▸ h
theorem it_rangeL {X : Cx} {ρ : List (Option D)} {m1 : Bool} {tg a : Expr} {p pos : Pos} {n : Nat} (h : E X m1 ρ a (.int (n : Nat))) (hm : X.mg "range" = none) (hn : n < 2 ^ 62 := by first | omega | (simp only [List.length_map]; omega)) (hg : Gl X "range" := by rfl) (hs : starEach [a] X.env = [(false, eval a X.env)] := by rfl) :
 IT X tg true ρ (.Call (.Name "range" p) [a] [] pos) (rangeD 0 n) := it_range (n := ((n : Nat) : Int)) h (by omega) (by omega) hm hg hs
def sizeB (one : Int) : Int := 1 + part one 0 14
def atB (one other : Int) : Int := part other 1 (sizeB one)
def numB (one other k : Int) (j : Int) : Int := if j = atB one other then part one (j + 2) 36 + k else part one (j + 2) 36
def wordB (one other k : Int) (n : Nat) : Str := ⟨((List.range n).map fun j => sgnAt (numB one other k ((j : Nat) : Int))).toArray⟩
def wordsB0 (one other : Int) : List Str := (List.range 5).map fun k => wordB one other ((k : Nat) : Int) (sizeB one).toNat
def wordsB (one other : Int) : List Str := if 4 < sizeB one ∧ other % 2 = 1 then (List.range 5).map fun k => Txt.slice (wordB one other 0 (sizeB one).toNat) none (some (sizeB one - ((k : Nat) : Int))) else wordsB0 one other
theorem sizeB_pos (one : Int) : 1 <= sizeB one := by have := part_nn one 0 (show (0 : Int) < 14 by decide); unfold sizeB; omega
theorem sizeB_le (one : Int) : sizeB one <= 14 := by have := part_lt one 0 (show (0 : Int) < 14 by decide); unfold sizeB; omega
theorem wordB_len (one other k : Int) (n : Nat) : (wordB one other k n).length = n := by show Array.size _ = n; simp [wordB]
theorem wordB_succ (one other k : Int) (n : Nat) : wordB one other k (n + 1) = wordB one other k n ++ ⟨#[sgnAt (numB one other k ((n : Nat) : Int))]⟩ := by
 apply Str.ext'
 rw [Str.cps_append]
 unfold wordB
 rw [List.range_succ, List.map_append]
 simp
theorem wordsB_len (one other : Int) : (wordsB one other).length = 5 := by
 unfold wordsB wordsB0
 split <;> simp
def gWordsB (ds : List D) (d : D) : Prop := ∃ one other : Int, ds = [.int one, .int other] ∧ d = strsD (wordsB one other)
def idxB : List Nat := [0, 0, 0, 1, 1, 1, 2, 3, 4]
def pickB (ws : List Str) (c : Int) : Str := ws.getD (idxB.getD (part c 4 9).toNat 0) ""
def stepB (ws : List Str) (rows : List (List Str)) (c : Int) : List (List Str) := if part c 3 8 = 0 then rows ++ [[]] else rows.dropLast ++ [rows.getLast?.getD [] ++ [pickB ws c]]
def rowsB (ws : List Str) (cells : List Int) : List (List Str) := cells.foldl (stepB ws) [[]]
theorem rowsB_snoc (ws : List Str) (cells : List Int) (c : Int) : rowsB ws (cells ++ [c]) = stepB ws (rowsB ws cells) c := by
 unfold rowsB; rw [List.foldl_append]; rfl
theorem rowsB_last (ws : List Str) (cells : List Int) : ∃ init last, rowsB ws cells = init ++ [last] := by
 refine snoc_ind (p := fun cells => ∃ init last, rowsB ws cells = init ++ [last]) ⟨[], [], rfl⟩ (fun l c ⟨init, last, e⟩ => ?_) cells
 rw [rowsB_snoc]
 unfold stepB
 split
 · exact ⟨_, _, rfl⟩
 · exact ⟨_, _, rfl⟩
theorem rowsB_tot (ws : List Str) (cells : List Int) : tot (rowsB ws cells) <= cells.length ∧ (rowsB ws cells).length <= cells.length + 1 := by
 refine snoc_ind (p := fun cells => tot (rowsB ws cells) <= cells.length ∧ (rowsB ws cells).length <= cells.length + 1) (by simp [rowsB, tot]) (fun l c ih => ?_) cells
 obtain ⟨init, last, e⟩ := rowsB_last ws l
 rw [rowsB_snoc]
 rw [e] at ih
 rw [tot_append] at ih
 unfold stepB
 rw [e]
 split
 · rw [tot_append, tot_append]; simp [tot] at ih ⊢; omega
 · simp [tot] at ih ⊢; omega
def gRowsB (ds : List D) (d : D) : Prop := ∃ (ws : List Str) (cells : List Int), ws.length = 5 ∧ cells.length <= 63 ∧ ds = [strsD ws, intsD cells] ∧ d = rowsD (rowsB ws cells)
theorem idx9 {k : Int} (h0 : 0 <= k) (h9 : k < 9) : atI [D.int 0, .int 0, .int 0, .int 1, .int 1, .int 1, .int 2, .int 3, .int 4] k = some (.int ((idxB.getD k.toNat 0 : Nat) : Int)) := by
 obtain ⟨n, rfl⟩ := Int.eq_ofNat_of_zero_le h0
 have hn : n < 9 := by omega
 match n, hn with
 | 0, _ => rfl
 | 1, _ => rfl
 | 2, _ => rfl
 | 3, _ => rfl
 | 4, _ => rfl
 | 5, _ => rfl
 | 6, _ => rfl
 | 7, _ => rfl
 | 8, _ => rfl
theorem idx9_lt {k : Int} (h0 : 0 <= k) (h9 : k < 9) : idxB.getD k.toNat 0 < 5 := by
 obtain ⟨n, rfl⟩ := Int.eq_ofNat_of_zero_le h0
 have hn : n < 9 := by omega
 match n, hn with
 | 0, _ => decide
 | 1, _ => decide
 | 2, _ => decide
 | 3, _ => decide
 | 4, _ => decide
 | 5, _ => decide
 | 6, _ => decide
 | 7, _ => decide
 | 8, _ => decide
def gCopy (ds : List D) (d : D) : Prop := ∃ rows : List (List Str), rows.length <= 900 ∧ ds = [rowsD rows] ∧ d = rowsD rows
def gWhole (ds : List D) (d : D) : Prop := ∃ i : Int, ds = [.int i] ∧ d = .bl true
def gIsPlace (ds : List D) (d : D) : Prop := ∃ p : Nat × Nat, ds = [plD p] ∧ d = .bl true
theorem getD_mem {α : Type} {l : List α} {n : Nat} {d : α} (h : n < l.length) : l.getD n d ∈ l := by
 rw [List.getD_eq_getElem?_getD, List.getElem?_eq_getElem h]
 exact List.getElem_mem h
def gAllL (ds : List D) (d : D) : Prop := ∃ rows, tot rows <= 900 ∧ rows.length <= 900 ∧ ds = [rowsD rows] ∧ d = plsD (allP rows)
end Y
namespace Y
open PySem PySem.Spec PyProof.Rows L2 PySem.SeqAt AutoSeq1 MeetsSeq MeetsSeq2 MeetsSeq3
def RoAt (op : CmpOp) (A : Around) (s : Shared) (y x : Value) (b : Bool) : Prop :=
 ∀ (prog : Program) (w : World) (E : Value -> Shared -> Prop) (Q : Value -> Shared -> Prop), Q (.bool b) s -> wpAny (model prog w) A (richCompare op y x) Q E s
def walkB (e r : Nat -> Bool) (z : Bool) : List Nat -> Bool
 | [] => z
 | j :: js => if e j then walkB e r z js else r j
theorem loopLt (l b : Addr) (its its2 : Array Value) (n n2 : Nat) (dd dd2 : Option Addr) (sl sl2 : Array (Option Value)) (e r : Nat -> Bool) (k : Nat) :
 ∀ i : Nat, min its.size its2.size - i = k -> Meets (Builtin.«list.__eq__.loop» ⟨[.ref l, .ref b, rawInt i, rawInt 0], []⟩)
  (fun A R s => s.heap.get? l = some { cls := .type "list", dict := dd, data := .seq its n, slots := sl } ∧ s.heap.get? b = some { cls := .type "list", dict := dd2, data := .seq its2 n2, slots := sl2 } ∧
   (∀ j (h1 : j < its.size) (h2 : j < its2.size), EqAt A.in1 s its[j] its2[j] (e j)) ∧ (∀ j (h1 : j < its.size) (h2 : j < its2.size), e j = false -> RoAt .Lt A.in1 s its[j] its2[j] (r j)) ∧
   R (.ok (.ret (.bool (walkB e r (decide (its.size < its2.size)) ((List.range (min its.size its2.size)).drop i))))) s) := by
 induction k with
 | zero =>
  intro i hk prog w A R s hyp
  obtain ⟨hp, g, d, tk, os⟩ := s
  obtain ⟨hl, hb, he, ho, fin⟩ := hyp
  wp_walk using wpAny_loadPart' hl, wpAny_loadPart' hb
  have hd : (List.range (min its.size its2.size)).drop i = [] := by simp; omega
  rw [hd] at fin
  by_cases h1 : i < its.size
  · have e1 : its[((i : Nat) : Int).toNat]? = some its[i] := by simp [h1]
    have e2 : its2[((i : Nat) : Int).toNat]? = none := by simp; omega
    rw [e1, e2]
    wp_walk using wpAny_loadPart' hl, wpAny_loadPart' hb
    exact fin
  · have e1 : its[((i : Nat) : Int).toNat]? = none := by simp; omega
    rw [e1]
    cases e2 : its2[((i : Nat) : Int).toNat]?
    · wp_walk using wpAny_loadPart' hl, wpAny_loadPart' hb
      exact fin
    · wp_walk using wpAny_loadPart' hl, wpAny_loadPart' hb
      exact fin
 | succ k ih =>
  intro i hk prog w A R s hyp
  obtain ⟨hp, g, d, tk, os⟩ := s
  obtain ⟨hl, hb, he, ho, fin⟩ := hyp
  wp_walk using wpAny_loadPart' hl, wpAny_loadPart' hb
  have h1 : i < its.size := by omega
  have h2 : i < its2.size := by omega
  have e1 : its[((i : Nat) : Int).toNat]? = some its[i] := by simp [h1]
  have e2 : its2[((i : Nat) : Int).toNat]? = some its2[i] := by simp [h2]
  have hm : i < min its.size its2.size := by omega
  have hd : (List.range (min its.size its2.size)).drop i = i :: (List.range (min its.size its2.size)).drop (i + 1) := by simp [List.drop_eq_getElem_cons, hm]
  have hc : ((i : Int) + 1) = ((i + 1 : Nat) : Int) := by push_cast; rfl
  rw [hd] at fin
  rw [e1, e2]
  refine wpAny_bind (he i h1 h2 prog w _ _ ?_)
  cases hq : e i with
  | true =>
   have fin' : R (.ok (.ret (.bool (walkB e r (decide (its.size < its2.size)) ((List.range (min its.size its2.size)).drop (i + 1)))))) ⟨hp, g, d, tk, os⟩ := by simpa [walkB, hq] using fin
   wp_walk
   rw [hc]
   exact ⟨plainId_quiet plain_eq_loop _, codeAny_builtin entry_eq_loop (by
    rw [Around.under_plainId plain_eq_loop _]
    exact ih (i + 1) (by omega) prog w A R _ ⟨hl, hb, he, ho, fin'⟩)⟩
  | false =>
   have fin' : R (.ok (.ret (.bool (r i)))) ⟨hp, g, d, tk, os⟩ := by simpa [walkB, hq] using fin
   wp_walk using wpAny_loadPart' hl, wpAny_loadPart' hb
   rw [e1, e2]
   refine wpAny_bind (ho i h1 h2 hq prog w _ _ ?_)
   wp_walk
   exact fin'
theorem listLt (l b : Addr) (its its2 : Array Value) (n n2 : Nat) (dd dd2 : Option Addr) (sl sl2 : Array (Option Value)) (e r : Nat -> Bool) :
 Meets (Builtin.«list.__lt__» ⟨[.ref l, .ref b], []⟩)
  (fun A R s => s.heap.get? l = some { cls := .type "list", dict := dd, data := .seq its n, slots := sl } ∧ s.heap.get? b = some { cls := .type "list", dict := dd2, data := .seq its2 n2, slots := sl2 } ∧
   (∀ j (h1 : j < its.size) (h2 : j < its2.size), EqAt A.in1 s its[j] its2[j] (e j)) ∧ (∀ j (h1 : j < its.size) (h2 : j < its2.size), e j = false -> RoAt .Lt A.in1 s its[j] its2[j] (r j)) ∧
   R (.ok (.ret (.bool (walkB e r (decide (its.size < its2.size)) (List.range (min its.size its2.size)))))) s) := by
 intro prog w A R s hyp
 obtain ⟨hp, g, d, tk, os⟩ := s
 obtain ⟨hl, hb, he, ho, fin⟩ := hyp
 have f3 := AutoSeq1.sub_list_list
 wp_walk using wpAny_loadPart' hl, wpAny_loadPart' hb
 all_goals exact ⟨plainId_quiet plain_eq_loop _, codeAny_builtin entry_eq_loop (by
  rw [Around.under_plainId plain_eq_loop _]
  exact loopLt l b its its2 n n2 dd dd2 sl sl2 e r _ 0 rfl prog w A R _ ⟨hl, hb, he, ho, by simpa using fin⟩)⟩
theorem roListLt {A : Around} {s : Shared} {l b : Addr} {its its2 : Array Value} {e r : Nat -> Bool} (hl : s.heap.IsList l its) (hb : s.heap.IsList b its2) (hu : A.units < cLine)
 (he : ∀ j (h1 : j < its.size) (h2 : j < its2.size), EqAt A.in1 s its[j] its2[j] (e j)) (ho : ∀ j (h1 : j < its.size) (h2 : j < its2.size), e j = false -> RoAt .Lt A.in1 s its[j] its2[j] (r j)) :
 RoAt .Lt A s (.ref l) (.ref b) (walkB e r (decide (its.size < its2.size)) (List.range (min its.size its2.size))) := fun prog w E Q h => by
 obtain ⟨⟨cls, dd, data, sl⟩, g1, hc, n, hd⟩ := id hl
 obtain ⟨⟨cls2, dd2, data2, sl2⟩, g2, hc2, n2, hd2⟩ := id hb
 simp only at hc hd hc2 hd2
 subst hc hd hc2 hd2
 exact richCompare_meets_room (op := .Lt) ⟨_, g1, rfl⟩ ⟨_, g2, rfl⟩ F.slot_list_lt F.entry_list_lt (F.args_list_lt_2 _ _) (listLt l b its its2 n n2 dd dd2 sl sl2 e r)
  ⟨g1, g2, he, ho, (fun x => nomatch x), h⟩ hu
theorem tupleLt (l b : Addr) (its its2 : Array Value) (n n2 : Nat) (dd dd2 : Option Addr) (sl sl2 : Array (Option Value)) (e r : Nat -> Bool) :
 Meets (Builtin.«tuple.__lt__» ⟨[.ref l, .ref b], []⟩)
  (fun A R s => s.heap.get? l = some { cls := .type "tuple", dict := dd, data := .seq its n, slots := sl } ∧ s.heap.get? b = some { cls := .type "tuple", dict := dd2, data := .seq its2 n2, slots := sl2 } ∧
   (∀ j (h1 : j < its.size) (h2 : j < its2.size), EqAt A.in1 s its[j] its2[j] (e j)) ∧ (∀ j (h1 : j < its.size) (h2 : j < its2.size), e j = false -> RoAt .Lt A.in1 s its[j] its2[j] (r j)) ∧
   R (.ok (.ret (.bool (walkB e r (decide (its.size < its2.size)) (List.range (min its.size its2.size)))))) s) :=
 .of_wp fun prog w A R s hyp => by
  obtain ⟨hp, g, d, tk, os⟩ := s
  obtain ⟨hl, hb, he, ho, fin⟩ := hyp
  have f2 := AutoSeq1.sub_tuple_tuple
  have hZ : (its.toList.zip its2.toList).length = min its.size its2.size := by simp
  wp_walk using wpAny_loadPart' hl, wpAny_loadPart' hb, wpAny_forIn_list _ (fun rest c s' => c.1 = none ∧ s' = ⟨hp, g, d, tk, os⟩ ∧ ∃ i, rest = (its.toList.zip its2.toList).drop i ∧
   R (.ok (.ret (.bool (walkB e r (decide (its.size < its2.size)) ((List.range (min its.size its2.size)).drop i))))) ⟨hp, g, d, tk, os⟩) _
  case turn =>
   rintro ⟨y, x⟩ rest c s' ⟨hc', rfl, i, hz, hR⟩
   have hlt : i < (its.toList.zip its2.toList).length := by
    rcases Nat.lt_or_ge i (its.toList.zip its2.toList).length with q | q
    · exact q
    · rw [List.drop_of_length_le q] at hz; cases hz
   have hm : i < min its.size its2.size := by omega
   have h1 : i < its.size := by omega
   have h2 : i < its2.size := by omega
   rw [List.drop_eq_getElem_cons hlt] at hz
   injection hz with hyx hrest
   have hy : y = its[i] := by have t := congrArg Prod.fst hyx; simpa using t
   have hx : x = its2[i] := by have t := congrArg Prod.snd hyx; simpa using t
   subst hy hx
   have hd : (List.range (min its.size its2.size)).drop i = i :: (List.range (min its.size its2.size)).drop (i + 1) := by simp [List.drop_eq_getElem_cons, hm]
   rw [hd] at hR
   refine wpAny_bind (he i h1 h2 prog w _ _ ?_)
   cases hq : e i with
   | true =>
    have fin' : R (.ok (.ret (.bool (walkB e r (decide (its.size < its2.size)) ((List.range (min its.size its2.size)).drop (i + 1)))))) ⟨hp, g, d, tk, os⟩ := by simpa [walkB, hq] using hR
    wp_walk
    exact ⟨rfl, rfl, i + 1, hrest, fin'⟩
   | false =>
    have fin' : R (.ok (.ret (.bool (r i)))) ⟨hp, g, d, tk, os⟩ := by simpa [walkB, hq] using hR
    rw [if_pos (show (!false) = true from rfl)]
    refine wpAny_bind (wpAny_rule (wpAny_bind (ho i h1 h2 hq prog w _ _ ?_)))
    wp_walk
    exact ⟨_, rfl, fin'⟩
  case fin =>
   rintro ⟨c1, c2⟩ s' ⟨hc', rfl, i, hz, hR⟩
   simp only at hc'
   subst hc'
   have hge : min its.size its2.size <= i := by
    rcases Nat.lt_or_ge i (its.toList.zip its2.toList).length with q | q
    · rw [List.drop_eq_getElem_cons q] at hz; cases hz
    · omega
   rw [List.drop_of_length_le (by simpa using hge)] at hR
   wp_walk
   exact ⟨_, rfl, by simpa [Builtin.Tuple.tupleCompareSizes, walkB] using hR⟩
  case h =>
   exact ⟨rfl, rfl, 0, rfl, by simpa using fin⟩
theorem roTupLt {A : Around} {s : Shared} {l b : Addr} {its its2 : Array Value} {e r : Nat -> Bool} (hl : s.heap.IsTuple l its) (hb : s.heap.IsTuple b its2) (hu : A.units < cLine)
 (he : ∀ j (h1 : j < its.size) (h2 : j < its2.size), EqAt A.in1 s its[j] its2[j] (e j)) (ho : ∀ j (h1 : j < its.size) (h2 : j < its2.size), e j = false -> RoAt .Lt A.in1 s its[j] its2[j] (r j)) :
 RoAt .Lt A s (.ref l) (.ref b) (walkB e r (decide (its.size < its2.size)) (List.range (min its.size its2.size))) := fun prog w E Q h => by
 obtain ⟨⟨cls, dd, data, sl⟩, g1, hc, n, hd⟩ := id hl
 obtain ⟨⟨cls2, dd2, data2, sl2⟩, g2, hc2, n2, hd2⟩ := id hb
 simp only at hc hd hc2 hd2
 subst hc hd hc2 hd2
 exact richCompare_meets_room (op := .Lt) ⟨_, g1, rfl⟩ ⟨_, g2, rfl⟩ F.slot_tuple_lt F.entry_tuple_lt (F.args_tuple_lt_2 _ _) (tupleLt l b its its2 n n2 dd dd2 sl sl2 e r)
  ⟨g1, g2, he, ho, (fun x => nomatch x), h⟩ hu
theorem loopLtE (l b : Addr) (its its2 : Array Value) (n n2 : Nat) (dd dd2 : Option Addr) (sl sl2 : Array (Option Value)) (e r : Nat -> Bool) (k : Nat) :
 ∀ i : Nat, min its.size its2.size - i = k -> Meets (Builtin.«list.__eq__.loop» ⟨[.ref l, .ref b, rawInt i, rawInt 1], []⟩)
  (fun A R s => s.heap.get? l = some { cls := .type "list", dict := dd, data := .seq its n, slots := sl } ∧ s.heap.get? b = some { cls := .type "list", dict := dd2, data := .seq its2 n2, slots := sl2 } ∧
   (∀ j (h1 : j < its.size) (h2 : j < its2.size), EqAt A.in1 s its[j] its2[j] (e j)) ∧ (∀ j (h1 : j < its.size) (h2 : j < its2.size), e j = false -> RoAt .LtE A.in1 s its[j] its2[j] (r j)) ∧
   R (.ok (.ret (.bool (walkB e r (decide (its.size <= its2.size)) ((List.range (min its.size its2.size)).drop i))))) s) := by
 induction k with
 | zero =>
  intro i hk prog w A R s hyp
  obtain ⟨hp, g, d, tk, os⟩ := s
  obtain ⟨hl, hb, he, ho, fin⟩ := hyp
  wp_walk using wpAny_loadPart' hl, wpAny_loadPart' hb
  have hd : (List.range (min its.size its2.size)).drop i = [] := by simp; omega
  rw [hd] at fin
  by_cases h1 : i < its.size
  · have e1 : its[((i : Nat) : Int).toNat]? = some its[i] := by simp [h1]
    have e2 : its2[((i : Nat) : Int).toNat]? = none := by simp; omega
    rw [e1, e2]
    wp_walk using wpAny_loadPart' hl, wpAny_loadPart' hb
    exact fin
  · have e1 : its[((i : Nat) : Int).toNat]? = none := by simp; omega
    rw [e1]
    cases e2 : its2[((i : Nat) : Int).toNat]?
    · wp_walk using wpAny_loadPart' hl, wpAny_loadPart' hb
      exact fin
    · wp_walk using wpAny_loadPart' hl, wpAny_loadPart' hb
      exact fin
 | succ k ih =>
  intro i hk prog w A R s hyp
  obtain ⟨hp, g, d, tk, os⟩ := s
  obtain ⟨hl, hb, he, ho, fin⟩ := hyp
  wp_walk using wpAny_loadPart' hl, wpAny_loadPart' hb
  have h1 : i < its.size := by omega
  have h2 : i < its2.size := by omega
  have e1 : its[((i : Nat) : Int).toNat]? = some its[i] := by simp [h1]
  have e2 : its2[((i : Nat) : Int).toNat]? = some its2[i] := by simp [h2]
  have hm : i < min its.size its2.size := by omega
  have hd : (List.range (min its.size its2.size)).drop i = i :: (List.range (min its.size its2.size)).drop (i + 1) := by simp [List.drop_eq_getElem_cons, hm]
  have hc : ((i : Int) + 1) = ((i + 1 : Nat) : Int) := by push_cast; rfl
  rw [hd] at fin
  rw [e1, e2]
  refine wpAny_bind (he i h1 h2 prog w _ _ ?_)
  cases hq : e i with
  | true =>
   have fin' : R (.ok (.ret (.bool (walkB e r (decide (its.size <= its2.size)) ((List.range (min its.size its2.size)).drop (i + 1)))))) ⟨hp, g, d, tk, os⟩ := by simpa [walkB, hq] using fin
   wp_walk
   rw [hc]
   exact ⟨plainId_quiet plain_eq_loop _, codeAny_builtin entry_eq_loop (by
    rw [Around.under_plainId plain_eq_loop _]
    exact ih (i + 1) (by omega) prog w A R _ ⟨hl, hb, he, ho, fin'⟩)⟩
  | false =>
   have fin' : R (.ok (.ret (.bool (r i)))) ⟨hp, g, d, tk, os⟩ := by simpa [walkB, hq] using fin
   wp_walk using wpAny_loadPart' hl, wpAny_loadPart' hb
   rw [e1, e2]
   refine wpAny_bind (ho i h1 h2 hq prog w _ _ ?_)
   wp_walk
   exact fin'
theorem listLtE (l b : Addr) (its its2 : Array Value) (n n2 : Nat) (dd dd2 : Option Addr) (sl sl2 : Array (Option Value)) (e r : Nat -> Bool) :
 Meets (Builtin.«list.__le__» ⟨[.ref l, .ref b], []⟩)
  (fun A R s => s.heap.get? l = some { cls := .type "list", dict := dd, data := .seq its n, slots := sl } ∧ s.heap.get? b = some { cls := .type "list", dict := dd2, data := .seq its2 n2, slots := sl2 } ∧
   (∀ j (h1 : j < its.size) (h2 : j < its2.size), EqAt A.in1 s its[j] its2[j] (e j)) ∧ (∀ j (h1 : j < its.size) (h2 : j < its2.size), e j = false -> RoAt .LtE A.in1 s its[j] its2[j] (r j)) ∧
   R (.ok (.ret (.bool (walkB e r (decide (its.size <= its2.size)) (List.range (min its.size its2.size)))))) s) := by
 intro prog w A R s hyp
 obtain ⟨hp, g, d, tk, os⟩ := s
 obtain ⟨hl, hb, he, ho, fin⟩ := hyp
 have f3 := AutoSeq1.sub_list_list
 wp_walk using wpAny_loadPart' hl, wpAny_loadPart' hb
 all_goals exact ⟨plainId_quiet plain_eq_loop _, codeAny_builtin entry_eq_loop (by
  rw [Around.under_plainId plain_eq_loop _]
  exact loopLtE l b its its2 n n2 dd dd2 sl sl2 e r _ 0 rfl prog w A R _ ⟨hl, hb, he, ho, by simpa using fin⟩)⟩
theorem roListLtE {A : Around} {s : Shared} {l b : Addr} {its its2 : Array Value} {e r : Nat -> Bool} (hl : s.heap.IsList l its) (hb : s.heap.IsList b its2) (hu : A.units < cLine)
 (he : ∀ j (h1 : j < its.size) (h2 : j < its2.size), EqAt A.in1 s its[j] its2[j] (e j)) (ho : ∀ j (h1 : j < its.size) (h2 : j < its2.size), e j = false -> RoAt .LtE A.in1 s its[j] its2[j] (r j)) :
 RoAt .LtE A s (.ref l) (.ref b) (walkB e r (decide (its.size <= its2.size)) (List.range (min its.size its2.size))) := fun prog w E Q h => by
 obtain ⟨⟨cls, dd, data, sl⟩, g1, hc, n, hd⟩ := id hl
 obtain ⟨⟨cls2, dd2, data2, sl2⟩, g2, hc2, n2, hd2⟩ := id hb
 simp only at hc hd hc2 hd2
 subst hc hd hc2 hd2
 exact richCompare_meets_room (op := .LtE) ⟨_, g1, rfl⟩ ⟨_, g2, rfl⟩ F.slot_list_le F.entry_list_le (F.args_list_le_2 _ _) (listLtE l b its its2 n n2 dd dd2 sl sl2 e r)
  ⟨g1, g2, he, ho, (fun x => nomatch x), h⟩ hu
theorem tupleLtE (l b : Addr) (its its2 : Array Value) (n n2 : Nat) (dd dd2 : Option Addr) (sl sl2 : Array (Option Value)) (e r : Nat -> Bool) :
 Meets (Builtin.«tuple.__le__» ⟨[.ref l, .ref b], []⟩)
  (fun A R s => s.heap.get? l = some { cls := .type "tuple", dict := dd, data := .seq its n, slots := sl } ∧ s.heap.get? b = some { cls := .type "tuple", dict := dd2, data := .seq its2 n2, slots := sl2 } ∧
   (∀ j (h1 : j < its.size) (h2 : j < its2.size), EqAt A.in1 s its[j] its2[j] (e j)) ∧ (∀ j (h1 : j < its.size) (h2 : j < its2.size), e j = false -> RoAt .LtE A.in1 s its[j] its2[j] (r j)) ∧
   R (.ok (.ret (.bool (walkB e r (decide (its.size <= its2.size)) (List.range (min its.size its2.size)))))) s) :=
 .of_wp fun prog w A R s hyp => by
  obtain ⟨hp, g, d, tk, os⟩ := s
  obtain ⟨hl, hb, he, ho, fin⟩ := hyp
  have f2 := AutoSeq1.sub_tuple_tuple
  have hZ : (its.toList.zip its2.toList).length = min its.size its2.size := by simp
  wp_walk using wpAny_loadPart' hl, wpAny_loadPart' hb, wpAny_forIn_list _ (fun rest c s' => c.1 = none ∧ s' = ⟨hp, g, d, tk, os⟩ ∧ ∃ i, rest = (its.toList.zip its2.toList).drop i ∧
   R (.ok (.ret (.bool (walkB e r (decide (its.size <= its2.size)) ((List.range (min its.size its2.size)).drop i))))) ⟨hp, g, d, tk, os⟩) _
  case turn =>
   rintro ⟨y, x⟩ rest c s' ⟨hc', rfl, i, hz, hR⟩
   have hlt : i < (its.toList.zip its2.toList).length := by
    rcases Nat.lt_or_ge i (its.toList.zip its2.toList).length with q | q
    · exact q
    · rw [List.drop_of_length_le q] at hz; cases hz
   have hm : i < min its.size its2.size := by omega
   have h1 : i < its.size := by omega
   have h2 : i < its2.size := by omega
   rw [List.drop_eq_getElem_cons hlt] at hz
   injection hz with hyx hrest
   have hy : y = its[i] := by have t := congrArg Prod.fst hyx; simpa using t
   have hx : x = its2[i] := by have t := congrArg Prod.snd hyx; simpa using t
   subst hy hx
   have hd : (List.range (min its.size its2.size)).drop i = i :: (List.range (min its.size its2.size)).drop (i + 1) := by simp [List.drop_eq_getElem_cons, hm]
   rw [hd] at hR
   refine wpAny_bind (he i h1 h2 prog w _ _ ?_)
   cases hq : e i with
   | true =>
    have fin' : R (.ok (.ret (.bool (walkB e r (decide (its.size <= its2.size)) ((List.range (min its.size its2.size)).drop (i + 1)))))) ⟨hp, g, d, tk, os⟩ := by simpa [walkB, hq] using hR
    wp_walk
    exact ⟨rfl, rfl, i + 1, hrest, fin'⟩
   | false =>
    have fin' : R (.ok (.ret (.bool (r i)))) ⟨hp, g, d, tk, os⟩ := by simpa [walkB, hq] using hR
    rw [if_pos (show (!false) = true from rfl)]
    refine wpAny_bind (wpAny_rule (wpAny_bind (ho i h1 h2 hq prog w _ _ ?_)))
    wp_walk
    exact ⟨_, rfl, fin'⟩
  case fin =>
   rintro ⟨c1, c2⟩ s' ⟨hc', rfl, i, hz, hR⟩
   simp only at hc'
   subst hc'
   have hge : min its.size its2.size <= i := by
    rcases Nat.lt_or_ge i (its.toList.zip its2.toList).length with q | q
    · rw [List.drop_eq_getElem_cons q] at hz; cases hz
    · omega
   rw [List.drop_of_length_le (by simpa using hge)] at hR
   wp_walk
   exact ⟨_, rfl, by simpa [Builtin.Tuple.tupleCompareSizes, walkB] using hR⟩
  case h =>
   exact ⟨rfl, rfl, 0, rfl, by simpa using fin⟩
theorem roTupLtE {A : Around} {s : Shared} {l b : Addr} {its its2 : Array Value} {e r : Nat -> Bool} (hl : s.heap.IsTuple l its) (hb : s.heap.IsTuple b its2) (hu : A.units < cLine)
 (he : ∀ j (h1 : j < its.size) (h2 : j < its2.size), EqAt A.in1 s its[j] its2[j] (e j)) (ho : ∀ j (h1 : j < its.size) (h2 : j < its2.size), e j = false -> RoAt .LtE A.in1 s its[j] its2[j] (r j)) :
 RoAt .LtE A s (.ref l) (.ref b) (walkB e r (decide (its.size <= its2.size)) (List.range (min its.size its2.size))) := fun prog w E Q h => by
 obtain ⟨⟨cls, dd, data, sl⟩, g1, hc, n, hd⟩ := id hl
 obtain ⟨⟨cls2, dd2, data2, sl2⟩, g2, hc2, n2, hd2⟩ := id hb
 simp only at hc hd hc2 hd2
 subst hc hd hc2 hd2
 exact richCompare_meets_room (op := .LtE) ⟨_, g1, rfl⟩ ⟨_, g2, rfl⟩ F.slot_tuple_le F.entry_tuple_le (F.args_tuple_le_2 _ _) (tupleLtE l b its its2 n n2 dd dd2 sl sl2 e r)
  ⟨g1, g2, he, ho, (fun x => nomatch x), h⟩ hu
theorem loopGtE (l b : Addr) (its its2 : Array Value) (n n2 : Nat) (dd dd2 : Option Addr) (sl sl2 : Array (Option Value)) (e r : Nat -> Bool) (k : Nat) :
 ∀ i : Nat, min its.size its2.size - i = k -> Meets (Builtin.«list.__eq__.loop» ⟨[.ref l, .ref b, rawInt i, rawInt 5], []⟩)
  (fun A R s => s.heap.get? l = some { cls := .type "list", dict := dd, data := .seq its n, slots := sl } ∧ s.heap.get? b = some { cls := .type "list", dict := dd2, data := .seq its2 n2, slots := sl2 } ∧
   (∀ j (h1 : j < its.size) (h2 : j < its2.size), EqAt A.in1 s its[j] its2[j] (e j)) ∧ (∀ j (h1 : j < its.size) (h2 : j < its2.size), e j = false -> RoAt .GtE A.in1 s its[j] its2[j] (r j)) ∧
   R (.ok (.ret (.bool (walkB e r (decide (its.size ≥ its2.size)) ((List.range (min its.size its2.size)).drop i))))) s) := by
 induction k with
 | zero =>
  intro i hk prog w A R s hyp
  obtain ⟨hp, g, d, tk, os⟩ := s
  obtain ⟨hl, hb, he, ho, fin⟩ := hyp
  wp_walk using wpAny_loadPart' hl, wpAny_loadPart' hb
  have hd : (List.range (min its.size its2.size)).drop i = [] := by simp; omega
  rw [hd] at fin
  by_cases h1 : i < its.size
  · have e1 : its[((i : Nat) : Int).toNat]? = some its[i] := by simp [h1]
    have e2 : its2[((i : Nat) : Int).toNat]? = none := by simp; omega
    rw [e1, e2]
    wp_walk using wpAny_loadPart' hl, wpAny_loadPart' hb
    exact fin
  · have e1 : its[((i : Nat) : Int).toNat]? = none := by simp; omega
    rw [e1]
    cases e2 : its2[((i : Nat) : Int).toNat]?
    · wp_walk using wpAny_loadPart' hl, wpAny_loadPart' hb
      exact fin
    · wp_walk using wpAny_loadPart' hl, wpAny_loadPart' hb
      exact fin
 | succ k ih =>
  intro i hk prog w A R s hyp
  obtain ⟨hp, g, d, tk, os⟩ := s
  obtain ⟨hl, hb, he, ho, fin⟩ := hyp
  wp_walk using wpAny_loadPart' hl, wpAny_loadPart' hb
  have h1 : i < its.size := by omega
  have h2 : i < its2.size := by omega
  have e1 : its[((i : Nat) : Int).toNat]? = some its[i] := by simp [h1]
  have e2 : its2[((i : Nat) : Int).toNat]? = some its2[i] := by simp [h2]
  have hm : i < min its.size its2.size := by omega
  have hd : (List.range (min its.size its2.size)).drop i = i :: (List.range (min its.size its2.size)).drop (i + 1) := by simp [List.drop_eq_getElem_cons, hm]
  have hc : ((i : Int) + 1) = ((i + 1 : Nat) : Int) := by push_cast; rfl
  rw [hd] at fin
  rw [e1, e2]
  refine wpAny_bind (he i h1 h2 prog w _ _ ?_)
  cases hq : e i with
  | true =>
   have fin' : R (.ok (.ret (.bool (walkB e r (decide (its.size ≥ its2.size)) ((List.range (min its.size its2.size)).drop (i + 1)))))) ⟨hp, g, d, tk, os⟩ := by simpa [walkB, hq] using fin
   wp_walk
   rw [hc]
   exact ⟨plainId_quiet plain_eq_loop _, codeAny_builtin entry_eq_loop (by
    rw [Around.under_plainId plain_eq_loop _]
    exact ih (i + 1) (by omega) prog w A R _ ⟨hl, hb, he, ho, fin'⟩)⟩
  | false =>
   have fin' : R (.ok (.ret (.bool (r i)))) ⟨hp, g, d, tk, os⟩ := by simpa [walkB, hq] using fin
   wp_walk using wpAny_loadPart' hl, wpAny_loadPart' hb
   rw [e1, e2]
   refine wpAny_bind (ho i h1 h2 hq prog w _ _ ?_)
   wp_walk
   exact fin'
theorem listGtE (l b : Addr) (its its2 : Array Value) (n n2 : Nat) (dd dd2 : Option Addr) (sl sl2 : Array (Option Value)) (e r : Nat -> Bool) :
 Meets (Builtin.«list.__ge__» ⟨[.ref l, .ref b], []⟩)
  (fun A R s => s.heap.get? l = some { cls := .type "list", dict := dd, data := .seq its n, slots := sl } ∧ s.heap.get? b = some { cls := .type "list", dict := dd2, data := .seq its2 n2, slots := sl2 } ∧
   (∀ j (h1 : j < its.size) (h2 : j < its2.size), EqAt A.in1 s its[j] its2[j] (e j)) ∧ (∀ j (h1 : j < its.size) (h2 : j < its2.size), e j = false -> RoAt .GtE A.in1 s its[j] its2[j] (r j)) ∧
   R (.ok (.ret (.bool (walkB e r (decide (its.size ≥ its2.size)) (List.range (min its.size its2.size)))))) s) := by
 intro prog w A R s hyp
 obtain ⟨hp, g, d, tk, os⟩ := s
 obtain ⟨hl, hb, he, ho, fin⟩ := hyp
 have f3 := AutoSeq1.sub_list_list
 wp_walk using wpAny_loadPart' hl, wpAny_loadPart' hb
 all_goals exact ⟨plainId_quiet plain_eq_loop _, codeAny_builtin entry_eq_loop (by
  rw [Around.under_plainId plain_eq_loop _]
  exact loopGtE l b its its2 n n2 dd dd2 sl sl2 e r _ 0 rfl prog w A R _ ⟨hl, hb, he, ho, by simpa using fin⟩)⟩
theorem roListGtE {A : Around} {s : Shared} {l b : Addr} {its its2 : Array Value} {e r : Nat -> Bool} (hl : s.heap.IsList l its) (hb : s.heap.IsList b its2) (hu : A.units < cLine)
 (he : ∀ j (h1 : j < its.size) (h2 : j < its2.size), EqAt A.in1 s its[j] its2[j] (e j)) (ho : ∀ j (h1 : j < its.size) (h2 : j < its2.size), e j = false -> RoAt .GtE A.in1 s its[j] its2[j] (r j)) :
 RoAt .GtE A s (.ref l) (.ref b) (walkB e r (decide (its.size ≥ its2.size)) (List.range (min its.size its2.size))) := fun prog w E Q h => by
 obtain ⟨⟨cls, dd, data, sl⟩, g1, hc, n, hd⟩ := id hl
 obtain ⟨⟨cls2, dd2, data2, sl2⟩, g2, hc2, n2, hd2⟩ := id hb
 simp only at hc hd hc2 hd2
 subst hc hd hc2 hd2
 exact richCompare_meets_room (op := .GtE) ⟨_, g1, rfl⟩ ⟨_, g2, rfl⟩ F.slot_list_ge F.entry_list_ge (F.args_list_ge_2 _ _) (listGtE l b its its2 n n2 dd dd2 sl sl2 e r)
  ⟨g1, g2, he, ho, (fun x => nomatch x), h⟩ hu
theorem tupleGtE (l b : Addr) (its its2 : Array Value) (n n2 : Nat) (dd dd2 : Option Addr) (sl sl2 : Array (Option Value)) (e r : Nat -> Bool) :
 Meets (Builtin.«tuple.__ge__» ⟨[.ref l, .ref b], []⟩)
  (fun A R s => s.heap.get? l = some { cls := .type "tuple", dict := dd, data := .seq its n, slots := sl } ∧ s.heap.get? b = some { cls := .type "tuple", dict := dd2, data := .seq its2 n2, slots := sl2 } ∧
   (∀ j (h1 : j < its.size) (h2 : j < its2.size), EqAt A.in1 s its[j] its2[j] (e j)) ∧ (∀ j (h1 : j < its.size) (h2 : j < its2.size), e j = false -> RoAt .GtE A.in1 s its[j] its2[j] (r j)) ∧
   R (.ok (.ret (.bool (walkB e r (decide (its.size ≥ its2.size)) (List.range (min its.size its2.size)))))) s) :=
 .of_wp fun prog w A R s hyp => by
  obtain ⟨hp, g, d, tk, os⟩ := s
  obtain ⟨hl, hb, he, ho, fin⟩ := hyp
  have f2 := AutoSeq1.sub_tuple_tuple
  have hZ : (its.toList.zip its2.toList).length = min its.size its2.size := by simp
  wp_walk using wpAny_loadPart' hl, wpAny_loadPart' hb, wpAny_forIn_list _ (fun rest c s' => c.1 = none ∧ s' = ⟨hp, g, d, tk, os⟩ ∧ ∃ i, rest = (its.toList.zip its2.toList).drop i ∧
   R (.ok (.ret (.bool (walkB e r (decide (its.size ≥ its2.size)) ((List.range (min its.size its2.size)).drop i))))) ⟨hp, g, d, tk, os⟩) _
  case turn =>
   rintro ⟨y, x⟩ rest c s' ⟨hc', rfl, i, hz, hR⟩
   have hlt : i < (its.toList.zip its2.toList).length := by
    rcases Nat.lt_or_ge i (its.toList.zip its2.toList).length with q | q
    · exact q
    · rw [List.drop_of_length_le q] at hz; cases hz
   have hm : i < min its.size its2.size := by omega
   have h1 : i < its.size := by omega
   have h2 : i < its2.size := by omega
   rw [List.drop_eq_getElem_cons hlt] at hz
   injection hz with hyx hrest
   have hy : y = its[i] := by have t := congrArg Prod.fst hyx; simpa using t
   have hx : x = its2[i] := by have t := congrArg Prod.snd hyx; simpa using t
   subst hy hx
   have hd : (List.range (min its.size its2.size)).drop i = i :: (List.range (min its.size its2.size)).drop (i + 1) := by simp [List.drop_eq_getElem_cons, hm]
   rw [hd] at hR
   refine wpAny_bind (he i h1 h2 prog w _ _ ?_)
   cases hq : e i with
   | true =>
    have fin' : R (.ok (.ret (.bool (walkB e r (decide (its.size ≥ its2.size)) ((List.range (min its.size its2.size)).drop (i + 1)))))) ⟨hp, g, d, tk, os⟩ := by simpa [walkB, hq] using hR
    wp_walk
    exact ⟨rfl, rfl, i + 1, hrest, fin'⟩
   | false =>
    have fin' : R (.ok (.ret (.bool (r i)))) ⟨hp, g, d, tk, os⟩ := by simpa [walkB, hq] using hR
    rw [if_pos (show (!false) = true from rfl)]
    refine wpAny_bind (wpAny_rule (wpAny_bind (ho i h1 h2 hq prog w _ _ ?_)))
    wp_walk
    exact ⟨_, rfl, fin'⟩
  case fin =>
   rintro ⟨c1, c2⟩ s' ⟨hc', rfl, i, hz, hR⟩
   simp only at hc'
   subst hc'
   have hge : min its.size its2.size <= i := by
    rcases Nat.lt_or_ge i (its.toList.zip its2.toList).length with q | q
    · rw [List.drop_eq_getElem_cons q] at hz; cases hz
    · omega
   rw [List.drop_of_length_le (by simpa using hge)] at hR
   wp_walk
   exact ⟨_, rfl, by simpa [Builtin.Tuple.tupleCompareSizes, walkB] using hR⟩
  case h =>
   exact ⟨rfl, rfl, 0, rfl, by simpa using fin⟩
theorem roTupGtE {A : Around} {s : Shared} {l b : Addr} {its its2 : Array Value} {e r : Nat -> Bool} (hl : s.heap.IsTuple l its) (hb : s.heap.IsTuple b its2) (hu : A.units < cLine)
 (he : ∀ j (h1 : j < its.size) (h2 : j < its2.size), EqAt A.in1 s its[j] its2[j] (e j)) (ho : ∀ j (h1 : j < its.size) (h2 : j < its2.size), e j = false -> RoAt .GtE A.in1 s its[j] its2[j] (r j)) :
 RoAt .GtE A s (.ref l) (.ref b) (walkB e r (decide (its.size ≥ its2.size)) (List.range (min its.size its2.size))) := fun prog w E Q h => by
 obtain ⟨⟨cls, dd, data, sl⟩, g1, hc, n, hd⟩ := id hl
 obtain ⟨⟨cls2, dd2, data2, sl2⟩, g2, hc2, n2, hd2⟩ := id hb
 simp only at hc hd hc2 hd2
 subst hc hd hc2 hd2
 exact richCompare_meets_room (op := .GtE) ⟨_, g1, rfl⟩ ⟨_, g2, rfl⟩ F.slot_tuple_ge F.entry_tuple_ge (F.args_tuple_ge_2 _ _) (tupleGtE l b its its2 n n2 dd dd2 sl sl2 e r)
  ⟨g1, g2, he, ho, (fun x => nomatch x), h⟩ hu
end Y
namespace Y
open PySem PySem.Spec PyProof.Rows L2 PySem.SeqAt
variable [Tabs]
inductive Od where
 | lt | le | ge
def Od.op : Od -> CmpOp
 | .lt => .Lt
 | .le => .LtE
 | .ge => .GtE
def Od.sz : Od -> Nat -> Nat -> Bool
 | .lt, m, n => decide (m < n)
 | .le, m, n => decide (m <= n)
 | .ge, m, n => decide (m ≥ n)
def Od.int : Od -> Int -> Int -> Bool
 | .lt, m, n => decide (m < n)
 | .le, m, n => decide (m <= n)
 | .ge, m, n => decide (n <= m)
def Od.str : Od -> Str -> Str -> Bool
 | .lt, a, b => decide (cl a < cl b)
 | .le, a, b => !decide (cl b < cl a)
 | .ge, a, b => !decide (cl a < cl b)
mutual
def dor (o : Od) : D -> D -> Bool
 | .int a, .int b => o.int a b
 | .str a, .str b => o.str a b
 | .lst a, .lst b => dors o a b
 | .tup a, .tup b => dors o a b
 | _, _ => false
def dors (o : Od) : List D -> List D -> Bool
 | [], bs => o.sz 0 bs.length
 | a :: as, [] => o.sz (as.length + 1) 0
 | a :: as, b :: bs => if deq a b then dors o as bs else dor o a b
end
mutual
def cmpb : D -> D -> Bool
 | .int _, .int _ => true
 | .str _, .str _ => true
 | .lst a, .lst b => cmpbs a b
 | .tup a, .tup b => cmpbs a b
 | _, _ => false
def cmpbs : List D -> List D -> Bool
 | [], _ => true
 | _ :: _, [] => true
 | a :: as, b :: bs => cmpb a b && cmpbs as bs
end
theorem Od.sz_succ (o : Od) (m n : Nat) : o.sz (m + 1) (n + 1) = o.sz m n := by cases o <;> simp [Od.sz]
theorem walk_map (e r : Nat -> Bool) (z : Bool) : ∀ l : List Nat, walkB e r z (l.map Nat.succ) = walkB (fun j => e (j + 1)) (fun j => r (j + 1)) z l
 | [] => rfl
 | j :: l => by
  rw [List.map_cons, walkB, walkB, walk_map e r z l]
theorem walk_dors (o : Od) : ∀ (ds es : List D), walkB (fun j => deq (ds.getD j .non) (es.getD j .non)) (fun j => dor o (ds.getD j .non) (es.getD j .non)) (o.sz ds.length es.length) (List.range (min ds.length es.length)) = dors o ds es
 | [], es => by simp [walkB, dors]
 | a :: as, [] => by simp [walkB, dors]
 | a :: as, b :: bs => by
  have ih := walk_dors o as bs
  have hm : min (a :: as).length (b :: bs).length = min as.length bs.length + 1 := by simp <;> omega
  rw [hm, List.range_succ_eq_map, walkB, walk_map, dors]
  simp only [List.getD_cons_zero, List.getD_cons_succ, List.length_cons, Od.sz_succ]
  rw [ih]
theorem cmpbs_at : ∀ (ds es : List D), cmpbs ds es = true -> ∀ j, j < ds.length -> j < es.length -> cmpb (ds.getD j .non) (es.getD j .non) = true
 | [], es, _, j, h, _ => by simp at h
 | a :: as, [], _, j, _, h => by simp at h
 | a :: as, b :: bs, hc, j, h1, h2 => by
  unfold cmpbs at hc
  rw [Bool.and_eq_true] at hc
  cases j with
  | zero => exact hc.1
  | succ j => exact cmpbs_at as bs hc.2 j (by simpa using h1) (by simpa using h2)
section
variable {X : Cx} {pins : List (Addr × Obj)} {σ : St} {H : Hp} {s : Shared} {Z Z' : Zone}
theorem ro_int (o : Od) {A : Around} (a b : Int) (t u : Tok) : RoAt o.op A s (.int a t) (.int b u) (o.int a b) := fun prog w E Q h => by
 cases o
 · exact PyProof.Rows.lt_int h
 · exact PyProof.Rows.le_int h
 · exact PyProof.Rows.ge_int h
theorem ro_str (o : Od) {A : Around} (a b : Str) (t u : Tok) : RoAt o.op A s (.str a t) (.str b u) (o.str a b) := fun prog w E Q h => by
 cases o
 · exact PyProof.Rows.lt_str h
 · exact PySem.P.le_str h
 · exact PySem.P.ge_str h
theorem roL (o : Od) {A : Around} {l b : Addr} {its its2 : Array Value} {e r : Nat -> Bool} (hl : s.heap.IsList l its) (hb : s.heap.IsList b its2) (hu : A.units < cLine)
 (he : ∀ j (h1 : j < its.size) (h2 : j < its2.size), EqAt A.in1 s its[j] its2[j] (e j)) (ho : ∀ j (h1 : j < its.size) (h2 : j < its2.size), e j = false -> RoAt o.op A.in1 s its[j] its2[j] (r j)) :
 RoAt o.op A s (.ref l) (.ref b) (walkB e r (o.sz its.size its2.size) (List.range (min its.size its2.size))) := by
 cases o
 · exact roListLt hl hb hu he ho
 · exact roListLtE hl hb hu he ho
 · exact roListGtE hl hb hu he ho
theorem roT (o : Od) {A : Around} {l b : Addr} {its its2 : Array Value} {e r : Nat -> Bool} (hl : s.heap.IsTuple l its) (hb : s.heap.IsTuple b its2) (hu : A.units < cLine)
 (he : ∀ j (h1 : j < its.size) (h2 : j < its2.size), EqAt A.in1 s its[j] its2[j] (e j)) (ho : ∀ j (h1 : j < its.size) (h2 : j < its2.size), e j = false -> RoAt o.op A.in1 s its[j] its2[j] (r j)) :
 RoAt o.op A s (.ref l) (.ref b) (walkB e r (o.sz its.size its2.size) (List.range (min its.size its2.size))) := by
 cases o
 · exact roTupLt hl hb hu he ho
 · exact roTupLtE hl hb hu he ho
 · exact roTupGtE hl hb hu he ho
theorem roAt_D (o : Od) (I : Inv X pins σ H s) : ∀ (n : Nat) {A : Around} {d d' : D} {v v' : V} {u u' : Value}, In X.K H Z d v -> In X.K H Z' d' v' -> RelV v u -> RelV v' u' -> cmpb d d' = true -> d.dep <= n -> A.units + n < cLine -> RoAt o.op A s u u' (dor o d d') := by
 intro n
 induction n with
 | zero =>
  intro A d d' v v' u u' i i' r r' hc hd hu
  cases d with
  | non => cases d' <;> simp [cmpb] at hc
  | bl x => cases d' <;> simp [cmpb] at hc
  | dct x => cases d' <;> simp [cmpb] at hc
  | ktup x => cases d' <;> simp [cmpb] at hc
  | lst ds => unfold D.dep at hd; omega
  | tup ds => unfold D.dep at hd; omega
  | int x =>
   cases d' <;> simp [cmpb] at hc
   cases in_int.mp i
   cases in_int.mp i'
   obtain ⟨t, rfl⟩ := r
   obtain ⟨t', rfl⟩ := r'
   simp only [dor]
   exact ro_int o _ _ _ _
  | str x =>
   cases d' <;> simp [cmpb] at hc
   cases in_str.mp i
   cases in_str.mp i'
   obtain ⟨t, rfl⟩ := r
   obtain ⟨t', rfl⟩ := r'
   simp only [dor]
   exact ro_str o _ _ _ _
 | succ n ih =>
  intro A d d' v v' u u' i i' r r' hc hd hu
  have hu0 : A.units < cLine := by omega
  have hu1 : A.in1.units + n < cLine := by show A.units + 1 + n < cLine; omega
  have both : ∀ {ds es : List D} {xs ys : List V} {its its2 : List Value}, deps ds <= n -> cmpbs ds es = true -> Ins X.K H Z ds xs -> Ins X.K H Z' es ys -> Vals xs its -> Vals ys its2 -> ∀ j (h1 : j < its.toArray.size) (h2 : j < its2.toArray.size),
   EqAt A.in1 s its.toArray[j] its2.toArray[j] (deq (ds.getD j .non) (es.getD j .non)) ∧ RoAt o.op A.in1 s its.toArray[j] its2.toArray[j] (dor o (ds.getD j .non) (es.getD j .non)) := fun {ds es xs ys its its2} hdn hcs jx jy rx ry j h1 h2 => by
   have z1 := jx.length; have z2 := jy.length; have z3 := rx.length; have z4 := ry.length
   simp at h1 h2
   have k1 : j < ds.length := by omega
   have k2 : j < es.length := by omega
   obtain ⟨x, ex, ix⟩ := jx.get (i := j) (d := ds[j]) (by simp [k1])
   obtain ⟨y, ey, iy⟩ := jy.get (i := j) (d := es[j]) (by simp [k2])
   obtain ⟨w1, f1, q1⟩ := rx.get ex
   obtain ⟨w2, f2, q2⟩ := ry.get ey
   have g1 : its.toArray[j] = w1 := by
    have t := (List.getElem?_eq_some_iff.mp f1).2
    simpa using t
   have g2 : its2.toArray[j] = w2 := by
    have t := (List.getElem?_eq_some_iff.mp f2).2
    simpa using t
   have hcj := cmpbs_at ds es hcs j k1 k2
   have e1 : ds.getD j .non = ds[j] := by simp [k1]
   have e2 : es.getD j .non = es[j] := by simp [k2]
   rw [e1, e2] at hcj ⊢
   rw [g1, g2]
   have hdj := Nat.le_trans (deps_mem (List.getElem_mem k1)) hdn
   exact ⟨eqAt_D I n ix iy q1 q2 hdj hu1, ih ix iy q1 q2 hcj hdj hu1⟩
  cases d with
  | non => cases d' <;> simp [cmpb] at hc
  | bl x => cases d' <;> simp [cmpb] at hc
  | dct x => cases d' <;> simp [cmpb] at hc
  | ktup x => cases d' <;> simp [cmpb] at hc
  | int x => exact ih i i' r r' hc (by simp [D.dep]) (by omega)
  | str x => exact ih i i' r r' hc (by simp [D.dep]) (by omega)
  | lst ds =>
   have hdn : deps ds <= n := by unfold D.dep at hd; omega
   cases d' with
   | lst es =>
    have hcs : cmpbs ds es = true := by simpa [cmpb] using hc
    obtain ⟨a, xs, rfl, l, j⟩ := in_lst.mp i
    obtain ⟨a', ys, rfl, l', j'⟩ := in_lst.mp i'
    cases r
    cases r'
    obtain ⟨its, rx, pl, _⟩ := I.list l.sq
    obtain ⟨its2, ry, pl2, _⟩ := I.list l'.sq
    have z1 := j.length; have z2 := j'.length; have z3 := rx.length; have z4 := ry.length
    have key := roL o (e := fun k => deq (ds.getD k .non) (es.getD k .non)) (r := fun k => dor o (ds.getD k .non) (es.getD k .non)) pl.isList pl2.isList hu0 (fun k h1 h2 => (both hdn hcs j j' rx ry k h1 h2).1) (fun k h1 h2 _ => (both hdn hcs j j' rx ry k h1 h2).2)
    have e1 : its.toArray.size = ds.length := by simp; omega
    have e2 : its2.toArray.size = es.length := by simp; omega
    rw [e1, e2, walk_dors] at key
    simpa only [dor] using key
   | _ => simp [cmpb] at hc
  | tup ds =>
   have hdn : deps ds <= n := by unfold D.dep at hd; omega
   cases d' with
   | tup es =>
    have hcs : cmpbs ds es = true := by simpa [cmpb] using hc
    obtain ⟨a, xs, rfl, l, j⟩ := in_tupS i
    obtain ⟨a', ys, rfl, l', j'⟩ := in_tupS i'
    cases r
    cases r'
    obtain ⟨its, rx, pl, _⟩ := I.tuple l
    obtain ⟨its2, ry, pl2, _⟩ := I.tuple l'
    have z1 := j.length; have z2 := j'.length; have z3 := rx.length; have z4 := ry.length
    have key := roT o (e := fun k => deq (ds.getD k .non) (es.getD k .non)) (r := fun k => dor o (ds.getD k .non) (es.getD k .non)) pl pl2 hu0 (fun k h1 h2 => (both hdn hcs j j' rx ry k h1 h2).1) (fun k h1 h2 _ => (both hdn hcs j j' rx ry k h1 h2).2)
    have e1 : its.toArray.size = ds.length := by simp; omega
    have e2 : its2.toArray.size = es.length := by simp; omega
    rw [e1, e2, walk_dors] at key
    simpa only [dor] using key
   | _ => simp [cmpb] at hc
end
end Y
namespace Y
open PySem PySem.Spec PyProof.Rows L2
structure SB (kd : SortKind) (a0 : Array Keyed) (st : SortSt) : Prop where
 pm : (arrOf st).Perm a0
 kd : kindOf st = kd
 ok : failedOf st = none
 pd : pendingOf st = #[]
section
variable {kd : SortKind} {a0 : Array Keyed} {κ : PyProof.Rows.KeyKind} {st : SortSt}
theorem SB.sz (h : SB kd a0 st) : (arrOf st).size = a0.size := h.pm.size_eq
theorem SB.arr (h : SB kd a0 st) {xs : Array Keyed} (p : xs.Perm (arrOf st)) : SB kd a0 (setArr st xs) := ⟨p.trans h.pm, h.kd, h.ok, h.pd⟩
abbrev ky (κ : PyProof.Rows.KeyKind) (st : SortSt) (i : Nat) : κ.α := KK κ (arrOf st) i
abbrev Up (κ : PyProof.Rows.KeyKind) (st : SortSt) (n : Nat) : Prop := SortedToK κ (arrOf st) n
abbrev Down (κ : PyProof.Rows.KeyKind) (st : SortSt) (n : Nat) : Prop := NonIncK κ (arrOf st) n
theorem up_more {xs : Array Keyed} {n : Nat} (h : SortedToK κ xs n) (h1 : n = 0 ∨ κ.kle (KK κ xs (n - 1)) (KK κ xs n)) : SortedToK κ xs (n + 1) := fun i j le lt => by
 rcases Nat.lt_or_ge j n with a | a
 · exact h i j le a
 · obtain rfl : j = n := by omega
   rcases Nat.lt_or_ge i j with b | b
   · rcases h1 with z | z
     · omega
     · exact KeyOrd.kle_trans (h i (j - 1) (by omega) (by omega)) z
   · obtain rfl : i = j := by omega
     exact KeyOrd.kle_refl _
theorem down_more {xs : Array Keyed} {n : Nat} (h : NonIncK κ xs n) (h1 : n = 0 ∨ κ.kle (KK κ xs n) (KK κ xs (n - 1))) : NonIncK κ xs (n + 1) := fun i j le lt => by
 rcases Nat.lt_or_ge j n with a | a
 · exact h i j le a
 · obtain rfl : j = n := by omega
   rcases Nat.lt_or_ge i j with b | b
   · rcases h1 with z | z
     · omega
     · exact KeyOrd.kle_trans z (h i (j - 1) (by omega) (by omega))
   · obtain rfl : i = j := by omega
     exact KeyOrd.kle_refl _
theorem up_one {xs : Array Keyed} : SortedToK κ xs 1 := fun i j le lt => by
 obtain rfl : i = j := by omega
 exact KeyOrd.kle_refl _
theorem nonInc_congr {xs ys : Array Keyed} {n : Nat} (h : NonIncK κ xs n) (e : ∀ k, KK κ ys k = KK κ xs k) : NonIncK κ ys n := fun i j le lt => by
 rw [e, e]; exact h i j le lt
variable {prog : Program} {w : World} {A : Around} {E : Value -> Shared -> Prop} {s : Shared}
def Asks (κ : PyProof.Rows.KeyKind) (kd : SortKind) (a0 : Array Keyed) (prog : Program) (w : World) (A : Around) (E : Value -> Shared -> Prop) (s : Shared) : Prop :=
 ∀ (st : SortSt) (i j : Nat) (Q : Option Bool -> SortSt -> Prop), SB kd a0 st -> i < a0.size -> j < a0.size -> Q (some (κ.blt (ky κ st i) (ky κ st j))) st -> wpS (model prog w) A E s (ltAt' i j) Q st
theorem run_up (hA : Asks κ kd a0 prog w A E s) {a n : Nat} {Q : AscSt -> SortSt -> Prop} (hn : n <= a0.size) (ha : 1 <= a) (han : a <= n) (hB : SB kd a0 st) (hs : Up κ st a)
 (fin : ∀ m, a <= m -> m <= n -> Up κ st m -> (m = n ∨ κ.klt (ky κ st m) (ky κ st (m - 1))) -> Q (none, m) st) : wpS (model prog w) A E s (ascLoop a n) Q st := by
 unfold ascLoop
 refine wpS_forRange (I := fun m c t => (t = st ∧ c = (none, m)) ∧ Up κ st m) (fun m c t g1 g2 ⟨⟨e1, e2⟩, up⟩ => ?_) (fun c t ⟨⟨e1, e2⟩, up⟩ => ?_) ⟨⟨rfl, rfl⟩, hs⟩
 · subst e1 e2
   dsimp only
   refine wpS_bind (hA t m (m - 1) _ hB (by omega) (by omega) ?_)
   cases q : κ.blt (ky κ t m) (ky κ t (m - 1)) with
   | true => dsimp only; rw [if_pos rfl]; exact wpS_pure (fin m g1 (by omega) up (.inr q))
   | false => dsimp only; rw [if_neg Bool.false_ne_true]; exact wpS_pure ⟨⟨rfl, rfl⟩, up_more up (.inr q)⟩
 · subst e1 e2
   have e : max a n = n := by omega
   rw [e] at up ⊢
   exact fin n han (Nat.le_refl n) up (.inl rfl)
theorem run_back (hA : Asks κ kd a0 prog w A E s) {m n : Nat} {Q : Option Nat -> SortSt -> Prop} (hn : n <= a0.size) (h1 : 1 <= m) (hm : m <= n) (hB : SB kd a0 st) (hs : Down κ st m)
 (fin : ∀ k t, SB kd a0 t -> 1 <= k -> k <= n -> Up κ t k -> Q (some k) t) : wpS (model prog w) A E s (tail3 m n) Q st := by
 unfold tail3
 have hz : m <= (arrOf st).size := by rw [hB.sz]; omega
 have hB2 := hB.arr (mirror_perm (arrOf st) 0 m ((m - 0) / 2))
 have up : Up κ (setArr st (mirror (arrOf st) 0 m ((m - 0) / 2))) m := fun i j le lt => by
  have e : ∀ k, k < m -> KK κ (mirror (arrOf st) 0 m ((m - 0) / 2)) k = KK κ (arrOf st) (0 + m - 1 - k) := fun k hk => by rw [KK_mirror hz, if_pos ⟨Nat.zero_le k, hk⟩]
  show κ.kle (KK κ (mirror (arrOf st) 0 m ((m - 0) / 2)) i) (KK κ (mirror (arrOf st) 0 m ((m - 0) / 2)) j)
  rw [e i (by omega), e j lt]
  exact hs _ _ (by omega) (by omega)
 exact wpS_bind (wpS_reverse (wpS_bind (run_up hA hn h1 hm hB2 up fun k a b c _ => wpS_pure (fin k _ hB2 (by omega) b c))))
theorem run_down (hA : Asks κ kd a0 prog w A E s) {m n : Nat} {Q : DescSt -> SortSt -> Prop} (hn : n <= a0.size) (h1 : 1 <= m) (hm : m <= n) (hB : SB kd a0 st) (hs : Down κ st m)
 (fin : ∀ k q t, SB kd a0 t -> m <= k -> k <= n -> Down κ t k -> q + 1 <= k -> (∀ i, k - (q + 1) <= i -> i < k -> ky κ t i = ky κ t (k - 1)) -> Q (none, k, q) t) : wpS (model prog w) A E s (descLoop m n) Q st := by
 unfold descLoop
 refine wpS_forRange (I := fun k c t => ∃ q, c = (none, k, q) ∧ SB kd a0 t ∧ Down κ t k ∧ q + 1 <= k ∧ ∀ i, k - (q + 1) <= i -> i < k -> ky κ t i = ky κ t (k - 1)) (fun k c t g1 g2 ⟨q, e, hb, dn, hq, same⟩ => ?_) (fun c t ⟨q, e, hb, dn, hq, same⟩ => ?_) ⟨0, rfl, hB, hs, by omega, fun i a b => by rw [show i = m - 1 by omega]⟩
 · subst e
   dsimp only
   have hz : k <= (arrOf t).size := by rw [hb.sz]; omega
   refine wpS_bind (hA t k (k - 1) _ hb (by omega) (by omega) ?_)
   cases lo : κ.blt (ky κ t k) (ky κ t (k - 1)) with
   | true =>
    dsimp only
    rw [if_pos rfl]
    have dn2 : Down κ t (k + 1) := down_more dn (.inr (KeyOrd.kle_of_klt lo))
    by_cases q0 : q > 0
    · rw [if_pos q0]
      exact wpS_bind (wpS_reverse (wpS_pure ⟨0, rfl, hb.arr (mirror_perm _ _ _ _), nonInc_congr dn2 (KK_mirror_equal hz same), by omega, fun i a b => by rw [show i = k + 1 - 1 by omega]⟩))
    · rw [if_neg q0]
      exact wpS_pure ⟨0, rfl, hb, dn2, by omega, fun i a b => by rw [show i = k + 1 - 1 by omega]⟩
   | false =>
    dsimp only
    rw [if_neg Bool.false_ne_true]
    refine wpS_bind (hA t (k - 1) k _ hb (by omega) (by omega) ?_)
    cases hi : κ.blt (ky κ t (k - 1)) (ky κ t k) with
    | true => dsimp only; rw [if_pos rfl]; exact wpS_pure (fin k q t hb g1 (by omega) dn hq same)
    | false =>
     dsimp only
     rw [if_neg Bool.false_ne_true]
     have eq : ky κ t k = ky κ t (k - 1) := KeyOrd.kle_antisymm hi lo
     refine wpS_pure ⟨q + 1, rfl, hb, down_more dn (.inr (by show κ.kle (ky κ t k) (ky κ t (k - 1)); rw [eq]; exact KeyOrd.kle_refl _)), by omega, fun i a b => ?_⟩
     have ek : k + 1 - 1 = k := by omega
     rw [ek]
     rcases Nat.lt_or_ge i k with z | z
     · rw [same i (by omega) z, eq]
     · rw [show i = k by omega]
 · subst e
   have e : max m n = n := by omega
   rw [e] at dn hq same ⊢
   exact fin n q t hb hm (Nat.le_refl n) dn hq same
theorem run_desc (hA : Asks κ kd a0 prog w A E s) {m n : Nat} {Q : Option Nat -> SortSt -> Prop} (hn : n <= a0.size) (hm : m + 1 <= n) (hB : SB kd a0 st) (hs : Down κ st (m + 1))
 (fin : ∀ k t, SB kd a0 t -> 1 <= k -> k <= n -> Up κ t k -> Q (some k) t) : wpS (model prog w) A E s (descPart m n) Q st := by
 unfold descPart
 refine wpS_bind (wpS_lift (wpAny_rule ⟨rfl, wpS_bind (run_down hA hn (by omega) hm hB hs fun k q t hb a b dn hq same => ?_)⟩))
 dsimp only
 have hz : k <= (arrOf t).size := by rw [hb.sz]; omega
 by_cases q0 : q > 0
 · rw [if_pos q0]
   exact wpS_bind (wpS_reverse (run_back hA hn (by omega) b (hb.arr (mirror_perm _ _ _ _)) (nonInc_congr dn (KK_mirror_equal hz same)) fin))
 · rw [if_neg q0]
   exact run_back hA hn (by omega) b hb dn fin
theorem run_count (hA : Asks κ kd a0 prog w A E s) {n : Nat} {Q : Option Nat -> SortSt -> Prop} (hn : n <= a0.size) (h1 : 1 <= n) (hB : SB kd a0 st)
 (fin : ∀ k t, SB kd a0 t -> 1 <= k -> k <= n -> Up κ t k -> Q (some k) t) : wpS (model prog w) A E s (countRun' 0 n) Q st := by
 rw [countRun0_eq]
 refine wpS_bind (run_up hA hn (Nat.le_refl 1) h1 hB up_one fun m a b up why => ?_)
 dsimp only
 by_cases all : m = n
 · rw [if_pos (by simpa using all)]
   exact wpS_pure (fin m st hB a b up)
 · rw [if_neg (by simpa using all)]
   have lo : κ.klt (ky κ st m) (ky κ st (m - 1)) := why.resolve_left all
   by_cases m1 : m > 1
   · rw [if_pos m1]
     refine wpS_bind (hA st 0 (m - 1) _ hB (by omega) (by omega) ?_)
     cases rose : κ.blt (ky κ st 0) (ky κ st (m - 1)) with
     | true => dsimp only; rw [if_pos rfl]; exact wpS_pure (fin m st hB a b up)
     | false =>
      dsimp only
      rw [if_neg Bool.false_ne_true]
      have hz : m <= (arrOf st).size := by rw [hB.sz]; omega
      have same : ∀ i, 0 <= i -> i < m -> KK κ (arrOf st) i = KK κ (arrOf st) (m - 1) := fun i _ im => KeyOrd.kle_antisymm (up i (m - 1) (by omega) (by omega)) (KeyOrd.kle_trans rose (up 0 i (by omega) im))
      have dn : Down κ st m := fun i j le lt => by rw [same i (by omega) (by omega), same j (by omega) lt]; exact KeyOrd.kle_refl _
      exact wpS_bind (wpS_reverse (run_desc hA hn (by omega) (hB.arr (mirror_perm _ _ _ _)) (nonInc_congr (down_more dn (.inr (KeyOrd.kle_of_klt lo))) (KK_mirror_equal hz same)) fin))
   · rw [if_neg m1]
     obtain rfl : m = 1 := by omega
     exact run_desc hA hn (by omega) hB (down_more (fun i j le lt => by rw [show i = j by omega]; exact KeyOrd.kle_refl _) (.inr (KeyOrd.kle_of_klt lo))) fin
theorem up_move {xs : Array Keyed} {k l : Nat} (hk : k < xs.size) (hl : l <= k) (up : SortedToK κ xs k) (below : ∀ i, i < l -> κ.kle (KK κ xs i) (KK κ xs k)) (above : ∀ i, l <= i -> i < k -> κ.klt (KK κ xs k) (KK κ xs i)) : SortedToK κ (bubble xs k (k - l)) (k + 1) := by
 have e : ∀ i, KK κ (bubble xs k (k - l)) i = if i = l then KK κ xs k else if l < i ∧ i <= k then KK κ xs (i - 1) else KK κ xs i := fun i => by
  rw [KK_bubble hk (by omega), show k - (k - l) = l by omega]
 intro i j le lt
 rw [e, e]
 by_cases ji : j = l
 · rw [if_pos ji]
   by_cases ii : i = l
   · rw [if_pos ii]; exact KeyOrd.kle_refl _
   · rw [if_neg ii, if_neg (by omega)]; exact below i (by omega)
 · rw [if_neg ji]
   by_cases jl : l < j ∧ j <= k
   · rw [if_pos jl]
     by_cases ii : i = l
     · rw [if_pos ii]; exact KeyOrd.kle_of_klt (above (j - 1) (by omega) (by omega))
     · rw [if_neg ii]
       by_cases il : l < i ∧ i <= k
       · rw [if_pos il]; exact up _ _ (by omega) (by omega)
       · rw [if_neg il]; exact up _ _ (by omega) (by omega)
   · rw [if_neg jl, if_neg (by omega), if_neg (by omega)]; exact up _ _ le (by omega)
theorem run_ins (hA : Asks κ kd a0 prog w A E s) {n ok : Nat} {Q : Bool -> SortSt -> Prop} (hn : n <= a0.size) (hok : ok <= n) (hB : SB kd a0 st) (up0 : Up κ st ok) (fin : ∀ t, SB kd a0 t -> Up κ t n -> Q true t) : wpS (model prog w) A E s (binarySort' 0 n ok) Q st := by
 rw [binarySort'_eq]
 simp only [Nat.zero_add]
 have seek : ∀ (t : SortSt) (k : Nat), SB kd a0 t -> k < a0.size -> Up κ t k -> ∀ (R : Option Bool × Nat × Nat -> SortSt -> Prop), (∀ l r, l <= k -> (∀ i, i < l -> κ.kle (ky κ t i) (ky κ t k)) -> (∀ i, l <= i -> i < k -> κ.klt (ky κ t k) (ky κ t i)) -> R (none, l, r) t) ->
  wpS (model prog w) A E s (forIn [0:k] ((none, 0, k) : Option Bool × Nat × Nat) fun _ c => if c.2.1 ≥ c.2.2 then pure (ForInStep.done (none, c.2.1, c.2.2)) else do
   let x <- ltAt' k ((c.2.1 + c.2.2) / 2)
   match x with
   | some less => if less = true then pure (ForInStep.yield (none, c.2.1, (c.2.1 + c.2.2) / 2)) else pure (ForInStep.yield (none, (c.2.1 + c.2.2) / 2 + 1, c.2.2))
   | _ => pure (ForInStep.done (some false, c.2.1, c.2.2))) R t := by
  intro t k hb hk up R put
  refine wpS_forRange (I := fun x c t' => t' = t ∧ ∃ l r, c = (none, l, r) ∧ (l <= r ∧ r <= k ∧ r - l <= k - x) ∧ (∀ i, i < l -> κ.kle (ky κ t i) (ky κ t k)) ∧ ∀ i, r <= i -> i < k -> κ.klt (ky κ t k) (ky κ t i)) ?turn ?over ⟨rfl, 0, k, rfl, ⟨by omega, by omega, by omega⟩, fun i z => by omega, fun i z1 z2 => by omega⟩
  case turn =>
   rintro x c t' q1 q2 ⟨e1, l, r, e2, ⟨b1, b2, b3⟩, below, above⟩
   subst e1 e2
   dsimp only
   by_cases over : l ≥ r
   · rw [if_pos over]
     obtain rfl : l = r := by omega
     exact wpS_pure (put l l b2 below above)
   · rw [if_neg over]
     refine wpS_bind (hA t' k ((l + r) / 2) _ hb hk (by omega) ?_)
     cases less : κ.blt (ky κ t' k) (ky κ t' ((l + r) / 2)) with
     | true =>
      dsimp only
      rw [if_pos rfl]
      exact wpS_pure ⟨rfl, l, (l + r) / 2, rfl, ⟨by omega, by omega, by omega⟩, below, fun i z1 z2 => KeyOrd.klt_of_klt_of_kle less (up _ _ z1 z2)⟩
     | false =>
      dsimp only
      rw [if_neg Bool.false_ne_true]
      exact wpS_pure ⟨rfl, (l + r) / 2 + 1, r, rfl, ⟨by omega, by omega, by omega⟩, fun i z => KeyOrd.kle_trans (up i ((l + r) / 2) (by omega) (by omega)) less, above⟩
  case over =>
   rintro c t' ⟨e1, l, r, e2, ⟨b1, b2, b3⟩, below, above⟩
   subst e1 e2
   obtain rfl : l = r := by omega
   exact put l l b2 below above
 refine wpS_bind (wpS_mono (wpS_forRange (I := fun k c t => c = (none, ()) ∧ SB kd a0 t ∧ Up κ t (min k n)) (Q := fun c t => c = (none, ()) ∧ SB kd a0 t ∧ Up κ t n) ?turn ?over ?start) ?last)
 case last =>
  rintro c t ⟨e, hb, up⟩
  subst e
  exact wpS_pure (fin t hb up)
 case start =>
  refine ⟨rfl, hB, fun i j le lt => ?_⟩
  rcases Nat.eq_zero_or_pos ok with z | z
  · rw [show i = j by omega]; exact KeyOrd.kle_refl _
  · exact up0 i j le (by omega)
 case over =>
  rintro c t ⟨e, hb, up⟩
  rw [show min (max (max ok 1) n) n = n by omega] at up
  exact ⟨e, hb, up⟩
 case turn =>
  rintro k c t g1 g2 ⟨e, hb, up⟩
  subst e
  rw [show min k n = k by omega] at up
  refine wpS_bind (seek t k hb (by omega) up _ fun l r lk below above => ?_)
  show wpS _ _ _ _ (do moveDown' k l; pure (ForInStep.yield (none, ()))) _ _
  rw [moveDown'_eq]
  refine wpS_bind (wpS_modify (wpS_pure ⟨rfl, hb.arr (bubble_perm _ _ _), ?_⟩))
  rw [show min (k + 1) n = k + 1 by omega]
  exact up_move (by rw [hb.sz]; omega) lk up below above
theorem run_sort (hA : Asks κ kd a0 prog w A E s) {Q : Unit -> SortSt -> Prop} (h2 : 2 <= a0.size) (h64 : a0.size < 64) (hB : SB kd a0 st)
 (fin : ∀ t, (arrOf t).Perm a0 -> failedOf t = none -> Up κ t a0.size -> Q () t) : wpS (model prog w) A E s sortRuns' Q st := by
 rw [sortRuns'_eq]
 refine wpS_bind (wpS_get ?_)
 dsimp only
 have hmr : minRun' a0.size a0.size 0 = a0.size := by
  match hq : a0.size, h2 with
  | f + 1, _ => rw [minRun'_succ, if_pos (by omega)]
 simp only [hB.sz, hmr]
 refine wpS_bind (wpS_mono (wpS_forRange (I := fun x c t => (x = 0 ∧ c = (none, 0) ∧ SB kd a0 t) ∨ (0 < x ∧ c = (none, a0.size) ∧ (arrOf t).Perm a0 ∧ failedOf t = none ∧ pendingOf t = #[(0, a0.size, 0)] ∧ Up κ t a0.size))
  (Q := fun c t => c = (none, a0.size) ∧ (arrOf t).Perm a0 ∧ failedOf t = none ∧ pendingOf t = #[(0, a0.size, 0)] ∧ Up κ t a0.size) ?turn ?over (.inl ⟨rfl, rfl, hB⟩)) ?last)
 case turn =>
  rintro x c t g1 g2 (⟨rfl, rfl, hb⟩ | ⟨x0, rfl, rest⟩)
  · dsimp only
    rw [if_neg (by omega)]
    simp only [Nat.sub_zero, Nat.min_self, Nat.zero_add]
    have push : ∀ t' : SortSt, SB kd a0 t' -> Up κ t' a0.size -> (arrOf (setPending t' ((pendingOf t').push (0, a0.size, 0)))).Perm a0 ∧ failedOf (setPending t' ((pendingOf t').push (0, a0.size, 0))) = none ∧ pendingOf (setPending t' ((pendingOf t').push (0, a0.size, 0))) = #[(0, a0.size, 0)] ∧ Up κ (setPending t' ((pendingOf t').push (0, a0.size, 0))) a0.size := fun t' b u =>
     ⟨b.pm, b.ok, by show (pendingOf t').push _ = _; rw [b.pd]; rfl, u⟩
    refine wpS_bind (run_count hA (Nat.le_refl _) (by omega) hb fun m t2 hb2 m1 m2 up2 => ?_)
    dsimp only
    by_cases few : m < a0.size
    · rw [if_pos few]
      refine wpS_bind (wpS_lift (wpAny_rule ⟨rfl, wpS_bind (run_ins hA (Nat.le_refl _) m2 hb2 up2 fun t3 hb3 up3 => ?_)⟩))
      simp only [Bool.not_true, Bool.false_eq_true, if_false]
      refine wpS_bind (wpS_get ?_)
      rw [show (pendingOf t3).back? = none by rw [hb3.pd]; rfl]
      dsimp only
      exact wpS_bind (wpS_modify (wpS_pure (.inr ⟨by omega, rfl, push t3 hb3 up3⟩)))
    · rw [if_neg few]
      obtain rfl : m = a0.size := by omega
      refine wpS_bind (wpS_get ?_)
      rw [show (pendingOf t2).back? = none by rw [hb2.pd]; rfl]
      dsimp only
      exact wpS_bind (wpS_modify (wpS_pure (.inr ⟨by omega, rfl, push t2 hb2 up2⟩)))
  · dsimp only
    rw [if_pos (Nat.le_refl _)]
    exact wpS_pure ⟨rfl, rest⟩
 case over =>
  rintro c t (⟨z, _⟩ | ⟨_, z⟩)
  · omega
  · exact z
 case last =>
  rintro c t ⟨e, p1, p2, p3, p4⟩
  subst e
  dsimp only
  refine wpS_bind (wpS_mono (wpS_forRange (I := fun _ c t' => t' = t ∧ c = (none, ())) (Q := fun c t' => t' = t ∧ c = (none, ())) ?one (fun _ _ q => q) ⟨rfl, rfl⟩) ?two)
  case one =>
   rintro x c t' _ _ ⟨e1, e2⟩
   subst e1 e2
   refine wpS_bind (wpS_get ?_)
   rw [if_pos (by rw [p3]; exact Nat.le_refl 1)]
   exact wpS_pure ⟨rfl, rfl⟩
  case two =>
   rintro c t' ⟨e1, e2⟩
   subst e1 e2
   exact wpS_pure (fin _ p1 p2 p4)
end
end Y
namespace Y
open PySem PySem.Spec PyProof.Rows L2 PySem.SeqAt
variable [Tabs]
structure Lin (P : D -> Prop) : Prop where
 ir : ∀ a, P a -> dor .lt a a = false
 tr : ∀ a b c, P a -> P b -> P c -> dor .lt a b = true -> dor .lt b c = true -> dor .lt a c = true
 tt : ∀ a b, P a -> P b -> dor .lt a b = false -> dor .lt b a = false -> a = b
 cm : ∀ a b, P a -> P b -> cmpb a b = true
 eq : ∀ a b, P a -> P b -> deq a b = true -> a = b
def Fts : (Nat -> D -> Prop) -> List D -> Prop
 | _, [] => True
 | P, d :: ds => P 0 d ∧ Fts (fun i => P (i + 1)) ds
theorem fits_all {P : D -> Prop} : ∀ {ds : List D}, (∀ d ∈ ds, P d) -> Fts (fun _ => P) ds
 | [], _ => trivial
 | d :: ds, h => ⟨h d (by simp), fits_all fun x hx => h x (by simp [hx])⟩
theorem fits_ir : ∀ {P : Nat -> D -> Prop}, (∀ i, Lin (P i)) -> ∀ ds, Fts P ds -> dors .lt ds ds = false
 | P, L, [], _ => by simp [dors, Od.sz]
 | P, L, d :: ds, h => by
  unfold dors
  rw [deq_refl, if_pos rfl]
  exact fits_ir (fun i => L (i + 1)) ds h.2
theorem fits_eq : ∀ {P : Nat -> D -> Prop}, (∀ i, Lin (P i)) -> ∀ ds es, Fts P ds -> Fts P es -> deqs ds es = true -> ds = es
 | P, L, [], [], _, _, _ => rfl
 | P, L, [], e :: es, _, _, h => by simp [deqs] at h
 | P, L, d :: ds, [], _, _, h => by simp [deqs] at h
 | P, L, d :: ds, e :: es, h1, h2, h => by
  rw [deqs, Bool.and_eq_true] at h
  rw [(L 0).eq d e h1.1 h2.1 h.1, fits_eq (fun i => L (i + 1)) ds es h1.2 h2.2 h.2]
theorem fits_cm : ∀ {P : Nat -> D -> Prop}, (∀ i, Lin (P i)) -> ∀ ds es, Fts P ds -> Fts P es -> cmpbs ds es = true
 | P, L, [], es, _, _ => by simp [cmpbs]
 | P, L, d :: ds, [], _, _ => by simp [cmpbs]
 | P, L, d :: ds, e :: es, h1, h2 => by
  rw [cmpbs, (L 0).cm d e h1.1 h2.1, fits_cm (fun i => L (i + 1)) ds es h1.2 h2.2]; rfl
theorem fits_tt : ∀ {P : Nat -> D -> Prop}, (∀ i, Lin (P i)) -> ∀ ds es, Fts P ds -> Fts P es -> dors .lt ds es = false -> dors .lt es ds = false -> ds = es
 | P, L, [], [], _, _, _, _ => rfl
 | P, L, [], e :: es, _, _, h, _ => by simp [dors, Od.sz] at h
 | P, L, d :: ds, [], _, _, _, h => by simp [dors, Od.sz] at h
 | P, L, d :: ds, e :: es, h1, h2, ha, hb => by
  unfold dors at ha hb
  cases q : deq d e with
  | true =>
   obtain rfl := (L 0).eq d e h1.1 h2.1 q
   rw [deq_refl, if_pos rfl] at ha hb
   rw [fits_tt (fun i => L (i + 1)) ds es h1.2 h2.2 ha hb]
  | false =>
   have q2 : deq e d = false := by
    cases z : deq e d with
    | false => rfl
    | true => obtain rfl := (L 0).eq e d h2.1 h1.1 z; rw [deq_refl] at q; cases q
   rw [q] at ha; rw [q2] at hb
   rw [if_neg Bool.false_ne_true] at ha hb
   obtain rfl := (L 0).tt d e h1.1 h2.1 ha hb
   rw [deq_refl] at q; cases q
theorem fits_tr : ∀ {P : Nat -> D -> Prop}, (∀ i, Lin (P i)) -> ∀ ds es fs, Fts P ds -> Fts P es -> Fts P fs -> dors .lt ds es = true -> dors .lt es fs = true -> dors .lt ds fs = true
 | P, L, ds, [], fs, _, _, _, h, _ => by cases ds <;> simp [dors, Od.sz] at h
 | P, L, ds, e :: es, [], _, _, _, _, h => by simp [dors, Od.sz] at h
 | P, L, [], e :: es, f :: fs, _, _, _, _, _ => by simp [dors, Od.sz]
 | P, L, d :: ds, e :: es, f :: fs, h1, h2, h3, ha, hb => by
  unfold dors at ha hb ⊢
  have no : ∀ {x y : D}, P 0 x -> P 0 y -> dor .lt x y = true -> deq x y = false := fun {x y} px py lt => by
   cases z : deq x y with
   | false => rfl
   | true => obtain rfl := (L 0).eq x y px py z; rw [(L 0).ir x px] at lt; cases lt
  cases q : deq d e with
  | true =>
   obtain rfl := (L 0).eq d e h1.1 h2.1 q
   rw [q, if_pos rfl] at ha
   cases q2 : deq d f with
   | true =>
    rw [q2, if_pos rfl] at hb
    rw [if_pos rfl]
    exact fits_tr (fun i => L (i + 1)) ds es fs h1.2 h2.2 h3.2 ha hb
   | false => rw [q2] at hb; exact hb
  | false =>
   rw [q, if_neg Bool.false_ne_true] at ha
   cases q2 : deq e f with
   | true =>
    obtain rfl := (L 0).eq e f h2.1 h3.1 q2
    rw [q, if_neg Bool.false_ne_true]
    exact ha
   | false =>
    rw [q2, if_neg Bool.false_ne_true] at hb
    have lt := (L 0).tr d e f h1.1 h2.1 h3.1 ha hb
    rw [no h1.1 h3.1 lt, if_neg Bool.false_ne_true]
    exact lt
def isInt (d : D) : Prop := ∃ i, d = .int i
def isStr (d : D) : Prop := ∃ x, d = .str x
def isLst (P : D -> Prop) (d : D) : Prop := ∃ ds, d = .lst ds ∧ Fts (fun _ => P) ds
def isTup (P : Nat -> D -> Prop) (d : D) : Prop := ∃ ds, d = .tup ds ∧ Fts P ds
def pr2 (A B : D -> Prop) : Nat -> D -> Prop
 | 0 => A
 | _ + 1 => B
theorem lin_int : Lin isInt where
 ir := by rintro _ ⟨i, rfl⟩; simp [dor, Od.int]
 tr := by rintro _ _ _ ⟨i, rfl⟩ ⟨j, rfl⟩ ⟨k, rfl⟩ a b; simp [dor, Od.int] at *; omega
 tt := by rintro _ _ ⟨i, rfl⟩ ⟨j, rfl⟩ a b; simp [dor, Od.int] at *; omega
 cm := by rintro _ _ ⟨i, rfl⟩ ⟨j, rfl⟩; rfl
 eq := by rintro _ _ ⟨i, rfl⟩ ⟨j, rfl⟩ a; simpa [deq] using a
theorem lin_str : Lin isStr where
 ir := by
  rintro _ ⟨i, rfl⟩
  have h : ¬ cl i < cl i := List.lt_irrefl _
  simp [dor, Od.str, h]
 tr := by
  rintro _ _ _ ⟨i, rfl⟩ ⟨j, rfl⟩ ⟨k, rfl⟩ a b
  simp only [dor, Od.str, decide_eq_true_eq] at *
  exact List.lt_trans a b
 tt := by
  rintro _ _ ⟨i, rfl⟩ ⟨j, rfl⟩ a b
  simp only [dor, Od.str, decide_eq_false_iff_not] at *
  rw [cl_inj (List.le_antisymm (List.not_lt.mp b) (List.not_lt.mp a))]
 cm := by rintro _ _ ⟨i, rfl⟩ ⟨j, rfl⟩; rfl
 eq := by rintro _ _ ⟨i, rfl⟩ ⟨j, rfl⟩ a; simpa [deq] using a
theorem lin_lst {P : D -> Prop} (L : Lin P) : Lin (isLst P) where
 ir := by rintro _ ⟨i, rfl, h⟩; simp only [dor]; exact fits_ir (fun _ => L) _ h
 tr := by rintro _ _ _ ⟨i, rfl, h1⟩ ⟨j, rfl, h2⟩ ⟨k, rfl, h3⟩ a b; simp only [dor] at *; exact fits_tr (fun _ => L) _ _ _ h1 h2 h3 a b
 tt := by rintro _ _ ⟨i, rfl, h1⟩ ⟨j, rfl, h2⟩ a b; simp only [dor] at *; rw [fits_tt (fun _ => L) _ _ h1 h2 a b]
 cm := by rintro _ _ ⟨i, rfl, h1⟩ ⟨j, rfl, h2⟩; simp only [cmpb]; exact fits_cm (fun _ => L) _ _ h1 h2
 eq := by rintro _ _ ⟨i, rfl, h1⟩ ⟨j, rfl, h2⟩ a; simp only [deq] at a; rw [fits_eq (fun _ => L) _ _ h1 h2 a]
theorem lin_tup {P : Nat -> D -> Prop} (L : ∀ i, Lin (P i)) : Lin (isTup P) where
 ir := by rintro _ ⟨i, rfl, h⟩; simp only [dor]; exact fits_ir L _ h
 tr := by rintro _ _ _ ⟨i, rfl, h1⟩ ⟨j, rfl, h2⟩ ⟨k, rfl, h3⟩ a b; simp only [dor] at *; exact fits_tr L _ _ _ h1 h2 h3 a b
 tt := by rintro _ _ ⟨i, rfl, h1⟩ ⟨j, rfl, h2⟩ a b; simp only [dor] at *; rw [fits_tt L _ _ h1 h2 a b]
 cm := by rintro _ _ ⟨i, rfl, h1⟩ ⟨j, rfl, h2⟩; simp only [cmpb]; exact fits_cm L _ _ h1 h2
 eq := by rintro _ _ ⟨i, rfl, h1⟩ ⟨j, rfl, h2⟩ a; simp only [deq] at a; rw [fits_eq L _ _ h1 h2 a]
theorem lin_pr2 {A B : D -> Prop} (a : Lin A) (b : Lin B) : ∀ i, Lin (pr2 A B i)
 | 0 => a
 | _ + 1 => b
section
variable {X : Cx} {pins : List (Addr × Obj)} {σ : St} {H : Hp} {s : Shared} {Z Z' : Zone}
theorem in_one (I : Inv X pins σ H s) : ∀ (n : Nat) {d d' : D} {v : V}, d.dep <= n -> In X.K H Z d v -> In X.K H Z' d' v -> d = d' := fun _ _ _ _ _ i i' => In.inj I i i'
def Tells (K : PySem.W.Frag) (H : Hp) (Z : Zone) (u : Value) (d : D) : Prop := ∃ v, RelV v u ∧ In K H Z d v
theorem Tells.one (I : Inv X pins σ H s) {u : Value} {d d' : D} (a : Tells X.K H Z u d) (b : Tells X.K H Z' u d') : d = d' := by
 obtain ⟨v, r, i⟩ := a
 obtain ⟨v', r', i'⟩ := b
 cases r.inj r'
 exact in_one I d.dep (Nat.le_refl _) i i'
end
def OneL (b : Bool) (A : Around) (s : Shared) (x y : Value) (r : Bool) : Prop :=
 ∀ (prog : Program) (w : World) (E : Value -> Shared -> Prop) (Q : Bool -> Shared -> Prop), Q r s -> wpAny (model prog w) A (oneLt' b x y) Q E s
def KeyL (kd : SortKind) (A : Around) (s : Shared) (x y : Value) (r : Bool) : Prop :=
 ∀ (prog : Program) (w : World) (E : Value -> Shared -> Prop) (Q : Bool -> Shared -> Prop), Q r s -> wpAny (model prog w) A (keyLt' kd x y) Q E s
section
variable {X : Cx} {pins : List (Addr × Obj)} {σ : St} {H : Hp} {s : Shared} {Z Z' : Zone} {A : Around}
theorem oneL_ro {x y : Value} {r : Bool} (h : RoAt .Lt A s x y r) : OneL false A s x y r := fun prog w E Q q => by
 rw [oneLt'_eq]
 simp only [Bool.false_eq_true, if_false]
 exact wpAny_bind (h prog w E _ (wpAny_truthy_bool q))
theorem oneL_list {l b : Addr} {its its2 : Array Value} {e r : Nat -> Bool} (hl : s.heap.IsList l its) (hb : s.heap.IsList b its2) (hu : A.units < cLine)
 (he : ∀ j (h1 : j < its.size) (h2 : j < its2.size), EqAt A.in1 s its[j] its2[j] (e j)) (ho : ∀ j (h1 : j < its.size) (h2 : j < its2.size), e j = false -> RoAt .Lt A.in1 s its[j] its2[j] (r j)) :
 OneL true A s (.ref l) (.ref b) (walkB e r (decide (its.size < its2.size)) (List.range (min its.size its2.size))) := fun prog w E Q h => by
 obtain ⟨⟨cls, dd, data, sl⟩, g1, hc, n, hd⟩ := id hl
 obtain ⟨⟨cls2, dd2, data2, sl2⟩, g2, hc2, n2, hd2⟩ := id hb
 simp only at hc hd hc2 hd2
 subst hc hd hc2 hd2
 rw [oneLt'_eq]
 simp only [if_true]
 refine wpAny_bind (wpAny_cRoomFor hu ?_)
 refine wpAny_bind (wpAny_callSpecialIfBound?_slot (T := "list") ⟨_, g1, rfl⟩ F.slot_list_lt (call_meets F.slot_list_lt ⟨_, g1, rfl⟩ F.entry_list_lt (F.args_list_lt_2 _ _) (listLt l b its its2 n n2 dd dd2 sl sl2 e r) ⟨g1, g2, he, ho, ?_⟩))
 exact wpAny_truthy_bool h
def plainK : D -> Bool
 | .int _ => true
 | .str _ => true
 | .lst _ => true
 | _ => false
theorem oneL_D (b : Bool) (I : Inv X pins σ H s) {d d' : D} {u u' : Value} (t : Tells X.K H Z u d) (t' : Tells X.K H Z' u' d') (hc : cmpb d d' = true) (hp : plainK d = true) (hu : A.units + d.dep < cLine) : OneL b A s u u' (dor .lt d d') := by
 obtain ⟨v, r, i⟩ := t
 obtain ⟨v', r', i'⟩ := t'
 cases b with
 | false => exact oneL_ro (roAt_D .lt I d.dep i i' r r' hc (Nat.le_refl _) hu)
 | true =>
  cases d with
  | int x =>
   cases d' <;> simp [cmpb] at hc
   cases in_int.mp i
   cases in_int.mp i'
   obtain ⟨t, rfl⟩ := r
   obtain ⟨t', rfl⟩ := r'
   simp only [dor]
   exact fun prog w E Q q => oneLt_int q
  | str x =>
   cases d' <;> simp [cmpb] at hc
   cases in_str.mp i
   cases in_str.mp i'
   obtain ⟨t, rfl⟩ := r
   obtain ⟨t', rfl⟩ := r'
   simp only [dor]
   exact fun prog w E Q q => oneLt_str q
  | lst ds =>
   cases d' with
   | lst es =>
    have hcs : cmpbs ds es = true := by simpa [cmpb] using hc
    have hu' : A.units + (deps ds + 1) < cLine := by unfold D.dep at hu; exact hu
    have hu1 : A.in1.units + deps ds < cLine := by show A.units + 1 + deps ds < cLine; omega
    obtain ⟨a, xs, rfl, l, j⟩ := in_lst.mp i
    obtain ⟨a', ys, rfl, l', j'⟩ := in_lst.mp i'
    cases r
    cases r'
    obtain ⟨its, rx, pl, _⟩ := I.list l.sq
    obtain ⟨its2, ry, pl2, _⟩ := I.list l'.sq
    have z1 := j.length; have z2 := j'.length; have z3 := rx.length; have z4 := ry.length
    have both : ∀ k (h1 : k < its.toArray.size) (h2 : k < its2.toArray.size), EqAt A.in1 s its.toArray[k] its2.toArray[k] (deq (ds.getD k .non) (es.getD k .non)) ∧ RoAt .Lt A.in1 s its.toArray[k] its2.toArray[k] (dor .lt (ds.getD k .non) (es.getD k .non)) := fun k h1 h2 => by
     simp at h1 h2
     have k1 : k < ds.length := by omega
     have k2 : k < es.length := by omega
     obtain ⟨x, ex, ix⟩ := j.get (i := k) (d := ds[k]) (by simp [k1])
     obtain ⟨y, ey, iy⟩ := j'.get (i := k) (d := es[k]) (by simp [k2])
     obtain ⟨w1, f1, q1⟩ := rx.get ex
     obtain ⟨w2, f2, q2⟩ := ry.get ey
     have g1 : its.toArray[k] = w1 := by
      have t := (List.getElem?_eq_some_iff.mp f1).2
      simpa using t
     have g2 : its2.toArray[k] = w2 := by
      have t := (List.getElem?_eq_some_iff.mp f2).2
      simpa using t
     have hck := cmpbs_at ds es hcs k k1 k2
     have e1 : ds.getD k .non = ds[k] := by simp [k1]
     have e2 : es.getD k .non = es[k] := by simp [k2]
     rw [e1, e2] at hck ⊢
     rw [g1, g2]
     have hdk := deps_mem (List.getElem_mem k1)
     exact ⟨eqAt_D I _ ix iy q1 q2 hdk hu1, roAt_D .lt I _ ix iy q1 q2 hck hdk hu1⟩
    have key := oneL_list (A := A) (e := fun k => deq (ds.getD k .non) (es.getD k .non)) (r := fun k => dor .lt (ds.getD k .non) (es.getD k .non)) pl.isList pl2.isList (by omega) (fun k h1 h2 => (both k h1 h2).1) (fun k h1 h2 _ => (both k h1 h2).2)
    have e1 : its.toArray.size = ds.length := by simp; omega
    have e2 : its2.toArray.size = es.length := by simp; omega
    rw [e1, e2] at key
    have key2 := walk_dors .lt ds es
    simp only [Od.sz] at key2
    rw [key2] at key
    simpa only [dor] using key
   | _ => simp [cmpb] at hc
  | _ => simp [plainK] at hp
inductive Cmps (A : Around) (s : Shared) (b : Bool) : Nat -> List Value -> List Value -> List D -> List D -> Prop
 | nil {n : Nat} {us ws : List Value} {ds es : List D} (h : us.zip ws = []) (g : us.length = ds.length) (g2 : ws.length = es.length) : Cmps A s b n us ws ds es
 | cons {n : Nat} {u w : Value} {us ws : List Value} {d e : D} {ds es : List D} (h : EqAt A s u w (deq d e)) (o : deq d e = false -> OneL (b && n == 0) A s u w (dor .lt d e)) (t : Cmps A s b (n + 1) us ws ds es) : Cmps A s b n (u :: us) (w :: ws) (d :: ds) (e :: es)
theorem keyL_walk {b : Bool} {x y : Addr} {us ws : List Value} {ds es : List D} (hx : s.heap.IsTuple x us.toArray) (hy : s.heap.IsTuple y ws.toArray) (c : Cmps A s b 0 us ws ds es) (l1 : us.length = ds.length) (l2 : ws.length = es.length) : KeyL (tuples' b) A s (.ref x) (.ref y) (dors .lt ds es) := by
 intro prog w E Q q
 obtain ⟨o, h1, h2, n1, h3⟩ := hx
 obtain ⟨o', h1', h2', n1', h3'⟩ := hy
 show wpAny _ _ (do
  let xs <- Builtin.List.listItems (.ref x); let ys <- Builtin.List.listItems (.ref y)
  for ((p, q), i) in (xs.toList.zip ys.toList).zipIdx do
   if !(<- eqBool p q) then return <- oneLt' (b && i == 0) p q
  return decide (xs.size < ys.size)) _ _ _
 refine wpAny_bind (listItems_at h1 h3 ?_)
 refine wpAny_bind (listItems_at h1' h3' ?_)
 have walk : ∀ {n : Nat} {us' ws' : List Value} {ds' es' : List D}, Cmps A s b n us' ws' ds' es' -> ∀ (R : Option Bool × PUnit -> Shared -> Prop),
  (∀ r, (r = none -> dors .lt ds' es' = decide (us'.length < ws'.length)) -> (∀ v, r = some v -> v = dors .lt ds' es') -> R (r, ⟨⟩) s) ->
  wpAny (model prog w) A (forIn ((us'.zip ws').zipIdx n) ((none, ⟨⟩) : Option Bool × PUnit) fun x c => do
   let r <- eqBool x.1.1 x.1.2
   if (!r) = true then do let z <- oneLt' (b && x.2 == 0) x.1.1 x.1.2; pure (ForInStep.done (some z, ⟨⟩)) else pure (ForInStep.yield (none, ⟨⟩))) R E s := by
  intro n us' ws' ds' es' c
  induction c with
  | nil h g g2 =>
   intro R k
   rw [h]
   refine wpAny_pure (k none (fun z0 => ?_) (fun v e => nomatch e))
   rename_i us' ws' ds' es'
   cases us' with
   | nil =>
    cases ds' with
    | nil => simp [dors, Od.sz, g2]
    | cons _ _ => simp at g
   | cons _ _ =>
    cases ws' with
    | cons _ _ => simp at h
    | nil =>
     cases es' with
     | cons _ _ => simp at g2
     | nil =>
      cases ds' with
      | nil => simp [dors, Od.sz]
      | cons _ _ => simp [dors, Od.sz]
  | cons h o t ih =>
   intro R k
   rename_i n' u w' us2 ws2 d e ds2 es2
   simp only [List.zip_cons_cons, List.zipIdx_cons, List.forIn_cons]
   refine wpAny_bind (wpAny_bind (h prog w E _ ?_))
   cases hq : deq d e with
   | true =>
    simp only [Bool.not_true, Bool.false_eq_true, if_false]
    refine wpAny_pure ?_
    dsimp only
    refine ih R fun r a1 a2 => k r (fun z => ?_) (fun v z => ?_)
    · rw [dors, hq, if_pos rfl, a1 z]; simp
    · rw [dors, hq, if_pos rfl]; exact a2 v z
   | false =>
    simp only [Bool.not_false, if_true]
    refine wpAny_bind (o hq prog w E _ (wpAny_pure ?_))
    dsimp only
    refine wpAny_pure (k _ (fun z => nomatch z) fun v z => ?_)
    cases z
    rw [dors, hq, if_neg Bool.false_ne_true]
 refine wpAny_bind (walk c _ fun r a1 a2 => ?_)
 cases r with
 | none =>
  dsimp only
  refine wpAny_pure ?_
  rw [a1 rfl] at q
  simpa using q
 | some v =>
  dsimp only
  refine wpAny_pure ?_
  rw [a2 v rfl]; exact q
end
section
variable {X : Cx} {pins : List (Addr × Obj)} {σ : St} {H : Hp} {s : Shared} {Z Z' : Zone} {A : Around}
theorem keyL_tail (I : Inv X pins σ H s) {b : Bool} : ∀ {ds es : List D} {xs ys : List V} {us ws : List Value} (n : Nat), Ins X.K H Z ds xs -> Ins X.K H Z' es ys -> Vals xs us -> Vals ys ws -> cmpbs ds es = true -> (n = 0 -> b = true -> ∀ d r, ds = d :: r -> plainK d = true) -> A.units + deps ds < cLine -> Cmps A s b n us ws ds es := by
 intro ds
 induction ds with
 | nil =>
  intro es xs ys us ws n j j' r r' _ _ _
  have z1 := j.length; have z2 := j'.length; have z3 := r.length; have z4 := r'.length
  have u0 : us = [] := List.length_eq_zero_iff.mp (by simp at z1; omega)
  subst u0
  exact .nil rfl rfl (by omega)
 | cons d ds ih =>
  intro es xs ys us ws n j j' r r' hc hp hu
  cases es with
  | nil =>
   have z1 := j.length; have z2 := j'.length; have z3 := r.length; have z4 := r'.length
   have u0 : ws = [] := List.length_eq_zero_iff.mp (by simp at z2; omega)
   subst u0
   exact .nil (by simp) (by omega) rfl
  | cons e es =>
   obtain ⟨x, xs', rfl, i, j⟩ := ins_cons.mp j
   obtain ⟨y, ys', rfl, i', j'⟩ := ins_cons.mp j'
   cases r with
   | cons q r =>
   cases r' with
   | cons q' r' =>
   rw [cmpbs, Bool.and_eq_true] at hc
   have hm : A.units + max d.dep (deps ds) < cLine := by unfold deps at hu; exact hu
   refine .cons (eqAt_D I _ i i' q q' (Nat.le_refl _) (by omega)) (fun _ => ?_) (ih (n + 1) j j' r r' hc.2 (fun z => by omega) (by omega))
   cases n with
   | succ n =>
    have e : (b && n + 1 == 0) = false := by cases b <;> simp
    rw [e]
    exact oneL_ro (roAt_D .lt I _ i i' q q' hc.1 (Nat.le_refl _) (by omega))
   | zero =>
    cases b with
    | false => exact oneL_ro (roAt_D .lt I _ i i' q q' hc.1 (Nat.le_refl _) (by omega))
    | true => exact oneL_D true I ⟨_, q, i⟩ ⟨_, q', i'⟩ hc.1 (hp rfl rfl d ds rfl) (by omega)
theorem keyL_D {b : Bool} (I : Inv X pins σ H s) {ds es : List D} {u u' : Value} (t : Tells X.K H Z u (.tup ds)) (t' : Tells X.K H Z' u' (.tup es)) (hc : cmpb (.tup ds) (.tup es) = true) (hp : b = true -> ∀ d r, ds = d :: r -> plainK d = true) (hu : A.units + deps ds < cLine) : KeyL (tuples' b) A s u u' (dor .lt (.tup ds) (.tup es)) := by
 obtain ⟨v, r, i⟩ := t
 obtain ⟨v', r', i'⟩ := t'
 obtain ⟨a, xs, rfl, l, j⟩ := in_tupS i
 obtain ⟨a', ys, rfl, l', j'⟩ := in_tupS i'
 cases r
 cases r'
 obtain ⟨its, rx, pl, _⟩ := I.tuple l
 obtain ⟨its2, ry, pl2, _⟩ := I.tuple l'
 have z1 := j.length; have z2 := j'.length; have z3 := rx.length; have z4 := ry.length
 simp only [dor]
 exact keyL_walk pl pl2 (keyL_tail I 0 j j' rx ry (by simpa [cmpb] using hc) (fun _ => hp) hu) (by omega) (by omega)
theorem keyL_one (I : Inv X pins σ H s) {d d' : D} {u u' : Value} (t : Tells X.K H Z u d) (t' : Tells X.K H Z' u' d') (hc : cmpb d d' = true) (hp : plainK d = true) (hu : A.units + d.dep < cLine) : KeyL oneType' A s u u' (dor .lt d d') := fun prog w E Q q => by
 rw [keyLt'_oneType]
 exact oneL_D true I t t' hc hp hu prog w E Q q
def tyD : D -> String
 | .int _ => "int"
 | .str _ => "str"
 | .lst _ => "list"
 | _ => "tuple"
theorem ty_D (I : Inv X pins σ H s) {d : D} {u : Value} (t : Tells X.K H Z u d) (hp : plainK d = true ∨ ∃ ds, d = .tup ds) : s.TypeIs u (tyD d) := by
  obtain ⟨v, r, i⟩ := t
  cases d with
  | dct x => rcases hp with h | ⟨_, h⟩
             · exact absurd h (by simp [plainK])
             · cases h
  | ktup x => rcases hp with h | ⟨_, h⟩
              · exact absurd h (by simp [plainK])
              · cases h
  | int x => cases in_int.mp i; obtain ⟨t, rfl⟩ := r; exact typeIs_int s x t
  | str x => cases in_str.mp i; obtain ⟨t, rfl⟩ := r; exact typeIs_str s x t
  | lst ds =>
    obtain ⟨a, xs, rfl, l, j⟩ := in_lst.mp i
    cases r
    obtain ⟨its, rx, pl, _⟩ := I.list l.sq
    obtain ⟨o, h1, h2, n1, h3⟩ := pl.isList
    exact ⟨o, h1, h2⟩
  | tup ds =>
    obtain ⟨a, xs, rfl, l, j⟩ := in_tupS i
    cases r
    obtain ⟨its, rx, pl, _⟩ := I.tuple l
    obtain ⟨o, h1, h2, n1, h3⟩ := pl
    exact ⟨o, h1, h2⟩
  | non => simp [plainK] at hp
  | bl _ => simp [plainK] at hp
variable {M : Model} {E : Value -> Shared -> Prop}
theorem mapM_ex {α β : Type} {f : α -> Sem β} {P : β -> Prop} : ∀ (l : List α) {Q : List β -> Shared -> Prop}, (∀ x ∈ l, ∃ y, P y ∧ ∀ Q' : β -> Shared -> Prop, Q' y s -> wpAny M A (f x) Q' E s) -> (∀ ys : List β, ys.length = l.length -> (∀ y ∈ ys, P y) -> Q ys s) -> wpAny M A (l.mapM f) Q E s
 | [], Q, h, k => by rw [List.mapM_nil]; exact wpAny_pure (k [] rfl (by simp))
 | x :: l, Q, h, k => by
  obtain ⟨y, p, w⟩ := h x (by simp)
  rw [List.mapM_cons]
  refine wpAny_bind (w _ (wpAny_bind (mapM_ex l (fun z hz => h z (by simp [hz])) fun ys e ps => wpAny_pure (k (y :: ys) (by simp [e]) fun z hz => ?_))))
  rcases List.mem_cons.mp hz with rfl | hz
  · exact p
  · exact ps z hz
theorem oneType_ok {T : String} {vs : List Value} {Q : Option Value -> Shared -> Prop} (hT : (Value.type T == Value.type T) = true) (h : ∀ v ∈ vs, s.TypeIs v T) (h0 : vs ≠ []) (q : Q (some (.type T)) s) : wpAny M A (oneTypeOnly' vs.toArray) Q E s := by
 rw [oneTypeOnly'_eq, List.mapM_toArray]
 refine wpAny_bind ?_
 rw [map_eq_pure_bind]
 refine wpAny_bind (mapM_ex (P := fun y => y = Value.type T) vs (fun v hv => ⟨_, rfl, fun Q' z => wpAny_typeOf (h v hv) z⟩) fun ys e ps => wpAny_pure ?_)
 cases ys with
 | nil => exact absurd (List.length_eq_zero_iff.mp e.symm) h0
 | cons y ys =>
  obtain rfl := ps y (by simp)
  have all : (Value.type T :: ys).toArray.all (fun x => x == Value.type T) = true := by
   simp only [List.all_toArray, List.all_eq_true]
   intro z hz
   rw [ps z hz]; exact hT
  have e0 : (Value.type T :: ys).toArray[0]? = some (Value.type T) := by simp
  rw [e0]
  dsimp only
  rw [all, if_pos rfl]
  exact wpAny_pure q
theorem kind_tup {T : String} {us : List Value} {Q : SortKind -> Shared -> Prop} (hT : (Value.type T == Value.type T) = true) (hn : (Value.type T != Value.type "tuple") = true) (h0 : us ≠ [])
 (h : ∀ u ∈ us, ∃ a x its, u = .ref a ∧ s.heap.IsTuple a (x :: its).toArray ∧ s.TypeIs x T) (q : Q (tuples' true) s) : wpAny M A (keyKind' us.toArray) Q E s := by
 rw [keyKind'_eq, List.mapM_toArray]
 refine wpAny_bind ?_
 rw [map_eq_pure_bind]
 refine wpAny_bind (mapM_ex (P := fun y => ∃ x, y = some x ∧ s.TypeIs x T) us (fun u hu => ?_) fun ys e ps => wpAny_pure ?_)
 · obtain ⟨a, x, its, rfl, ⟨o, h1, h2, n1, h3⟩, tx⟩ := h u hu
   refine ⟨some x, ⟨x, rfl, tx⟩, fun Q' z => ?_⟩
   show wpAny _ _ (do
    if (<- typeOf (.ref a)) != .type "tuple" then return none
    return (<- Builtin.List.listItems (.ref a))[0]?) _ _ _
   refine wpAny_bind (wpAny_typeOf (T := "tuple") ⟨o, h1, h2⟩ ?_)
   have e : (Value.type "tuple" != Value.type "tuple") = false := by rfl
   rw [e, if_neg Bool.false_ne_true]
   refine wpAny_bind (listItems_at h1 h3 (wpAny_pure ?_))
   simpa using z
 · have all : ys.toArray.all (fun x => x.isSome) = true := by
    simp only [List.all_toArray, List.all_eq_true]
    intro z hz
    obtain ⟨x, rfl, _⟩ := ps z hz; rfl
   rw [all, if_pos rfl]
   refine wpAny_bind (wpAny_rule ?_)
   have e2 : ys.toArray.filterMap id = (ys.filterMap id).toArray := by simp
   rw [e2]
   refine wpAny_bind (oneType_ok (T := T) hT (fun v hv => ?_) ?_ ?_)
   · obtain ⟨y, hy, e⟩ := List.mem_filterMap.mp hv
     obtain ⟨x, rfl, tx⟩ := ps y hy
     cases e
     exact tx
   · cases ys with
     | nil => exact absurd (List.length_eq_zero_iff.mp e.symm) h0
     | cons y ys => obtain ⟨x, rfl, _⟩ := ps y (by simp); simp
   · simp only [Option.any_some, hn]
     exact wpAny_pure q
theorem kind_one {T : String} {us : List Value} {Q : SortKind -> Shared -> Prop} (hT : (Value.type T == Value.type T) = true) (hn : (Value.type T != Value.type "tuple") = true) (h0 : us ≠ [])
 (h : ∀ u ∈ us, s.TypeIs u T) (q : Q oneType' s) : wpAny M A (keyKind' us.toArray) Q E s := by
 rw [keyKind'_eq, List.mapM_toArray]
 refine wpAny_bind ?_
 rw [map_eq_pure_bind]
 refine wpAny_bind (mapM_ex (P := fun y => y = (none : Option Value)) us (fun u hu => ⟨none, rfl, fun Q' z => ?_⟩) fun ys e ps => wpAny_pure ?_)
 · show wpAny _ _ (do
    if (<- typeOf u) != .type "tuple" then return none
    return (<- Builtin.List.listItems u)[0]?) _ _ _
   refine wpAny_bind (wpAny_typeOf (h u hu) ?_)
   rw [hn, if_pos rfl]
   exact wpAny_pure z
 · cases ys with
   | nil => exact absurd (List.length_eq_zero_iff.mp e.symm) h0
   | cons y ys =>
    obtain rfl := ps y (by simp)
    rw [if_neg (by simp), if_neg (by simp)]
    refine wpAny_bind (oneType_ok hT h h0 ?_)
    exact wpAny_pure q
end
inductive KindOf (P : D -> Prop) : SortKind -> Prop
 | one (T : String) (hT : T = "int" ∨ T = "str" ∨ T = "list") (h : ∀ d, P d -> plainK d = true ∧ tyD d = T) : KindOf P oneType'
 | tup (T : String) (hT : T = "int" ∨ T = "str" ∨ T = "list") (h : ∀ d, P d -> ∃ x r, d = .tup (x :: r) ∧ plainK x = true ∧ tyD x = T) : KindOf P (tuples' true)
theorem ty_ok {T : String} (hT : T = "int" ∨ T = "str" ∨ T = "list") : (Value.type T == Value.type T) = true ∧ (Value.type T != Value.type "tuple") = true := by
 rcases hT with rfl | rfl | rfl <;> exact ⟨rfl, by decide⟩
section
variable {X : Cx} {pins : List (Addr × Obj)} {σ : St} {H : Hp} {s : Shared} {Z Z' : Zone} {A : Around} {P : D -> Prop} {kd : SortKind} {M : Model} {E : Value -> Shared -> Prop}
theorem kind_ok (k : KindOf P kd) (I : Inv X pins σ H s) {us : List Value} {Q : SortKind -> Shared -> Prop} (h : ∀ u ∈ us, ∃ d, P d ∧ Tells X.K H Z u d) (h0 : us ≠ []) (q : Q kd s) : wpAny M A (keyKind' us.toArray) Q E s := by
 cases k with
 | one T hT hp =>
  refine kind_one (ty_ok hT).1 (ty_ok hT).2 h0 (fun u hu => ?_) q
  obtain ⟨d, pd, t⟩ := h u hu
  rw [<- (hp d pd).2]
  exact ty_D I t (.inl (hp d pd).1)
 | tup T hT hp =>
  refine kind_tup (ty_ok hT).1 (ty_ok hT).2 h0 (fun u hu => ?_) q
  obtain ⟨d, pd, v, r, i⟩ := h u hu
  obtain ⟨x, ds, rfl, px, tx⟩ := hp d pd
  obtain ⟨a, xs, rfl, l, j⟩ := in_tupS i
  cases r
  obtain ⟨y, ys, rfl, iy, j⟩ := ins_cons.mp j
  obtain ⟨its, rx, pl, _⟩ := I.tuple l
  cases rx with
  | cons q rx => exact ⟨a, _, _, rfl, pl, tx ▸ ty_D I ⟨_, q, iy⟩ (.inl px)⟩
theorem keyL_ok (k : KindOf P kd) (L : Lin P) (I : Inv X pins σ H s) {u u' : Value} {d d' : D} (t : Tells X.K H Z u d) (t' : Tells X.K H Z' u' d') (p : P d) (p' : P d') (hu : A.units + d.dep < cLine) : KeyL kd A s u u' (dor .lt d d') := by
 have hc := L.cm d d' p p'
 cases k with
 | one T hT hp => exact keyL_one I t t' hc (hp d p).1 hu
 | tup T hT hp =>
  obtain ⟨x, ds, rfl, px, tx⟩ := hp d p
  obtain ⟨x', ds', rfl, px', tx'⟩ := hp d' p'
  refine keyL_D I t t' hc (fun _ y r e => by cases e; exact px) ?_
  unfold D.dep at hu
  omega
open Classical in
noncomputable def kap (K : PySem.W.Frag) (H : Hp) (Z : Zone) (P : D -> Prop) (L : Lin P) (d0 : {d // P d}) : PyProof.Rows.KeyKind where
 α := {d // P d}
 blt a b := dor .lt a.1 b.1
 irrefl a := L.ir a.1 a.2
 trans a b c := L.tr a.1 b.1 c.1 a.2 b.2 c.2
 negTrans a b c h := by
  cases q : dor .lt a.1 b.1 with
  | true => exact .inl rfl
  | false =>
   refine .inr ?_
   cases q2 : dor .lt b.1 a.1 with
   | true => exact L.tr b.1 a.1 c.1 b.2 a.2 c.2 q2 h
   | false => rw [<- L.tt a.1 b.1 a.2 b.2 q q2]; exact h
 total a b h1 h2 := Subtype.ext (L.tt a.1 b.1 a.2 b.2 h1 h2)
 keyOf u := if h : ∃ d : {d // P d}, Tells K H Z u d.1 then some (Classical.choose h) else none
 dflt := d0
theorem kap_key (I : Inv X pins σ H s) (L : Lin P) {d0 : {d // P d}} {u : Value} {d : D} (p : P d) (t : Tells X.K H Z u d) : (kap X.K H Z P L d0).keyOf u = some ⟨d, p⟩ := by
 have h : ∃ d : {d // P d}, Tells X.K H Z u d.1 := ⟨⟨d, p⟩, t⟩
 unfold kap
 dsimp only
 rw [dif_pos h]
 exact congrArg some (Subtype.ext (Tells.one I (Classical.choose_spec h) t))
theorem asks_ok (k : KindOf P kd) (L : Lin P) (I : Inv X pins σ H s) {d0 : {d // P d}} {a0 : Array Keyed} {w : World} {prog : Program} (h : ∀ p ∈ a0.toList, ∃ d, P d ∧ Tells X.K H Z p.1 d ∧ A.units + d.dep < cLine) : Asks (kap X.K H Z P L d0) kd a0 prog w A E s := by
 intro st i j Q hB hi hj q
 rw [ltAt'_eq]
 refine wpS_bind (wpS_get ?_)
 show wpS _ _ _ _ (do let x <- elem' (arrOf st) i; let y <- elem' (arrOf st) j; lt' x y) Q st
 have hi' : i < (arrOf st).size := by rw [hB.sz]; exact hi
 have hj' : j < (arrOf st).size := by rw [hB.sz]; exact hj
 have mem : ∀ n (hn : n < (arrOf st).size), (arrOf st)[n] ∈ a0.toList := fun n hn => (Array.perm_iff_toList_perm.mp hB.pm).mem_iff.mp (by simp)
 obtain ⟨d, p, t, hu⟩ := h _ (mem i hi')
 obtain ⟨d', p', t', _⟩ := h _ (mem j hj')
 have e1 : ky (kap X.K H Z P L d0) st i = ⟨d, p⟩ := by
  show KK _ (arrOf st) i = _
  unfold KK
  rw [getElem?_pos (arrOf st) i hi']
  show ((kap X.K H Z P L d0).keyOf (arrOf st)[i].1).getD _ = _
  rw [kap_key I L p t]; rfl
 have e2 : ky (kap X.K H Z P L d0) st j = ⟨d', p'⟩ := by
  show KK _ (arrOf st) j = _
  unfold KK
  rw [getElem?_pos (arrOf st) j hj']
  show ((kap X.K H Z P L d0).keyOf (arrOf st)[j].1).getD _ = _
  rw [kap_key I L p' t']; rfl
 rw [e1, e2] at q
 rw [elem'_eq, elem'_eq, getElem?_pos (arrOf st) i hi', getElem?_pos (arrOf st) j hj']
 refine wpS_bind (wpS_pure (wpS_bind (wpS_pure ?_)))
 rw [lt'_eq]
 refine wpS_bind (wpS_get ?_)
 rw [hB.kd]
 refine wpS_bind (wpS_lift (wpAny_attempt (keyL_ok k L I t t' p p' hu prog w _ _ ⟨rfl, ?_⟩)))
 exact wpS_pure q
theorem up_data (I : Inv X pins σ H s) (L : Lin P) {d0 : {d // P d}} {a0 xs : Array Keyed} (pm : xs.Perm a0) (up : SortedToK (kap X.K H Z P L d0) xs a0.size) {kf : Keyed -> D} (h : ∀ p ∈ a0.toList, P (kf p) ∧ Tells X.K H Z p.1 (kf p)) :
 xs.toList.Pairwise fun p q => dor .lt (kf q) (kf p) = false := by
 rw [List.pairwise_iff_getElem]
 intro i j hi hj hij
 have hi' : i < xs.size := by simpa using hi
 have hj' : j < xs.size := by simpa using hj
 have mem : ∀ n (hn : n < xs.size), xs[n] ∈ a0.toList := fun n hn => (Array.perm_iff_toList_perm.mp pm).mem_iff.mp (by simp)
 have e : ∀ n (hn : n < xs.size), KK (kap X.K H Z P L d0) xs n = ⟨kf xs[n], (h _ (mem n hn)).1⟩ := fun n hn => by
  unfold KK
  rw [getElem?_pos xs n hn]
  show ((kap X.K H Z P L d0).keyOf xs[n].1).getD _ = _
  rw [kap_key I L (h _ (mem n hn)).1 (h _ (mem n hn)).2]; rfl
 have key := up i j (by omega) (by rw [<- pm.size_eq]; exact hj')
 rw [e i hi', e j hj'] at key
 have key2 : dor .lt (kf xs[j]) (kf xs[i]) = false := key
 simpa using key2
variable {prog : Program} {w : World} {κ : PyProof.Rows.KeyKind}
theorem sort_at {a : Addr} {us : List Value} {n : Nat} {R : Fin -> Shared -> Prop} (ho : s.heap.get? a = some (seqObj "list" us.toArray n)) (h64 : us.length < 64)
 (hk : ∀ (h' : Heap) (Q : SortKind -> Shared -> Prop), (∀ b o, b ≠ a -> s.heap.get? b = some o -> h'.get? b = some o) -> us ≠ [] -> Q kd { s with heap := h' } -> wpAny (model prog w) A (keyKind' us.toArray) Q E { s with heap := h' })
 (hA : ∀ h' : Heap, (∀ b o, b ≠ a -> s.heap.get? b = some o -> h'.get? b = some o) -> Asks κ kd (pairsOf us) prog w A E { s with heap := h' })
 (h : ∀ t : Array Keyed, t.Perm (pairsOf us) -> SortedToK κ t (pairsOf us).size -> R (.done (.ret .none)) { s with heap := sortedHeap s.heap a us (t.map (·.2)) }) :
 wpAny (model prog w) A (Builtin.«list.sort» ⟨[.ref a], []⟩) R E s := by
 rw [list_sort_plain]
 have la : a < s.heap.objs.size := Heap.lt_size ho
 obtain ⟨m, ho1⟩ : ∃ m, (s.heap.update a (Obj.mapSeq fun _ => #[])).get? a = some (seqObj "list" #[] m) := ⟨_, get?_update_seq ho (fun _ => #[])⟩
 refine wpAny_bind (listItems_at ho rfl (wpAny_bind (listUpdate_at ho rfl (wpAny_bind (seqEpoch_at ho1 rfl (wpAny_bind (wpAny_newTuple (wpAny_bind (wpAny_newList (wpAny_holding ?_))))))))))
 have keeps : ∀ b o, b ≠ a -> s.heap.get? b = some o -> (((s.heap.update a (Obj.mapSeq fun _ => #[])).push (seqObj "tuple" us.toArray 0)).push (seqObj "list" #[] 0)).get? b = some o := fun b o ne e => by
  have lb : b < s.heap.objs.size := Heap.lt_size e
  rw [Heap.get?_push_ne _ _ _ (by rw [size_push', Heap.size_update]; exact Nat.ne_of_lt (Nat.lt_succ_of_lt lb)), Heap.get?_push_ne _ _ _ (by rw [Heap.size_update]; exact Nat.ne_of_lt lb), Heap.get?_update_ne _ _ _ _ ne]
  exact e
 have hoE : (((s.heap.update a (Obj.mapSeq fun _ => #[])).push (seqObj "tuple" us.toArray 0)).push (seqObj "list" #[] 0)).get? a = some (seqObj "list" #[] m) := by
  rw [Heap.get?_push_ne _ _ _ (by rw [size_push', Heap.size_update]; exact Nat.ne_of_lt (Nat.lt_succ_of_lt la)), Heap.get?_push_ne _ _ _ (by rw [Heap.size_update]; exact Nat.ne_of_lt la)]
  exact ho1
 show wpAny (model prog w) A _ R E { s with heap := ((s.heap.update a (Obj.mapSeq fun _ => #[])).push (seqObj "tuple" us.toArray 0)).push (seqObj "list" #[] 0) }
 dsimp only
 have fits : ∀ t : Array Keyed, t.Perm (pairsOf us) -> (t.map (·.2)).size <= sizeLine + 1 := fun t pm => by
  rw [Array.size_map, pm.size_eq, pairsOf_size, sizeLine_eq]; omega
 by_cases few : us.toArray.size < 2
 · rw [if_pos few, if_pos few]
   refine wpAny_bind (wpAny_pure ?_)
   rw [StateT.run_pure]
   refine wpAny_bind (wpAny_pure ?_)
   dsimp only
   refine wpAny_bind (seqEpoch_at hoE rfl (wpAny_bind (listUpdate_at hoE rfl ?_ (hsz2 := fits _ (Array.Perm.refl _)))))
   simp only [bne_self_eq_false, Bool.false_eq_true, if_false]
   refine wpAny_pure (h _ (Array.Perm.refl _) fun i j le lt => ?_)
   rw [pairsOf_size] at lt
   simp at few
   rw [show i = j by omega]
   exact KeyOrd.kle_refl _
 · rw [if_neg few, if_neg few]
   have l2 : 2 <= (pairsOf us).size := by rw [pairsOf_size]; simp at few; omega
   refine wpAny_bind (hk _ _ keeps (by rintro rfl; simp at few) ?_)
   refine wpAny_bind (wpAny_mono (run_sort (κ := κ) (kd := kd) (a0 := pairsOf us) (st := SortSt.mk' kd (us.toArray.zip us.toArray) #[] 7 none) (Q := fun _ t => (arrOf t).Perm (pairsOf us) ∧ failedOf t = none ∧ SortedToK κ (arrOf t) (pairsOf us).size)
    (hA (((s.heap.update a (Obj.mapSeq fun _ => #[])).push (seqObj "tuple" us.toArray 0)).push (seqObj "list" #[] 0)) keeps) l2 (by rw [pairsOf_size]; exact h64) ⟨Array.Perm.refl _, rfl, rfl, rfl⟩ fun t a1 a2 a3 => ⟨a1, a2, a3⟩) ?_ fun _ _ e => e)
   rintro ⟨⟨⟩, t⟩ s' ⟨rfl, pm, ok, up⟩
   dsimp only
   refine wpAny_bind (seqEpoch_at hoE rfl (wpAny_bind (listUpdate_at hoE rfl ?_ (hsz2 := fits _ pm))))
   rw [ok]
   simp only [bne_self_eq_false, Bool.false_eq_true, if_false]
   exact wpAny_pure (h _ pm up)
end
def srt (f : D -> D) (ds : List D) : List D := ds.mergeSort fun x y => !dor .lt (f y) (f x)
theorem srt_perm (f : D -> D) (ds : List D) : (srt f ds).Perm ds := List.mergeSort_perm _ _
theorem paired_perm {α β : Type} {R : α -> β -> Prop} {l l' : List α} (p : l'.Perm l) : ∀ {r : List β}, Paired R l r -> ∃ r', r'.Perm r ∧ Paired R l' r' := by
 induction p with
 | nil => intro r h; cases h; exact ⟨[], .refl _, .nil⟩
 | cons x p ih =>
  intro r h
  cases h with
  | cons a t =>
   obtain ⟨r', p', h'⟩ := ih t
   exact ⟨_ :: r', p'.cons _, .cons a h'⟩
 | swap x y l =>
  intro r h
  cases h with
  | cons a t => cases t with
   | cons b t => exact ⟨_ :: _ :: _, .swap _ _ _, .cons b (.cons a t)⟩
 | trans p q ih1 ih2 =>
  intro r h
  obtain ⟨r1, p1, h1⟩ := ih2 h
  obtain ⟨r2, p2, h2⟩ := ih1 h1
  exact ⟨r2, p2.trans p1, h2⟩
theorem paired_map {α β γ δ : Type} {R : α -> β -> Prop} {S : γ -> δ -> Prop} {f : α -> γ} {g : β -> δ} : ∀ {l : List α} {r : List β}, Paired R l r -> (∀ a b, a ∈ l -> b ∈ r -> R a b -> S (f a) (g b)) -> Paired S (l.map f) (r.map g)
 | _, _, .nil, _ => .nil
 | _, _, .cons a t, h => .cons (h _ _ (by simp) (by simp) a) (paired_map t fun x y hx hy z => h x y (by simp [hx]) (by simp [hy]) z)
theorem paired_eq {α : Type} : ∀ {l r : List α}, Paired (fun a b => a = b) l r -> l = r
 | _, _, .nil => rfl
 | _, _, .cons a t => by rw [a, paired_eq t]
theorem ins_of_mem {K : PySem.W.Frag} {H : Hp} {Z : Zone} : ∀ {prs : List (V × D)}, (∀ q ∈ prs, In K H Z q.2 q.1) -> Ins K H Z (prs.map (·.2)) (prs.map (·.1))
 | [], _ => ins_nil.mpr rfl
 | q :: prs, h => ins_cons.mpr ⟨_, _, rfl, h q (by simp), ins_of_mem fun x hx => h x (by simp [hx])⟩
section
variable {X : Cx} {pins : List (Addr × Obj)} {σ : St} {H : Hp} {s : Shared} {Z Z' : Zone} {A : Around} {P : D -> Prop} {kd : SortKind} {M : Model} {E : Value -> Shared -> Prop} {f : D -> D}
theorem sort_out (I : Inv X pins σ H s) (L : Lin P) {d0 : {d // P d}} {prs : List (V × D)} {a0 t : Array Keyed} (pr : Paired (fun (p : Keyed) (q : V × D) => RelV q.1 p.2 ∧ Tells X.K H Z p.1 (f q.2)) a0.toList prs) (hP : ∀ q ∈ prs, P (f q.2))
 (pm : t.Perm a0) (up : SortedToK (kap X.K H Z P L d0) t a0.size) : ∃ prs' : List (V × D), prs'.Perm prs ∧ Vals (prs'.map (·.1)) (t.map (·.2)).toList ∧ (prs'.map (·.2)).Pairwise fun x y => dor .lt (f y) (f x) = false := by
 have pl := Array.perm_iff_toList_perm.mp pm
 obtain ⟨prs', pp, pr'⟩ := paired_perm pl pr
 have ex : ∀ p ∈ a0.toList, ∃ q, q ∈ prs ∧ Tells X.K H Z p.1 (f q.2) := by
  intro p hp
  have : ∀ {l : List Keyed} {r : List (V × D)}, Paired (fun (p : Keyed) (q : V × D) => RelV q.1 p.2 ∧ Tells X.K H Z p.1 (f q.2)) l r -> p ∈ l -> ∃ q, q ∈ r ∧ Tells X.K H Z p.1 (f q.2) := by
   intro l r h
   induction h with
   | nil => intro z; simp at z
   | cons a t ih =>
    intro z
    rcases List.mem_cons.mp z with rfl | z
    · exact ⟨_, by simp, a.2⟩
    · obtain ⟨q, hq, tq⟩ := ih z
      exact ⟨q, by simp [hq], tq⟩
  exact this pr hp
 have hkf : ∃ kf : Keyed -> D, ∀ p ∈ a0.toList, P (kf p) ∧ Tells X.K H Z p.1 (kf p) := by
  refine ⟨fun p => open Classical in if h : ∃ d, P d ∧ Tells X.K H Z p.1 d then Classical.choose h else .non, fun p hp => ?_⟩
  obtain ⟨q, hq, tq⟩ := ex p hp
  have h : ∃ d, P d ∧ Tells X.K H Z p.1 d := ⟨_, hP q hq, tq⟩
  dsimp only
  rw [dif_pos h]
  exact Classical.choose_spec h
 obtain ⟨kf, hkf⟩ := hkf
 have pw := up_data I L pm up hkf
 refine ⟨prs', pp, ?_, ?_⟩
 · rw [Array.toList_map]
   have : ∀ {l : List Keyed} {r : List (V × D)}, Paired (fun (p : Keyed) (q : V × D) => RelV q.1 p.2 ∧ Tells X.K H Z p.1 (f q.2)) l r -> Vals (r.map (·.1)) (l.map (·.2)) := by
    intro l r h
    induction h with
    | nil => exact .nil
    | cons a t ih => exact .cons a.1 ih
   exact this pr'
 · have e : t.toList.map kf = prs'.map fun q => f q.2 :=
    paired_eq (paired_map pr' fun p q hp hq z => Tells.one I (hkf p (pl.mem_iff.mp hp)).2 z.2)
   have pw2 : (t.toList.map kf).Pairwise fun x y => dor .lt y x = false := by rw [List.pairwise_map]; exact pw
   rw [e, List.pairwise_map] at pw2
   rw [List.pairwise_map]
   exact pw2
theorem srt_one (L : Lin P) {ds ds' : List D} (hP : ∀ d ∈ ds, P (f d)) (inj : ∀ a ∈ ds, ∀ b ∈ ds, f a = f b -> a = b) (pm : ds'.Perm ds) (pw : ds'.Pairwise fun x y => dor .lt (f y) (f x) = false) : ds' = srt f ds := by
 have P' : ∀ d ∈ ds', P (f d) := fun d hd => hP d (pm.mem_iff.mp hd)
 have neg : ∀ x y z, P (f x) -> P (f y) -> P (f z) -> dor .lt (f y) (f x) = false -> dor .lt (f z) (f y) = false -> dor .lt (f z) (f x) = false := fun x y z px py pz a b => by
  cases q : dor .lt (f z) (f x) with
  | false => rfl
  | true =>
   cases q2 : dor .lt (f x) (f y) with
   | true => rw [L.tr _ _ _ pz px py q q2] at b; cases b
   | false => rw [L.tt _ _ px py q2 a] at q; rw [q] at b; cases b
 have hs : (srt f ds).Pairwise fun x y => dor .lt (f y) (f x) = false := by
  let ds2 : List {d // P (f d)} := ds.attach.map fun d => ⟨d.1, hP d.1 d.2⟩
  have e : ds = ds2.map (·.1) := by simp [ds2]
  have e2 : srt f ds = (ds2.mergeSort fun x y => !dor .lt (f y.1) (f x.1)).map (·.1) := by
   unfold srt
   rw [e]
   exact (List.map_mergeSort (f := fun z : {d // P (f d)} => z.1) (r := fun x y => !dor .lt (f y.1) (f x.1)) (s := fun x y => !dor .lt (f y) (f x)) (fun a _ b _ => rfl)).symm
  rw [e2, List.pairwise_map]
  have := List.pairwise_mergeSort (le := fun (x y : {d // P (f d)}) => !dor .lt (f y.1) (f x.1)) (fun a b c h1 h2 => by
   simp only [Bool.not_eq_true'] at *
   exact neg a.1 b.1 c.1 a.2 b.2 c.2 h1 h2) (fun a b => by
   cases q : dor .lt (f b.1) (f a.1) with
   | false => simp
   | true =>
    have z : dor .lt (f a.1) (f b.1) = false := by
     cases q2 : dor .lt (f a.1) (f b.1) with
     | false => rfl
     | true => have w := L.tr _ _ _ a.2 b.2 a.2 q2 q; rw [L.ir _ a.2] at w; cases w
    simp [z]) ds2
  exact this.imp fun h => by simpa using h
 refine List.Perm.eq_of_pairwise (le := fun x y => dor .lt (f y) (f x) = false) ?_ pw hs (pm.trans (srt_perm f ds).symm)
 intro a b ha hb h1 h2
 have hb' : b ∈ ds := (srt_perm f ds).mem_iff.mp hb
 exact inj a (pm.mem_iff.mp ha) b hb' (L.tt _ _ (P' a ha) (hP b hb') h2 h1)
end
section
variable {X : Cx}
theorem pairs_data {K : PySem.W.Frag} {H : Hp} {Z : Zone} : ∀ {ds : List D} {ys : List V} {its : List Value}, Vals ys its -> Ins K H Z ds ys -> Paired (fun (p : Keyed) (q : V × D) => RelV q.1 p.2 ∧ Tells K H Z p.1 (id q.2)) (its.zip its) (ys.zip ds)
 | [], ys, its, r, j => by cases ins_nil.mp j; cases r; exact .nil
 | d :: ds, ys, its, r, j => by
  obtain ⟨v, vs, rfl, i, j⟩ := ins_cons.mp j
  cases r with
  | cons a r => exact .cons ⟨a, v, a, i⟩ (pairs_data r j)
theorem ins_zip {K : PySem.W.Frag} {H : Hp} {Z : Zone} : ∀ {ds : List D} {ys : List V}, Ins K H Z ds ys -> ∀ q ∈ ys.zip ds, In K H Z q.2 q.1
 | [], ys, j, q, hq => by simp at hq
 | d :: ds, ys, j, q, hq => by
  obtain ⟨v, vs, rfl, i, j⟩ := ins_cons.mp j
  rcases List.mem_cons.mp hq with rfl | hq
  · exact i
  · exact ins_zip j q hq
variable {ρ : List (Option D)} {m m1 : Bool} {a : Expr} {ds : List D} {p pos : Pos} {P : D -> Prop} {kd : SortKind}
theorem flats_perm {ds es : List D} (p : es.Perm ds) (h : flats ds = true) : flats es = true := by
 have mem : ∀ {l : List D}, flats l = true ↔ ∀ d ∈ l, d.flat = true := by
  intro l
  induction l with
  | nil => simp [flats]
  | cons x l ih => simp [flats, ih]
 exact mem.mpr fun d hd => mem.mp h d (p.mem_iff.mp hd)
end
theorem sort_key_eq (a fa : Addr) : Builtin.«list.sort» ⟨[.ref a], [(("key" : Str), .ref fa)]⟩ = (do
 let items <- Builtin.List.listItems (.ref a)
 Builtin.List.listUpdate (.ref a) fun _ => #[]
 let before <- seqEpoch a
 let held <- newTuple items.toList
 let store <- newList []
 holding [held, store] do
  rule "list.sort.key"
  for x in items do
   match <- (call (.ref fa) [x]).attempt with
   | .ok k => Builtin.List.listUpdate store (·.push k)
   | .error e =>
    rule "list.sort.key-raised"
    let made <- Builtin.List.listItems store
    Builtin.List.listUpdate store fun _ => #[]
    letGo made.toList.reverse [e]
    Builtin.List.listUpdate (.ref a) (fun _ => items); throw e
  let keys <- Builtin.List.listItems store
  let kind <- if items.size < 2 then pure general' else keyKind' keys
  let ((), st) <- (if items.size < 2 then pure () else sortRuns').run (SortSt.mk' kind (keys.zip items) #[] 7 none)
  Builtin.List.listUpdate store (fun _ => #[])
  letGo ((arrOf st).map (·.1)).toList (failedOf st).toList
  let touched := (<- seqEpoch a) != before
  Builtin.List.listUpdate (.ref a) (fun _ => (arrOf st).map (·.2))
  if let some e := failedOf st then rule "list.sort.comparison-raised"; throw e
  if touched then rule "list.sort.modified"; raiseError "ValueError" "list modified during sort"
  ret .none) := rfl
structure Keys (X : Cx) (A : Around) (σ : St) (fa : Addr) (f : D -> D) (P0 : D -> Prop) (Good : Hp -> Zone -> Prop) : Prop where
 zone : ∀ {H : Hp} {Z Z' : Zone}, (∀ a o, H a = some o -> Z.S a -> Z'.S a) -> (Z.m = false -> Z'.m = false) -> Good H Z -> Good H Z'
 same : ∀ {H H' : Hp} {Z : Zone}, Same H H' -> Good H Z -> Good H' Z
 write : ∀ {H : Hp} {Z : Zone} {l : Addr} {xs ys : List V}, H l = some (.lst xs) -> ¬ Z.S l -> Good H Z -> Good (upd H l (.lst ys)) Z
 run : ∀ (E : Value -> Shared -> Prop) (pins : List (Addr × Obj)) (s : Shared) (H : Hp) (Z : Zone) (u : Value) (d : D) (Q : Value -> Shared -> Prop), Inv X pins σ H s -> Z.Open H -> Good H Z -> Tells X.K H Z u d -> P0 d ->
  (∀ k H' s', Inv X pins σ H' s' -> Same H H' -> Tells X.K H' Z k (f d) -> Q k s') -> wpAny (model X.prog X.w) A (call (.ref fa) [u]) Q E s
theorem TabsOk.updE {H : Hp} {a : Addr} {φ : Heap -> Prop} {o : HO} (t : TabsOk H) (ha : H a = some (.ext φ)) (no : ∀ qn : Str, (fun h : Heap => h.CodeRec (.ref a) qn) ≠ φ) : TabsOk (L2.upd H a o) := fun P hP => by
 obtain ⟨ps, e, tr, k⟩ := t P hP
 refine ⟨ps, by rw [upd_ne (ne_of e ha (by intro z; cases z))]; exact e, tr, fun pos cv q => ?_⟩
 obtain ⟨c, rfl, hc⟩ := k pos cv q
 have : c ≠ a := fun z => by
  subst z
  rw [ha] at hc
  have z2 := Option.some.inj hc
  unfold recO at z2
  injection z2 with z3
  exact no P.2 z3.symm
 exact ⟨c, rfl, by rw [upd_ne this]; exact hc⟩
theorem pairs_key {K : PySem.W.Frag} {H : Hp} {Z : Zone} {f : D -> D} : ∀ {ds : List D} {xs : List V} {us : List Value} {kvs : List V} {ks : List Value}, xs.length = ds.length -> Vals xs us -> Ins K H Z (ds.map f) kvs -> Vals kvs ks ->
 Paired (fun (p : Keyed) (q : V × D) => RelV q.1 p.2 ∧ Tells K H Z p.1 (f q.2)) (ks.zip us) (xs.zip ds)
 | [], xs, us, kvs, ks, hl, r, j, r2 => by
  cases ins_nil.mp j
  cases r2
  cases r with
  | nil => exact .nil
  | cons _ _ => simp at hl
 | d :: ds, xs, us, kvs, ks, hl, r, j, r2 => by
  obtain ⟨v, vs, rfl, i, j⟩ := ins_cons.mp j
  cases r2 with
  | cons a r2 =>
   cases r with
   | nil => simp at hl
   | cons b r => exact .cons ⟨b, v, a, i⟩ (pairs_key (by simpa using hl) r j r2)
section
variable {X : Cx} {pins : List (Addr × Obj)} {σ : St} {H : Hp} {s : Shared} {Z : Zone} {A : Around} {P P0 : D -> Prop} {kd : SortKind} {E : Value -> Shared -> Prop} {f : D -> D} {fa a : Addr} {Good : Hp -> Zone -> Prop}
theorem sort_key (kk : Keys X A σ fa f P0 Good) (L : Lin P) (kn : KindOf P kd) {ds : List D} {xs : List V} {us : List Value} (hP : ∀ d ∈ ds, P0 d ∧ P (f d) ∧ A.units + (f d).dep < cLine) (inj : ∀ x ∈ ds, ∀ y ∈ ds, f x = f y -> x = y)
 (I : Inv X pins σ H s) (oz : Z.Open H) (g : Good H Z) (ix : Ins X.K H Z ds xs) (vx : Vals xs us) (h64 : us.length < 64) {h1 : Heap} {t1 n : Nat} (k1 : ∀ b o, s.heap.get? b = some o -> h1.get? b = some o) (la : s.heap.objs.size <= a)
 (ho : h1.get? a = some (seqObj "list" us.toArray n)) {R : Fin -> Shared -> Prop}
 (fin : ∀ H' s' (prs : List (V × D)), Inv X pins σ H' s' -> Same H H' -> H a = none -> H' a = some (.lst (prs.map (·.1))) -> prs.Perm (xs.zip ds) -> prs.map (·.2) = srt f ds -> R (.done (.ret .none)) s') :
 wpAny (model X.prog X.w) A (Builtin.«list.sort» ⟨[.ref a], [(("key" : Str), .ref fa)]⟩) R E { s with heap := h1, toks := t1 } := by
 rw [sort_key_eq]
 have z1 := ix.length; have z2 := vx.length
 have la' : a < h1.objs.size := Heap.lt_size ho
 obtain ⟨m, ho1⟩ : ∃ m, (h1.update a (Obj.mapSeq fun _ => #[])).get? a = some (seqObj "list" #[] m) := ⟨_, get?_update_seq ho (fun _ => #[])⟩
 refine wpAny_bind (listItems_at (s := { s with heap := h1, toks := t1 }) ho rfl ?_)
 refine wpAny_bind (listUpdate_at (s := { s with heap := h1, toks := t1 }) ho rfl ?_ (by simp only [List.size_toArray, sizeLine_eq]; omega) (by simp))
 refine wpAny_bind (seqEpoch_at (s := { s with heap := h1.update a (Obj.mapSeq fun _ => #[]), toks := t1 }) ho1 rfl ?_)
 refine wpAny_bind (wpAny_newTuple ?_)
 have k3 : ∀ b o, s.heap.get? b = some o -> ((h1.update a (Obj.mapSeq fun _ => #[])).push (seqObj "tuple" us.toArray 0)).get? b = some o := fun b o e => by
  have lb := Heap.lt_size e
  have ne : b ≠ a := Nat.ne_of_lt (Nat.lt_of_lt_of_le lb la)
  have lb1 := Heap.lt_size (k1 b o e)
  rw [Heap.get?_push_ne _ _ _ (by rw [Heap.size_update]; exact Nat.ne_of_lt lb1), Heap.get?_update_ne _ _ _ _ ne]
  exact k1 b o e
 have ho3 : ((h1.update a (Obj.mapSeq fun _ => #[])).push (seqObj "tuple" us.toArray 0)).get? a = some (seqObj "list" #[] m) := by
  rw [Heap.get?_push_ne _ _ _ (by rw [Heap.size_update]; exact Nat.ne_of_lt la')]
  exact ho1
 show wpAny (model X.prog X.w) A _ R E { s with heap := (h1.update a (Obj.mapSeq fun _ => #[])).push (seqObj "tuple" us.toArray 0), toks := t1 }
 generalize ((h1.update a (Obj.mapSeq fun _ => #[])).push (seqObj "tuple" us.toArray 0)) = h3 at k3 ho3 ⊢
 have Ha0 : H a = none := I.hok.fresh la
 have Ia : Inv X pins σ (upd H a (.ext fun h => h.get? a = some (seqObj "list" #[] m))) { s with heap := h3, toks := t1 } := I.laid k3 la ⟨ho3, ⟨_, ho3⟩, fun g1 g2 z k => k _ z⟩
 refine wpAny_bind (wpAny_newList ?_)
 have Iq := Ia.lnew (ys := []) (its := []) (t' := t1) .nil (by simp)
 have q0 := Ia.fresh
 show wpAny (model X.prog X.w) A _ R E { s with heap := h3.push (seqObj "list" #[] 0), toks := t1 }
 have Hq0 : H h3.objs.size = none := by
  have z := q0
  by_cases e : h3.objs.size = a
  · rw [e]; exact Ha0
  · change upd H a _ h3.objs.size = none at z
    rw [upd_ne e] at z; exact z
 have neq : a ≠ h3.objs.size := Nat.ne_of_lt (Heap.lt_size ho3)
 generalize hQ : h3.objs.size = q at q0 Hq0 neq ⊢
 have Iq' : Inv X pins σ (upd (upd H a (.ext fun h => h.get? a = some (seqObj "list" #[] m))) q (.lst [])) { s with heap := h3.push (seqObj "list" #[] 0), toks := t1 } := by rw [<- hQ]; exact Iq
 clear Iq
 -- what every state in the loop bears
 have openQ : ∀ {H' : Hp} {kvs : List V}, Same H H' -> H' q = some (.lst kvs) -> Zone.Open ⟨Z.m, fun b => Z.S b ∧ b ≠ q⟩ H' := fun {H' kvs} k hq => ⟨fun b e => ⟨oz.op b (k.free e), fun z => by rw [z, hq] at e; cases e⟩, k.tabs oz.tb⟩
 have carryQ : ∀ {H' : Hp}, Same H H' -> Carry X.K H Z H' ⟨Z.m, fun b => Z.S b ∧ b ≠ q⟩ := fun {H'} k =>
  Carry.of k (fun b ys e z => ⟨z, fun w => by rw [w, Hq0] at e; cases e⟩) fun z => z
 refine wpAny_holding (wpAny_bind (wpAny_rule ?_))
 refine wpAny_bind (wpAny_forIn_array' _ (fun rest _ st => ∃ (H' : Hp) (kvs : List V), Inv X pins σ H' st ∧ (Same H H' ∧ H' a = some (.ext fun h => h.get? a = some (seqObj "list" #[] m))) ∧ H' q = some (.lst kvs) ∧
  Good H' ⟨Z.m, fun b => Z.S b ∧ b ≠ q⟩ ∧ kvs.length <= us.length ∧ rest = us.drop kvs.length ∧ Ins X.K H' ⟨Z.m, fun b => Z.S b ∧ b ≠ q⟩ ((ds.take kvs.length).map f) kvs) _ ?turn ?over _ _ ?start)
 case start =>
  have sm0 : Same H (upd (upd H a (.ext fun h => h.get? a = some (seqObj "list" #[] m))) q (.lst [])) := (same_new Ha0).trans (same_new q0)
  exact ⟨_, [], Iq', ⟨sm0, by rw [upd_ne neq, upd_same]⟩, upd_same, kk.same sm0 (kk.zone (Z := Z) (fun b o e z => ⟨z, fun w => by rw [w, Hq0] at e; cases e⟩) (fun z => z) g), Nat.zero_le _, by simp, ins_nil.mpr rfl⟩
 case turn =>
  rintro x rest _ st ⟨H', kvs, I', ⟨kp, hae⟩, hq, gd, hle, hr, jn⟩
  have hlt : kvs.length < us.length := by
   have := congrArg List.length hr
   simp at this; omega
  have hx : us[kvs.length] = x ∧ us.drop (kvs.length + 1) = rest := by
   rw [List.drop_eq_getElem_cons hlt] at hr
   injection hr with e1 e2
   exact ⟨e1.symm, e2.symm⟩
  have hd : kvs.length < ds.length := by omega
  obtain ⟨v, ev, iv⟩ := ix.get (i := kvs.length) (d := ds[kvs.length]) (by simp [hd])
  obtain ⟨u', eu, ru⟩ := vx.get ev
  have e2 : u' = x := by
   have t := (List.getElem?_eq_some_iff.mp eu).2
   rw [<- t]; exact hx.1
  subst e2
  refine wpAny_bind (wpAny_attempt (kk.run _ pins st H' _ u' ds[kvs.length] _ I' (openQ kp hq) gd ⟨v, ru, iv.carry (carryQ kp)⟩ (hP _ (List.getElem_mem hd)).1 fun k H2 s2 I2 sm ⟨kv, rk, ik⟩ => ?_))
  dsimp only
  have hq2 : H2 q = some (.lst kvs) := sm.at hq
  obtain ⟨zl, its, n2, rv, ll, ho2⟩ := I2.lstM hq2
  refine wpAny_bind (listUpdate_at ho2 rfl (wpAny_pure ?_) (by simp only [List.size_toArray, sizeLine_eq]; omega) (by simp only [Array.size_push, List.size_toArray, sizeLine_eq]; omega))
  dsimp only
  refine ⟨upd H2 q (.lst (kvs ++ [kv])), kvs ++ [kv], I2.lset (t' := s2.toks) (its' := its ++ [k]) hq2 ho2 (by simp) (rv.append (.cons rk .nil)) (by simp only [List.length_append, List.length_cons, List.length_nil, sizeLine_eq]; omega), ⟨(kp.trans sm).write Hq0 hq2, by rw [upd_ne neq]; exact sm.at hae⟩, upd_same, ?_, by simp; omega, by simp [hx.2], ?_⟩
  · exact kk.write hq2 (fun z => z.2 rfl) (kk.same sm gd)
  · have e3 : (ds.take (kvs ++ [kv]).length).map f = (ds.take kvs.length).map f ++ [f ds[kvs.length]] := by
     rw [List.length_append, List.length_cons, List.length_nil, List.take_add_one, List.map_append]
     simp [hd]
    rw [e3]
    have cw : Carry X.K H2 ⟨Z.m, fun b => Z.S b ∧ b ≠ q⟩ (upd H2 q (.lst (kvs ++ [kv]))) ⟨Z.m, fun b => Z.S b ∧ b ≠ q⟩ := Carry.write hq2 (fun z => z.2 rfl)
    exact ((jn.same sm).carry cw).append (Ins.one (ik.carry cw))
 case over =>
  rintro _ st ⟨H', kvs, I', ⟨kp, hae⟩, hq, gd, hle, hr, jn⟩
  have hlen : kvs.length = us.length := by
   have := congrArg List.length hr
   simp at this; omega
  have jn' : Ins X.K H' ⟨Z.m, fun b => Z.S b ∧ b ≠ q⟩ (ds.map f) kvs := by
   rw [hlen, show us.length = ds.length by omega, List.take_length] at jn; exact jn
  obtain ⟨zl, ks, n2, rv, ll, ho2⟩ := I'.lstM hq
  refine wpAny_bind (listItems_at ho2 rfl ?_)
  have pr := pairs_key (K := X.K) (by omega) vx jn' rv
  have hsz : ks.toArray.size = us.toArray.size := by simp; omega
  -- behind the sort
  have tail : ∀ (tt : SortSt) (prs : List (V × D)), failedOf tt = none -> prs.Perm (xs.zip ds) -> Vals (prs.map (·.1)) ((arrOf tt).map (·.2)).toList -> prs.map (·.2) = srt f ds ->
   wpAny (model X.prog X.w) A (do
    Builtin.List.listUpdate (.ref q) (fun _ => #[])
    letGo ((arrOf tt).map (·.1)).toList (failedOf tt).toList
    let touched := (<- seqEpoch a) != m
    Builtin.List.listUpdate (.ref a) (fun _ => (arrOf tt).map (·.2))
    if let some e := failedOf tt then rule "list.sort.comparison-raised"; throw e
    if touched then rule "list.sort.modified"; raiseError "ValueError" "list modified during sort"
    ret .none) R E st := by
   intro tt prs ok pp vv e
   refine wpAny_bind (listUpdate_at ho2 rfl ?_ (by simp only [List.size_toArray, sizeLine_eq]; omega) (by simp))
   have I5 := I'.lset (t' := st.toks) (its' := []) (ys := []) (f := fun _ => #[]) hq ho2 (by simp) .nil (by simp)
   have ha5 : upd H' q (.lst []) a = some (.ext fun h => h.get? a = some (seqObj "list" #[] m)) := by rw [upd_ne neq]; exact hae
   have ho5 : ({ st with heap := st.heap.update q (Obj.mapSeq fun _ => #[]), toks := st.toks } : Shared).heap.get? a = some (seqObj "list" #[] m) := (I5.hok a _ ha5).1
   refine wpAny_bind (wpAny_letGo ?_)
   refine wpAny_bind (seqEpoch_at (s := { st with heap := st.heap.update q (Obj.mapSeq fun _ => #[]), toks := st.toks }) ho5 rfl ?_)
   have nout : ((arrOf tt).map (·.2)).size <= sizeLine := by
    have z := vv.length
    have z3 := pp.length_eq
    rw [List.length_zip] at z3
    rw [List.length_map] at z
    rw [<- Array.length_toList, <- z, z3, sizeLine_eq]; omega
   refine wpAny_bind (listUpdate_at (s := { st with heap := st.heap.update q (Obj.mapSeq fun _ => #[]), toks := st.toks }) ho5 rfl ?_ (by simp) (Nat.le_succ_of_le nout))
   rw [ok]
   simp only [bne_self_eq_false, Bool.false_eq_true, if_false]
   obtain ⟨e6, qo⟩ : ∃ e6, ((st.heap.update q (Obj.mapSeq fun _ => #[])).update a (Obj.mapSeq fun _ => (arrOf tt).map (·.2))).get? a = some (seqObj "list" ((arrOf tt).map (·.2)) e6) := ⟨_, get?_update_seq ho5 (fun _ => (arrOf tt).map (·.2))⟩
   have I6 : Inv X pins σ (upd (upd H' q (.lst [])) a (.lst (prs.map (·.1)))) { st with heap := (st.heap.update q (Obj.mapSeq fun _ => #[])).update a (Obj.mapSeq fun _ => (arrOf tt).map (·.2)), toks := st.toks } := by
    refine I5.write (x := a) (e := a) (by rw [ha5]; exact trivial) (.inl rfl) (fun b u nb hb => (Heap.get?_update_other _ _ (Ne.symm nb)).trans hb) ⟨_, qo⟩ ?_
    refine ⟨?_, ((arrOf tt).map (·.2)).toList, e6, vv, by rw [Array.toArray_toList]; exact qo⟩
    rw [vv.length, Array.length_toList]; exact nout
   have sm5 : Same H (upd H' q (.lst [])) := kp.write Hq0 hq
   have sm6 : Same H (upd (upd H' q (.lst [])) a (.lst (prs.map (·.1)))) := ⟨fun b o eb n => by rw [upd_ne (ne_of_none eb Ha0)]; exact sm5.get b o eb n, fun b qs eb => by rw [upd_ne (ne_of_none eb Ha0)]; exact sm5.tbl b qs eb, fun t => (sm5.tabs t).updE ha5 fun qn z => by
    have z2 := (I5.hok a _ ha5).1
    rw [<- z] at z2
    obtain ⟨c3, o3, vs3, t3, e3, g3, d3, _⟩ := z2
    cases e3
    rw [ho5] at g3
    cases g3
    cases d3⟩
   exact wpAny_pure (fin _ _ prs I6 sm6 Ha0 upd_same pp e)
  by_cases few : us.toArray.size < 2
  · rw [if_pos few, if_pos few]
    refine wpAny_bind (wpAny_pure ?_)
    dsimp only
    rw [StateT.run_pure]
    refine wpAny_bind (wpAny_pure ?_)
    dsimp only
    refine tail (SortSt.mk' general' (ks.toArray.zip us.toArray) #[] 7 none) (xs.zip ds) rfl (.refl _) ?_ ?_
    · have e1 : ((ks.toArray.zip us.toArray).map (·.2)).toList = us := by
       simp only [List.zip_toArray, List.map_toArray]
       exact List.map_snd_zip (by omega)
      have e2 : (xs.zip ds).map (·.1) = xs := List.map_fst_zip (by omega)
      rw [e2]
      show Vals xs ((ks.toArray.zip us.toArray).map (·.2)).toList
      rw [e1]; exact vx
    · have e2 : (xs.zip ds).map (·.2) = ds := List.map_snd_zip (by omega)
      rw [e2]
      simp at few
      match ds, z1 with
      | [], _ => simp [srt]
      | [d], _ => simp [srt]
      | d :: d2 :: r, z => simp at z; omega
  · rw [if_neg few, if_neg few]
    have l2 : 2 <= us.length := by simp at few; omega
    have el : ∀ u ∈ ks, ∃ d, P d ∧ Tells X.K H' ⟨Z.m, fun b => Z.S b ∧ b ≠ q⟩ u d ∧ A.units + d.dep < cLine := fun u hu => by
     obtain ⟨i, hi, e⟩ := List.mem_iff_getElem.mp hu
     have hd : i < ds.length := by omega
     obtain ⟨v, ev, iv⟩ := jn'.get (i := i) (d := f ds[i]) (by simp [hd])
     obtain ⟨u', eu, ru⟩ := rv.get ev
     have e2 : u' = u := by
      have t := (List.getElem?_eq_some_iff.mp eu).2
      rw [<- t]; exact e
     exact ⟨_, (hP _ (List.getElem_mem hd)).2.1, ⟨v, e2 ▸ ru, iv⟩, (hP _ (List.getElem_mem hd)).2.2⟩
    have kn0 : ks ≠ [] := fun z => by rw [z] at ll; simp only [List.length_nil] at ll; omega
    refine wpAny_bind (kind_ok kn I' (fun u hu => let ⟨d, p1, p2, _⟩ := el u hu; ⟨d, p1, p2⟩) kn0 ?_)
    have hd0 : 0 < ds.length := by omega
    have esz : (ks.toArray.zip us.toArray).size = us.length := by simp; omega
    have elist : (ks.toArray.zip us.toArray).toList = ks.zip us := by simp
    refine wpAny_bind (wpAny_mono (run_sort (κ := kap X.K H' ⟨Z.m, fun b => Z.S b ∧ b ≠ q⟩ P L ⟨f ds[0], (hP _ (List.getElem_mem hd0)).2.1⟩) (kd := kd) (a0 := ks.toArray.zip us.toArray) (st := SortSt.mk' kd (ks.toArray.zip us.toArray) #[] 7 none)
     (Q := fun _ t => (arrOf t).Perm (ks.toArray.zip us.toArray) ∧ failedOf t = none ∧ SortedToK (kap X.K H' ⟨Z.m, fun b => Z.S b ∧ b ≠ q⟩ P L ⟨f ds[0], (hP _ (List.getElem_mem hd0)).2.1⟩) (arrOf t) (ks.toArray.zip us.toArray).size)
     (asks_ok kn L I' fun p hp => el p.1 (by rw [elist] at hp; exact (List.of_mem_zip hp).1)) (by rw [esz]; exact l2) (by rw [esz]; exact h64) ⟨Array.Perm.refl _, rfl, rfl, rfl⟩ fun t a1 a2 a3 => ⟨a1, a2, a3⟩) ?_ fun _ _ e => e)
    rintro ⟨⟨⟩, t⟩ s' ⟨rfl, pm, ok, up⟩
    dsimp only
    rw [<- elist] at pr
    obtain ⟨prs, pp, vv, pw⟩ := sort_out I' L pr (fun z hz => (hP _ (List.of_mem_zip hz).2).2.1) pm up
    refine tail t prs ok pp vv (srt_one L (f := f) (fun d hd => (hP d hd).2.1) inj ?_ pw)
    have e2 : (xs.zip ds).map (·.2) = ds := List.map_snd_zip (by omega)
    have pp2 := pp.map (·.2)
    rw [e2] at pp2
    exact pp2
end
theorem among_app {pos : Pos} {a b : Int} {c cv : Value} (l : List Value) (h : TriplesOk l) (e : codeAmong pos (l ++ [rawInt a, rawInt b, c]) = some cv) : codeAmong pos l = some cv ∨ cv = c := by
 fun_induction TriplesOk l with
 | case1 =>
  simp only [List.nil_append, codeAmong, rawInt] at e
  split at e
  · exact .inr (Option.some.inj e).symm
  · cases e
 | case2 a' t b' u x rest ih =>
  simp only [List.cons_append, codeAmong] at e ⊢
  split at e
  · rename_i hc; rw [if_pos hc]; exact .inl e
  · rename_i hc; rw [if_neg hc]; exact ih h e
 | case3 l h1 h2 => exact h.elim
section
variable {X : Cx} {pins : List (Addr × Obj)} {σ : St} {H : Hp} {s : Shared} {P c f : Addr} {ps more : Array Value} {h' : Heap} {t' : Nat}
theorem inv_lam (I : Inv X pins σ H s) (hP : H P = some (.tbl ps)) (k : ∀ b o, b ≠ P -> s.heap.get? b = some o -> h'.get? b = some o) (htb : h'.get? P = some { cls := .none, data := .fields (ps ++ more) }) {u v : HO} (hc : s.heap.objs.size <= c) (hf : s.heap.objs.size <= f) (cf : c ≠ f)
 (oc : ObjOk X.prog X.w (upd (upd (upd H P (.tbl (ps ++ more))) c u) f v) h' c u) (of : ObjOk X.prog X.w (upd (upd (upd H P (.tbl (ps ++ more))) c u) f v) h' f v) :
 Inv X pins σ (upd (upd (upd H P (.tbl (ps ++ more))) c u) f v) { s with heap := h', toks := t' } := by
 have Hc : H c = none := I.hok.fresh hc
 have Hf : H f = none := I.hok.fresh hf
 have Pc : P ≠ c := ne_of_none hP Hc
 have Pf : P ≠ f := ne_of_none hP Hf
 have get : ∀ {b : Addr} {o : HO}, H b = some o -> b ≠ P -> upd (upd (upd H P (.tbl (ps ++ more))) c u) f v b = some o := fun {b o} e n => by
  rw [upd_ne (ne_of_none e Hf), upd_ne (ne_of_none e Hc), upd_ne n]; exact e
 have getP : upd (upd (upd H P (.tbl (ps ++ more))) c u) f v P = some (.tbl (ps ++ more)) := by rw [upd_ne Pf, upd_ne Pc, upd_same]
 refine I.un ⟨fun b o e n hb _ => ?_, fun b o e n hb _ => ?_, fun b o e n _ => ?_, fun b o e _ => ?_, fun b xs e => ?_, fun b o u' e => ?_, fun b qs e => ?_⟩ fun b o e => ?_
 · exact k b o (fun z => by rw [z, hP] at n; cases n) e
 · exact ⟨o.slots, k b o (fun z => by rw [z, hP] at n; cases n) e⟩
 · have lb := Heap.lt_size e
   have n1 : b ≠ P := fun z => by rw [z, hP] at n; cases n
   rw [upd_ne (Nat.ne_of_lt (Nat.lt_of_lt_of_le lb hf)), upd_ne (Nat.ne_of_lt (Nat.lt_of_lt_of_le lb hc)), upd_ne n1]; exact n
 · by_cases z : b = P
   · exact ⟨_, by rw [z]; exact htb⟩
   · exact ⟨o, k b o z e⟩
 · exact get e (ne_of e hP (by intro z; cases z))
 · exact get e (ne_of e hP (by intro z; cases z))
 · by_cases z : b = P
   · rw [z, hP] at e
     cases e
     exact ⟨more, by rw [z]; exact getP⟩
   · exact ⟨#[], by rw [get e z]; simp⟩
 · by_cases z1 : b = f
   · subst z1; rw [upd_same] at e; cases e; exact of
   · rw [upd_ne z1] at e
     by_cases z2 : b = c
     · subst z2; rw [upd_same] at e; cases e; exact oc
     · rw [upd_ne z2] at e
       by_cases z3 : b = P
       · subst z3; rw [upd_same] at e; cases e; exact htb
       · rw [upd_ne z3] at e
         refine (I.hok b o e).stay (fun b' v' hb' q => k b' v' ?_ q) (fun b' q => get q (ne_of q hP (by intro z; cases z))) fun b' xs q => get q (ne_of q hP (by intro z; cases z))
         rcases hb' with z | z
         · rw [z]; exact z3
         · exact ne_of z hP (by intro z; cases z)
theorem tabs_lam {qn : Str} {pos : Pos} {v : HO} (t : TabsOk H) (hT : (P, qn) ∈ Tabs.T) (one : ∀ q ∈ Tabs.T, q.1 = P -> q.2 = qn) (hP : H P = some (.tbl ps)) (hn : codeAmong pos ps.toList = none) (Hc : H c = none) (Hf : H f = none) (cf : c ≠ f) :
 TabsOk (upd (upd (upd H P (.tbl (ps ++ #[rawInt pos.line, rawInt pos.col, .ref c]))) c (recO c qn)) f v) := fun Q hQ => by
 obtain ⟨qs, e, tr, kq⟩ := t Q hQ
 have ne : ∀ {b : Addr} {o : HO}, H b = some o -> b ≠ P -> upd (upd (upd H P (.tbl (ps ++ #[rawInt pos.line, rawInt pos.col, .ref c]))) c (recO c qn)) f v b = some o := fun {b o} e n => by
  rw [upd_ne (ne_of_none e Hf), upd_ne (ne_of_none e Hc), upd_ne n]; exact e
 by_cases z : Q.1 = P
 · have qe := one Q hQ z
   rw [z, hP] at e
   cases e
   refine ⟨ps ++ #[rawInt pos.line, rawInt pos.col, .ref c], by rw [z, upd_ne (ne_of_none hP Hf), upd_ne (ne_of_none hP Hc), upd_same], ?_, fun pos' cv q => ?_⟩
   · rw [Array.toList_append]; exact TriplesOk_snoc _ _ _ _ tr
   · rw [Array.toList_append] at q
     rcases among_app _ tr q with q | q
     · obtain ⟨c', rfl, hc'⟩ := kq pos' cv q
       exact ⟨c', rfl, ne hc' (ne_of hc' hP (by intro z; cases z))⟩
     · exact ⟨c, q, by rw [upd_ne cf, upd_same, qe]⟩
 · refine ⟨qs, ne e z, tr, fun pos' cv q => ?_⟩
   obtain ⟨c', rfl, hc'⟩ := kq pos' cv q
   exact ⟨c', rfl, ne hc' (ne_of hc' hP (by intro z; cases z))⟩
def BmB (mg : Str -> Option Value) (base : Heap) : Prop := ∃ bm o, mg "__builtins__" = some (.ref bm) ∧ base.get? bm = some o ∧ bm ≠ builtinsNs ∧ bm ≠ mainGlobals ∧ o.cls = .type "module" ∧ o.dict = some builtinsNs ∧ o.data = .plain
structure LamCx (X : Cx) (c P : Addr) (qn : Str) : Prop where
 code : X.env.code = .ref c
 hd : PySem.W.codeHdIn X.K c P = true
 tab : (P, qn) ∈ Tabs.T
 one : ∀ q ∈ Tabs.T, q.1 = P -> q.2 = qn
 qual : X.env.qual ++ ("<lambda>" : Str) = qn
 bm : BmB X.mg X.base
 gP : mainGlobals ≠ P
variable {A : Around} {E : Value -> Shared -> Prop} {params : Arguments} {body : Expr} {scope : Scope} {lpos : Pos} {clos : List (Str × Addr)} {qn : Str}
abbrev lamO (f : Addr) (qn : Str) (params : Arguments) (body : Expr) (scope : Scope) (clos : List (Str × Addr)) (pm : Value) (c : Addr) (ctv : Value) : HO := .ext fun h => h.get? f = some (PySem.W.kla_obj "<lambda>" qn params body scope clos pm c ctv)
theorem lam_eval (LC : LamCx X c P qn) (I : Inv X pins σ H s) (t : TabsOk H) (hdef : defaultsOf params X.env = ([], [])) (hcl : closureFor scope X.env = pure clos) {Q : Value -> Shared -> Prop}
 (h : ∀ f c' pm ctv H' s', Inv X pins σ H' s' -> Same H H' -> H f = none -> H' f = some (lamO f qn params body scope clos pm c' ctv) -> H' c' = some (recO c' qn) -> Q (.ref f) s') :
 wpAny (model X.prog X.w) A (eval (.Lambda params body scope lpos) X.env) Q E s := by
 obtain ⟨ps, hP, tr, kq⟩ := t _ LC.tab
 dsimp only at hP kq
 have hPo : s.heap.get? P = some { cls := .none, data := .fields ps } := I.hok P _ hP
 have hg : s.heap.Ns mainGlobals X.mg := I.ok.mod.glob.keeps I.bk
 have C : PySem.W.CodeHd s.heap c P := PySem.W.codeHd_of_K I.kIn LC.hd
 obtain ⟨bm, ob, b1, b2, b3, b4, b6, b7, b8⟩ := LC.bm
 have b5 : bm ≠ P := fun z => by
  have e := I.bk _ _ b2
  rw [z, hPo] at e
  cases e
  cases b6
 have hB : s.heap.BuiltinsAt X.mg P := ⟨bm, ob, b1, b3, b4, b5, I.bk _ _ b2, b6, b7, b8⟩
 refine PySem.W.kla_eval hdef ?_
 rw [LC.qual]
 cases hq : codeAmong lpos ps.toList with
 | none =>
  refine PySem.W.kla_makeFunction hcl I.ok.glob hg LC.code C hPo tr hq LC.gP hB fun c' ctv h' tk hx hge hlt hrec htb => ?_
  have hle : s.heap.objs.size <= h'.objs.size := Nat.le_trans hge (Nat.le_of_lt hlt)
  have cf : c' ≠ h'.objs.size := Nat.ne_of_lt hlt
  have Hc : H c' = none := I.hok.fresh hge
  have Hf : H h'.objs.size = none := I.hok.fresh hle
  have Pc : P ≠ c' := ne_of_none hP Hc
  have Pf : P ≠ h'.objs.size := ne_of_none hP Hf
  obtain ⟨c2, oc, vs, tq, e2, hoc, hdc⟩ := id hrec
  cases e2
  have I2 := inv_lam (t' := tk) (u := recO c' qn) (v := lamO h'.objs.size qn params body scope clos ((X.mg "__name__").getD .none) c' ctv) (h' := h'.push (PySem.W.kla_obj "<lambda>" qn params body scope clos ((X.mg "__name__").getD .none) c' ctv)) (f := h'.objs.size) I hP
   (fun b o nb e => Heap.get?_push_of_some _ (hx b o nb e)) (Heap.get?_push_of_some _ htb) hge hle cf
   ⟨hrec.push _, ⟨_, Heap.get?_push_of_some _ hoc⟩, fun g1 g2 z k => by
    obtain ⟨c3, o3, vs3, t3, e3, h3, r3⟩ := z
    cases e3
    exact ⟨c', o3, vs3, t3, rfl, k _ h3, r3⟩⟩
   ⟨Heap.get?_push_size _ rfl, ⟨_, Heap.get?_push_size _ rfl⟩, fun g1 g2 z k => k _ z⟩
  refine h h'.objs.size c' _ ctv _ _ I2 ⟨fun b o e n => ?_, fun b qs e => ?_, fun t => tabs_lam t LC.tab LC.one hP hq Hc Hf cf⟩ Hf upd_same (by rw [upd_ne cf, upd_same])
  · have nP : b ≠ P := fun z => by rw [z, hP] at e; cases e; cases n
    rw [upd_ne (ne_of_none e Hf), upd_ne (ne_of_none e Hc), upd_ne nP]; exact e
  · by_cases z : b = P
    · exact ⟨_, by rw [z, upd_ne Pf, upd_ne Pc, upd_same]⟩
    · exact ⟨qs, by rw [upd_ne (ne_of_none e Hf), upd_ne (ne_of_none e Hc), upd_ne z]; exact e⟩
 | some cv =>
  obtain ⟨c', rfl, hc'⟩ := kq lpos cv hq
  refine PySem.W.kla_makeFunctionHit hcl I.ok.glob hg LC.code C hPo tr hq hB fun ctv h' tk hk hsz => ?_
  have Hf : H h'.objs.size = none := I.hok.fresh hsz
  have I2 : Inv X pins σ (upd H h'.objs.size (lamO h'.objs.size qn params body scope clos ((X.mg "__name__").getD .none) c' ctv)) { s with heap := h'.push (PySem.W.kla_obj "<lambda>" qn params body scope clos ((X.mg "__name__").getD .none) c' ctv), toks := tk } :=
   I.laid (fun b o e => Heap.get?_push_of_some _ (hk b o e)) hsz ⟨Heap.get?_push_size _ rfl, ⟨_, Heap.get?_push_size _ rfl⟩, fun g1 g2 z k => k _ z⟩
  exact h h'.objs.size c' _ ctv _ _ I2 (same_new Hf) Hf upd_same ((same_new Hf).at hc')
end
def cxLam (X : Cx) (A : Around) (N : List Str) (qn : Str) (scope : Scope) (clos : List (Str × Addr)) (f c : Addr) (s : Shared) (H : Hp) (R : Result -> Shared -> Prop) : Cx where
 prog := X.prog
 w := X.w
 K := X.K
 mg := X.mg
 base := X.base
 A := A.deeper (PySem.W.envX qn scope s.heap.objs.size f (.ref c) clos)
 N := N
 s₀ := s
 H₀ := H
 env := PySem.W.envX qn scope s.heap.objs.size f (.ref c) clos
 outer := X.stack
 stack := PySem.W.envX qn scope s.heap.objs.size f (.ref c) clos :: X.stack
 ex := []
 calm := true
 fn := fun _ => false
 pn := []
 xe := fun e s' => wpAny (model X.prog X.w) (A.deeper (PySem.W.envX qn scope s.heap.objs.size f (.ref c) clos)) (leaving (PySem.W.envX qn scope s.heap.objs.size f (.ref c) clos) e) (fun _ s'' => R (.error e) s'') (fun e' s'' => R (.error e') s'') s'
structure LamOk (X : Cx) (scope : Scope) (clos : List (Str × Addr)) (p : Str) (caps : List (Str × Nat)) : Prop where
 kind : scope.kind = .function
 co : scope.isCoroutine = false
 gen : scope.isGenerator = false
 nocell : ∀ x ∈ scope.names, x.2 ≠ .cell
 par : scope.names.lookup p = some .local
 cap : ∀ q ∈ caps, X.N[q.2]? = some q.1 ∧ X.env.kindOf q.1 = some .cell ∧ clos.lookup q.1 = X.env.cells.lookup q.1 ∧ scope.names.lookup q.1 = some .free
 sub : ∀ x c, clos.lookup x = some c -> X.env.cells.lookup x = some c
 has : ∀ x, scope.names.lookup x = some .free -> ∃ c, clos.lookup x = some c
section
variable {X : Cx} {pins : List (Addr × Obj)} {σ : St} {H : Hp} {s : Shared} {f c : Addr} {A : Around} {scope : Scope} {clos : List (Str × Addr)} {p qn : Str} {caps : List (Str × Nat)}
theorem inv_lamStart (I : Inv X pins σ H s) (L : LamOk X scope clos p caps) (hd : A.handled = none) (e0 : Env0 X.prog X.w X.K X.mg X.base A X.stack s H) {u : Value} {v : V} (r : RelV v u) {h1 : Heap} {tk : Nat} {R : Result -> Shared -> Prop}
 (hns : h1.Ns s.heap.objs.size fun x => [(p, u)].reverse.lookup x) (hk : ∀ b o, s.heap.get? b = some o -> h1.get? b = some o) :
 Inv (cxLam X A (p :: caps.map (·.1)) qn scope clos f c s H R) [] ([some v] ++ capsOf (caps.map (·.2)) σ) H { s with heap := h1, toks := tk } := by
 have noA : ∀ b : Addr, b ∉ (cxLam X A (p :: caps.map (·.1)) qn scope clos f c s H R).ex := fun b z => absurd (show b ∈ ([] : List Addr) from z) (by simp)
 refine ⟨⟨e0.mod, L.kind, rfl, rfl, Nat.le_refl _, fun y z c' h1 h2 => ?_, fun y hy => ?_, fun y c' z _ => ?_, fun _ => hd, Around.frames_deeper e0.frames, .inr ⟨rfl, rfl⟩, fun b z => absurd z (noA b), e0.bs, e0.bsz, fun b _ _ => noA b, fun b z => absurd z (noA b), e0.funs, e0.frf⟩,
  rfl, e0.bare, Un.kept hk, ⟨_, hns, fun i y v' h1 h2 h3 => ?_⟩, fun y c' h => ?_, e0.hok.fresh (Nat.le_refl _), fun y c' h => ?_, fun p hp => absurd (show p ∈ ([] : List (Addr × Obj)) from hp) (by simp), e0.hok.kept hk, ?_⟩
 · exact I.ok.inj y z c' (L.sub y c' h1) (L.sub z c' h2)
 · have hy : scope.names.lookup y = some .cell ∨ scope.names.lookup y = some .free := hy
   rcases hy with hy | hy
   · exact absurd rfl (L.nocell _ (PySem.mem_of_lookup hy))
   · exact L.has y hy
 · exact absurd (show false = true from z) (by simp)
 · cases i with
   | zero =>
    have e1 : p = y := by simpa [cxLam] using h1
    have e2 : v = v' := by simpa using h2
    subst e1 e2
    exact ⟨u, r, .inl ⟨L.par, by simp⟩⟩
   | succ i =>
    have e1 : (caps.map (·.1))[i]? = some y := by simpa [cxLam] using h1
    have e2 : (capsOf (caps.map (·.2)) σ)[i]? = some (some v') := by simpa using h2
    rw [List.getElem?_map] at e1
    cases eq : caps[i]? with
    | none => rw [eq] at e1; cases e1
    | some q =>
     rw [eq] at e1
     have e3 : q.1 = y := by simpa using e1
     subst e3
     obtain ⟨c1, c2, c3, c4⟩ := L.cap q (List.mem_of_getElem? eq)
     unfold capsOf at e2
     rw [List.getElem?_map, List.getElem?_map, eq] at e2
     have e4 : (σ[q.2]?).join = some v' := by simpa using e2
     have e5 : σ[q.2]? = some (some v') := by
      cases z : σ[q.2]? with
      | none => rw [z] at e4; cases e4
      | some w => rw [z] at e4; exact congrArg some e4
     obtain ⟨m0, hn0, hl0⟩ := I.loc
     obtain ⟨u', r', lk⟩ := hl0 q.2 q.1 v' c1 e5 (.inr (.inl c2))
     refine ⟨u', r', .inr ⟨.inr c4, ?_⟩⟩
     rcases lk with ⟨k1, _⟩ | ⟨_, c', lc, o, ho, hdo⟩
     · rw [c2] at k1; cases k1
     · exact ⟨c', c3.trans lc, o, hk _ _ ho, hdo⟩
 · obtain ⟨v, o, ho, hd⟩ := I.cell y c' (L.sub y c' h)
   exact ⟨v, o, hk _ _ ho, hd⟩
 · exact I.freeC y c' (L.sub y c' h)
 · simp [capsOf, cxLam]
def LamIn (K : PySem.W.Frag) (σ : St) (ρ : List (Option D)) (f c : Addr) (qn : Str) (params : Arguments) (body : Expr) (scope : Scope) (clos : List (Str × Addr)) (pm ctv : Value) (H : Hp) (Z : Zone) : Prop :=
 H f = some (lamO f qn params body scope clos pm c ctv) ∧ H c = some (recO c qn) ∧ EnvIn K H Z σ ρ
variable {ρ : List (Option D)} {params : Arguments} {body : Expr} {pm ctv : Value} {g : D -> D} {P0 : D -> Prop} {m : Bool}
theorem lam_keys (L : LamOk X scope clos p caps) (hd : A.handled = none) (hA : A.frames = X.A.frames) (hroom : A.depth < recursionLimit)
 (hb : ∀ u, bindArgs (PySem.W.kla_fn "<lambda>" qn params body scope clos pm (.ref c) ctv) ⟨[u], []⟩ = pure [(p, u)])
 (hbody : ∀ (s : Shared) (H : Hp) (R : Result -> Shared -> Prop) (d : D), P0 d -> E (cxLam X A (p :: caps.map (·.1)) qn scope clos f c s H R) m ([some d] ++ capD (caps.map (·.2)) ρ) body (g d)) :
 Keys X A σ f g P0 (LamIn X.K σ ρ f c qn params body scope clos pm ctv) where
 zone := fun {H Z Z'} hS hm ⟨a, b, en⟩ => ⟨a, b, fun i d e => let ⟨v, x, y⟩ := en i d e; ⟨v, x, y.carry (.of (Same.refl H) (fun a xs e z => hS a _ e z) hm)⟩⟩
 same := fun {H H' Z} sm ⟨a, b, en⟩ => ⟨sm.at a, sm.at b, en.same sm⟩
 write := fun {H Z l xs ys} hl n ⟨a, b, en⟩ => ⟨by rw [upd_ne (ne_of a hl (by intro z; cases z))]; exact a, by rw [upd_ne (ne_of b hl (by intro z; cases z))]; exact b, fun i d e => let ⟨v, x, y⟩ := en i d e; ⟨v, x, y.carry (.write hl n)⟩⟩
 run := fun E' pins s H Z u d Q I oz ⟨ga, gb, en⟩ ⟨v, r, iv⟩ p0 k => by
  have hfo : s.heap.get? f = some (PySem.W.kla_obj "<lambda>" qn params body scope clos pm c ctv) := (I.hok f _ ga).1
  have hrec : s.heap.CodeRec (.ref c) qn := (I.hok c _ gb).1
  have e0 : Env0 X.prog X.w X.K X.mg X.base A X.stack s H := ⟨hA.trans I.env0.frames, I.env0.mod, I.env0.bs, I.env0.bsz, I.env0.funs, I.env0.frf, I.env0.hok, I.env0.bare⟩
  refine wpAny_call (PySem.W.kla_callFunE hroom hfo rfl L.co L.gen rfl hrec ?_)
  rw [hb u]
  refine wpAny_pure (wpAny_newFunctionEnv L.nocell (fun x hx => ?_) (fun h1 hns hsb => ⟨I.nolimit.fresh _ hsb, ?_⟩) L.kind)
  · have : x = (p, u) := by simpa using hx
    rw [this]; exact L.par
  · show codeAny _ _ (.expr body (PySem.W.envX qn scope s.heap.objs.size f (.ref c) clos)) _ _
    have hk1 : ∀ b o, s.heap.get? b = some o -> h1.get? b = some o := fun b o e => hsb.extBut b o (Nat.ne_of_lt (Heap.lt_size e)) (Heap.get?_push_of_some _ e)
    refine PySem.W.kla_codeExpr ?_
    have J := inv_lamStart (f := f) (c := c) (qn := qn) (R := fun r s' => match r with | .ok (.ret v) => Q v s' | .ok _ => False | .error e => E' e s') (tk := s.toks + 1) I L hd e0 r hns hk1
    have en2 : EnvIn X.K H Z ([some v] ++ capsOf (caps.map (·.2)) σ) ([some d] ++ capD (caps.map (·.2)) ρ) := envIn_caps en rfl fun i d' e => by
     match i, e with
     | 0, e => cases e; exact ⟨v, rfl, iv⟩
    have run := hbody s H (fun r s' => match r with | .ok (.ret v) => Q v s' | .ok _ => False | .error e => E' e s') d p0 [] _ _ H (fun v' H' => Same H H' ∧ In X.K H' (out m Z H) (g d) v') J ⟨Z, oz, en2, fun v' H' sm i => ⟨sm, i⟩⟩
    refine wpAny_mono run (fun w s' ⟨v', H', J', rw', sm, iw⟩ => ?_) fun _ _ z => z
    obtain ⟨v2, H2, I2, r2, sm2, iw2⟩ := I.after (Q := fun v' H' => Same H H' ∧ In X.K H' (out m Z H) (g d) v') (u := w) (s' := s') ⟨v', H', J'.os, J'.bare, J'.base, J'.hok, rw', sm, iw⟩
    exact k w H2 s' I2 sm2 ⟨v2, r2, iw2.plain oz⟩
end
theorem args_sortedK (a f : Value) : argsOk "sorted" ⟨[a], [(("key" : Str), f)]⟩ := by unfold argsOk; kernel_rfl
theorem args_sortK (a f : Value) : argsOk "list.sort" ⟨[a], [(("key" : Str), f)]⟩ := by unfold argsOk; kernel_rfl
section
variable {X : Cx} {ρ : List (Option D)} {m m1 mb : Bool} {a : Expr} {ds : List D} {p pos lpos kp : Pos} {P P0 : D -> Prop} {kd : SortKind} {c Pt : Addr} {qn pn : Str} {params : Arguments} {body : Expr} {scope : Scope} {clos : List (Str × Addr)} {caps : List (Str × Nat)} {g : D -> D}
theorem e_sortedK (ha : E X m1 ρ a (.lst ds)) (LC : LamCx X c Pt qn) (LO : LamOk X scope clos pn caps) (hcl : closureFor scope X.env = pure clos)
 (hbody : ∀ (f c' : Addr) (s : Shared) (H : Hp) (R : Result -> Shared -> Prop) (d : D), P0 d -> E (cxLam X X.A.in1.in1 (pn :: caps.map (·.1)) qn scope clos f c' s H R) mb ([some d] ++ capD (caps.map (·.2)) ρ) body (g d))
 (hb : ∀ (c' : Addr) (pm ctv u : Value), bindArgs (PySem.W.kla_fn "<lambda>" qn params body scope clos pm (.ref c') ctv) ⟨[u], []⟩ = pure [(pn, u)])
 (L : Lin P) (kk : KindOf P kd) (hP : ∀ d ∈ ds, P0 d ∧ P (g d) ∧ X.A.units + 2 + (g d).dep < cLine) (inj : ∀ x ∈ ds, ∀ y ∈ ds, g x = g y -> x = y) (h64 : ds.length < 64) (hh : X.A.handled = none) (hroom : X.A.depth < recursionLimit) (hm : X.mg "sorted" = none)
 (hmm : m = true -> m1 = true ∨ flats ds = true := by intro h; first | exact .inl h | cases h) (hdef : defaultsOf params X.env = ([], []) := by rfl)
 (hg : Gl X "sorted" := by rfl) (hs : starEach [a] X.env = [(false, eval a X.env)] := by rfl) : E X m ρ (.Call (.Name "sorted" p) [a] [⟨some "key", .Lambda params body scope lpos, kp⟩] pos) (.lst (srt g ds)) := by
 intro pins s σ H Q I ⟨Z, oz, en, k⟩
 refine wpAny_Call_Name_kw (ld_blt I hg hm PyProof.Rows.boot_sorted ?_ (by decide) (by decide))
 have PAa := pa_cons ha pa_nil (by rw [hs]; rfl)
 refine callWith_kw (thn (PAa pos pins s σ H (fun vs H1 => Same H H1 ∧ ∃ x, vs = [x] ∧ In X.K H1 (out m1 Z H) (.lst ds) x) I ⟨Z, oz, en, fun x H1 s1 i1 => ⟨s1, x, rfl, i1⟩⟩) fun us s1 ⟨vs, H1, I1, r1, sm1, x, e, i1⟩ => ?_) (by rw [hs]; rfl) (by rw [hs]; rfl) rfl rfl
 subst e
 obtain ⟨l, xs, rfl, at', j⟩ := in_lst.mp i1
 obtain ⟨u, rfl, rx⟩ := vals1 r1
 cases rx
 refine kws_cons (lam_eval LC I1 (sm1.tabs oz.tb) hdef hcl fun f c' pm ctv H2 s2 I2 sm2 Hf hf hc' => ?_)
 refine kws_nil ?_
 show wpAny _ _ (call (.builtin "sorted") [.ref l] [(("key" : Str), .ref f)]) _ _ _
 have sm12 := sm1.trans sm2
 obtain ⟨its, rv, pl, hz⟩ := I2.list (sm2.seq at'.sq)
 have z1 := j.length; have z2 := rv.length
 refine call_function_entry_kw kind_sorted plain_sorted entry_sorted (args_sortedK _ _) ?_
 unfold Builtin.«sorted»
 refine wpAny_bind (m := checkCount "sorted" 1 1 _) (wpAny_pure ?_)
 refine wpAny_bind (collect_list pl.isList ?_ (by omega))
 refine wpAny_bind (wpAny_newList ?_)
 have hsz : ((s2.heap.push (seqObj "list" #[] 0)).update s2.heap.objs.size (Obj.mapSeq (· ++ its.toArray))).objs.size = s2.heap.objs.size + 1 := by
  rw [Heap.size_update, size_push']
 have hoL : (((s2.heap.push (seqObj "list" #[] 0)).update s2.heap.objs.size (Obj.mapSeq (· ++ its.toArray))).push (seqObj "list" its.toArray 0)).get? (s2.heap.objs.size + 1) = some (seqObj "list" its.toArray 0) := by
  rw [<- hsz]; exact Heap.get?_push_size _ rfl
 have kp : ∀ b o, s2.heap.get? b = some o -> (((s2.heap.push (seqObj "list" #[] 0)).update s2.heap.objs.size (Obj.mapSeq (· ++ its.toArray))).push (seqObj "list" its.toArray 0)).get? b = some o := fun b o e => by
  have lb := Heap.lt_size e
  rw [Heap.get?_push_ne _ _ _ (by rw [hsz]; exact Nat.ne_of_lt (Nat.lt_succ_of_lt lb)), Heap.get?_update_ne _ _ _ _ (Nat.ne_of_lt lb), Heap.get?_push_ne _ _ _ (Nat.ne_of_lt lb)]
  exact e
 show wpAny _ _ _ _ _ { s2 with heap := ((s2.heap.push (seqObj "list" #[] 0)).update s2.heap.objs.size (Obj.mapSeq (· ++ its.toArray))).push (seqObj "list" its.toArray 0), toks := s2.toks }
 rw [hsz]
 have KK : Keys X X.A.in1.in1 σ f g P0 (LamIn X.K σ ρ f c' qn params body scope clos pm ctv) := lam_keys LO hh rfl hroom (hb c' pm ctv) (hbody f c')
 have jz : Ins X.K H2 Z ds xs := by
  have j2 := j.same sm2
  cases m1
  · exact j2
  · exact j2.up oz
 refine wpAny_bind (wpAny_holding (wpAny_call_entry_kw slot_list_sort ⟨_, hoL, rfl⟩ entry_list_sort (sort_key (s := s2) (t1 := s2.toks) KK L kk (fun d hd => hP d hd) inj I2 (oz.same sm12) ⟨hf, hc', en.same sm12⟩ jz rv (by omega) kp (Nat.le_succ _) hoL fun H3 s3 prs I3 sm3 Ha hl3 pp e3 => ⟨_, rfl, ?_⟩) (args_sortK _ _)))
 refine wpAny_pure ⟨_, rfl, .ref (s2.heap.objs.size + 1), H3, I3, rfl, k _ H3 (sm12.trans sm3) (in_lst.mpr ⟨_, _, rfl, .inl ⟨hl3, ?_⟩, ?_⟩)⟩
 · cases m
   · exact oz.op _ (sm12.free Ha)
   · exact sm12.free Ha
 · have j0 := ins_of_mem fun z hz => ins_zip j z (pp.mem_iff.mp hz)
   rw [e3] at j0
   have jc := (j0.same sm2).same sm3
   cases m
   · cases m1
     · exact jc
     · exact jc.up oz
   · rcases hmm rfl with h | h
     · subst h; exact jc
     · exact jc.flat' (flats_perm (srt_perm _ _) h)
end
end Y
namespace Y
open PySem PySem.Spec PyProof.Rows L2
variable [Tabs]
end Y
namespace Y
def bl (x : Nat) : Nat := if x = 0 then 0 else x.log2 + 1
end Y
namespace Y
open PySem PySem.Spec PyProof.Rows L2
variable [Tabs]
def up2 {α : Type} (z : α) (p : D -> D -> α) : D -> α
 | .tup [a, b] => p a b
 | _ => z
inductive Pt where
 | word (w : Str)
 | beg (w : Str)
 | fin (w : Str)
 | any
 | upto (n : Nat)
 | inn (q : List (List Pt))
def qpartW (ways uptos : Int) (ws : List Str) (c : Int) : Pt :=
 if part c 30 ways = 0 then .any else if part c 30 ways = 1 then .upto (part c 31 uptos).toNat else
  let z := ws.getD (part c 32 4).toNat ""
  let n := 1 + part c 33 z.length
  if part c 30 ways = 2 then .beg (Txt.slice z none (some n)) else if part c 30 ways = 3 then .fin (Txt.slice z (some ((z.length : Int) - n)) none) else .word z
abbrev pp (ws : List Str) (c : Int) : Pt := qpartW 6 4 ws c
end Y
namespace L2
open PySem PySem.Spec PyProof.Rows
end L2
namespace Y
open PySem PySem.Spec PyProof.Rows L2
variable [Tabs]
def behind (f g : List (Nat × Nat)) : List (Nat × Nat) := f.flatMap fun s => (g.filter fun t => decide (t.1 = s.2)).map fun t => (s.1, t.2)
end Y
namespace Y
open PySem PySem.Spec PyProof.Rows L2
end Y
namespace Y
open PySem PySem.Spec PyProof.Rows L2
variable [Tabs]
end Y
namespace Y
open PySem PySem.Spec PyProof.Rows L2 PySem.SeqAt
variable [Tabs]
theorem vals2 {a b : V} {u v : Value} (h1 : RelV a u) (h2 : RelV b v) : Vals [a, b] [u, v] := .cons h1 (.cons h2 .nil)
section
variable {X : Cx} {pins : List (Addr × Obj)} {σ : St} {H : Hp} {s : Shared} {Z : Zone} {A : Around} {P : D -> Prop} {kd : SortKind} {E : Value -> Shared -> Prop} {a : Addr}
theorem sort_plain (L : Lin P) (kk : KindOf P kd) {ds : List D} {xs : List V} {us : List Value} (hP : ∀ d ∈ ds, P d ∧ A.units + d.dep < cLine) (I : Inv X pins σ H s) (j : Ins X.K H Z ds xs) (rv : Vals xs us) (h64 : us.length < 64) {h1 : Heap} {t1 n : Nat}
 (k1 : ∀ b o, s.heap.get? b = some o -> h1.get? b = some o) (la : s.heap.objs.size <= a) (ho : h1.get? a = some (seqObj "list" us.toArray n)) {R : Fin -> Shared -> Prop}
 (fin : ∀ s' (prs : List (V × D)), Inv X pins σ (upd H a (.lst (prs.map (·.1)))) s' -> prs.Perm (xs.zip ds) -> prs.map (·.2) = srt id ds -> R (.done (.ret .none)) s') :
 wpAny (model X.prog X.w) A (Builtin.«list.sort» ⟨[.ref a], []⟩) R E { s with heap := h1, toks := t1 } := by
 have z1 := j.length; have z2 := rv.length
 have nn : ∀ b o, s.heap.get? b = some o -> b ≠ a := fun b o e => Nat.ne_of_lt (Nat.lt_of_lt_of_le (Heap.lt_size e) la)
 have el : ∀ u ∈ us, ∃ d, P d ∧ Tells X.K H Z u d ∧ A.units + d.dep < cLine := fun u hu => by
  obtain ⟨i, hi, e⟩ := List.mem_iff_getElem.mp hu
  have hd : i < ds.length := by omega
  obtain ⟨v, ev, iv⟩ := j.get (i := i) (d := ds[i]) (by simp [hd])
  obtain ⟨u', eu, ru⟩ := rv.get ev
  obtain rfl : u' = u := by rw [<- (List.getElem?_eq_some_iff.mp eu).2]; exact e
  exact ⟨ds[i], (hP _ (List.getElem_mem hd)).1, ⟨v, ru, iv⟩, (hP _ (List.getElem_mem hd)).2⟩
 have old : ∀ (h' : Heap), (∀ b o, b ≠ a -> h1.get? b = some o -> h'.get? b = some o) -> Inv X pins σ H { s with heap := h', toks := t1 } := fun h' k => I.kept fun b o e => k b o (nn b o e) (k1 b o e)
 have lay : ∀ (prs : List (V × D)) (out : Array Value), prs.Perm (xs.zip ds) -> Vals (prs.map (·.1)) out.toList -> prs.map (·.2) = srt id ds -> R (.done (.ret .none)) { s with heap := sortedHeap h1 a us out, toks := t1 } := fun prs out pp vv e => by
  obtain ⟨m, hm⟩ := sortedHeap_at (out := out) ho
  have hl : (prs.map (·.1)).length <= sizeLine := by
   rw [List.length_map, pp.length_eq, List.length_zip]; exact smallL (by omega)
  exact fin _ prs (I.laid (t' := t1) (fun b o e => by rw [sortedHeap_old (nn b o e) (Heap.lt_size (k1 b o e))]; exact k1 b o e) la (show ObjOk X.prog X.w _ _ _ (.lst (prs.map (·.1))) from ⟨hl, out.toList, m, vv, by simpa using hm⟩)) pp e
 have pr := pairs_data rv j
 rw [<- pairsOf_toList] at pr
 by_cases emp : us = []
 · subst emp
   have y0 : xs = [] := List.length_eq_zero_iff.mp (z2.trans rfl)
   have d0 : ds = [] := List.length_eq_zero_iff.mp (z1.trans (z2.trans rfl))
   subst y0 d0
   refine sort_at (s := { s with heap := h1, toks := t1 }) (kd := kd) (κ := strKind) ho (by simp) (fun s' Q' _ ne _ => absurd rfl ne) (fun s' _ st i jj Q' hB hi => absurd hi (by simp [pairsOf])) fun t pm _ => ?_
   have t0 : t = #[] := by
    have e := pm.size_eq
    simp [pairsOf] at e
    exact e
   exact lay [] _ (.refl _) (by rw [t0]; simp; exact .nil) (by simp [srt])
 · obtain ⟨u0, hu0⟩ := List.exists_mem_of_ne_nil us emp
   obtain ⟨dd, pd, _, _⟩ := el u0 hu0
   refine sort_at (s := { s with heap := h1, toks := t1 }) (kd := kd) (κ := kap X.K H Z P L ⟨dd, pd⟩) ho h64 (fun h' Q' kp' ne q' => ?_) (fun h' kp' => ?_) fun t pm up => ?_
   · exact kind_ok (s := { s with heap := h', toks := t1 }) kk (old h' kp') (fun u hu => let ⟨d, a, b, _⟩ := el u hu; ⟨d, a, b⟩) ne q'
   · refine asks_ok (s := { s with heap := h', toks := t1 }) kk L (old h' kp') (fun p hp => ?_)
     rw [pairsOf_toList] at hp
     exact el p.1 (List.of_mem_zip hp).1
   · obtain ⟨prs, pp, vv, pw⟩ := sort_out (f := id) I L pr (fun q hq => (hP _ (List.of_mem_zip hq).2).1) pm up
     have e2 : (xs.zip ds).map (·.2) = ds := by rw [List.map_snd_zip]; omega
     exact lay prs _ pp vv (srt_one L (f := id) (fun d hd => (hP d hd).1) (fun a _ b _ e => e) (by rw [<- e2]; exact pp.map _) pw)
end
end Y
namespace Y
open PySem PySem.Spec PyProof.Rows L2
abbrev told (w : World) : Bool := w.params.followText "set-order"
theorem lay_led (t : SetTable) (es : Array (Int × Value)) (h : Int) (x : Value) : (layNew t es h x).2.1.led = t.led := by
 unfold layNew
 cases t.freeSlot h with
 | none => rfl
 | some p =>
  show ((t.put p.1).1.orStandIn _).led = _
  unfold SetTable.orStandIn
  split <;> rfl
theorem relay_led (t : SetTable) (es : Array (Int × Value)) (n : Nat) : (relayAll t es n).2.1.led = t.led ∧ (t.plain = false -> (relayAll t es n).2.1.plain = false) := by
 unfold relayAll
 cases hr : t.relaid (es.map (·.1)) n with
 | none => exact ⟨rfl, fun _ => rfl⟩
 | some q =>
  have : q.1.led = t.led ∧ q.1.plain = t.plain := by
   unfold SetTable.relaid SetTable.laid at hr
   cases hc : SetTable.layClean (SetTable.sizeAbove n - 1) (es.map (·.1)) with
   | none => rw [hc] at hr; cases hr
   | some ow => rw [hc] at hr; cases hr; exact ⟨rfl, rfl⟩
  show (if _ then _ else _ : Array (Int × Value) × SetTable × Bool).2.1.led = _ ∧ _
  dsimp only
  split
  · exact ⟨this.1, fun h => this.2.trans h⟩
  · exact ⟨rfl, fun _ => rfl⟩
def txt (v : Value) : Str := match v with
 | .str x _ => x
 | _ => ""
def TxE (w : World) (e : Int × Value) : Prop := ∃ x t, e = (hashStr w x, .str x t)
structure TxS (w : World) (h : Heap) (a : Addr) (es : Array (Int × Value)) (ep : Nat) (t : SetTable) : Prop where
 at' : h.get? a = some { cls := .type "set", dict := none, data := .set es ep t, slots := #[] }
 el : ∀ e ∈ es.toList, TxE w e
 fit : t.fits es.size = true
 led : told w = false -> t.led = true
 pl : es.size ≠ 0 -> t.plain = false
theorem TxS.elems {prog : Program} {w : World} {h : Heap} {a : Addr} {es : Array (Int × Value)} {ep : Nat} {t : SetTable} (T : TxS w h a es ep t) : ElemsOf (PySem.strKind prog w) es.toList := fun e he => by
 obtain ⟨x, t, rfl⟩ := T.el e he
 exact ⟨⟨x, show Value.isStrOf x (.str x t) = true by simp [Value.isStrOf], rfl⟩, rfl⟩
def txts (es : Array (Int × Value)) : List Str := es.toList.map fun e => txt e.2
section
variable {prog : Program} {w : World} {A : Around} {E : Value -> Shared -> Prop} {s : Shared} {a : Addr} {es : Array (Int × Value)} {ep : Nat} {t : SetTable} {x : Str} {tk : Tok}
theorem tx_is {k x : Str} {t : Tok} : (PySem.strKind prog w).is k (.str x t) = decide (k = x) := by
 by_cases h : k = x
 · subst h; rw [decide_eq_true rfl]; show Value.isStrOf k (.str k t) = true; simp [Value.isStrOf]
 · rw [decide_eq_false h]
   cases e : (PySem.strKind prog w).is k (.str x t) with
   | false => rfl
   | true =>
    obtain ⟨t', h'⟩ := Value.isStrOf_shape (show Value.isStrOf k (.str x t) = true from e)
    cases h'
    exact absurd rfl h
theorem set_put {es1 : Array (Int × Value)} {t1 : SetTable} {Q : Unit -> Shared -> Prop} (at' : s.heap.get? a = some { cls := .type "set", dict := none, data := .set es ep t, slots := #[] }) (hb : es1.size < scanBound)
 (q : Q () { s with heap := s.heap.update a (Obj.putSet es1 t1) }) : wpAny (model prog w) A (storeSet a es1 t1) Q E s := wpAny_storeSet_of at' rfl q (fits_of_scanBound hb)
theorem set_put_at {h : Heap} {es1 : Array (Int × Value)} {t1 : SetTable} (at' : h.get? a = some { cls := .type "set", dict := none, data := .set es ep t, slots := #[] }) :
 (h.update a (Obj.putSet es1 t1)).get? a = some { cls := .type "set", dict := none, data := .set es1 (ep + 1) t1, slots := #[] } := Heap.get?_update_self (Obj.putSet es1 t1) at' rfl
theorem set_tail {g : Bool -> Sem Unit} (hg : ∀ (b : Bool) (s : Shared) (Q : Unit -> Shared -> Prop), Q () s -> wpAny (model prog w) A (g b) Q E s) {es1 : Array (Int × Value)} {t2 : SetTable} {wd : Bool} {R : Option Bool -> Shared -> Prop}
 (at' : s.heap.get? a = some { cls := .type "set", dict := none, data := .set es ep t, slots := #[] }) (el : ∀ e ∈ es1.toList, TxE w e) (f2 : t2.fits es1.size = true) (l2 : told w = false -> t2.led = true) (p2 : t2.plain = false) (hb : es1.size < scanBound)
 (q : ∀ h' es' ep' t', Heap.SameBut a s.heap h' -> TxS w h' a es' ep' t' -> es'.toList.Perm es1.toList -> R (some true) { s with heap := h' }) :
 wpAny (model prog w) A (storeSet a es1 t2 >>= fun _ => if (!wd && t2.tooFull) = true then (g (relayAll t2 es1 (SetTable.grown es1.size)).2.2 >>= fun _ => storeSet a (relayAll t2 es1 (SetTable.grown es1.size)).1 (relayAll t2 es1 (SetTable.grown es1.size)).2.1 >>= fun _ => pure (some true)) else pure (some true)) R E s := by
 refine wpAny_bind (set_put at' hb ?_)
 have a1 := set_put_at (es1 := es1) (t1 := t2) at'
 have b1 := Heap.SameBut.update s.heap a (Obj.putSet es1 t2)
 by_cases hc : (!wd && t2.tooFull) = true
 · rw [if_pos hc]
   have pp := relayAll_perm t2 es1 (SetTable.grown es1.size)
   have ff := relayAll_fits t2 es1 (SetTable.grown es1.size)
   have ll := relay_led t2 es1 (SetTable.grown es1.size)
   generalize relayAll t2 es1 (SetTable.grown es1.size) = L at pp ff ll ⊢
   have hz : L.1.size = es1.size := by have := pp.length_eq; simpa using this
   refine wpAny_bind (hg _ _ _ (wpAny_bind (set_put a1 (by rw [hz]; exact hb) (wpAny_pure (q _ L.1 (ep + 1 + 1) L.2.1 (b1.trans (Heap.SameBut.update _ a _)) ⟨set_put_at a1, fun e he => el e (pp.mem_iff.mp he), ff, fun h => ll.1.trans (l2 h), fun _ => ll.2 p2⟩ pp)))))
 · rw [if_neg hc]
   exact wpAny_pure (q _ es1 (ep + 1) t2 b1 ⟨a1, el, f2, l2, fun _ => p2⟩ (.refl _))
theorem set_add {Q : Bool -> Shared -> Prop} (T : TxS w s.heap a es ep t) (hb : es.size + 1 < scanBound)
 (q : ∀ b h' es' ep' t', Heap.SameBut a s.heap h' -> TxS w h' a es' ep' t' -> (txts es').Perm (if x ∈ txts es then txts es else txts es ++ [x]) -> Q b { s with heap := h' }) :
 wpAny (model prog w) A (setAddHashed a (.str x tk) (hashStr w x)) Q E s := by
 have key : (PySem.strKind prog w).is x (.str x tk) = true := by rw [tx_is]; simp
 have hel := T.elems (prog := prog)
 have hsc : byScan (.str x tk) es = true := byScan_of (knd := PySem.strKind prog w) rfl (by omega) hel
 unfold setAddHashed setAddHashedIn
 refine wpAny_holding (wpAny_bind (wpAny_setState_of T.at' rfl T.fit ?_))
 show wpAny _ _ (if byScan (.str x tk) es = true then _ else _) _ _ _
 rw [if_pos hsc]
 unfold setAddByScan
 refine wpAny_bind (wpAny_bind (wpAny_rule (wpAny_bind (wpAny_setScan_of (knd := PySem.strKind prog w) (k := x) key T.at' rfl T.fit hel ?_))))
 have mem : x ∈ txts es ↔ ∃ e ∈ es.toList, (PySem.strKind prog w).is x e.2 = true := by
  unfold txts
  rw [List.mem_map]
  constructor
  · rintro ⟨e, he, hx⟩
    obtain ⟨y, t, rfl⟩ := T.el e he
    exact ⟨_, he, by rw [tx_is]; simpa [txt] using hx.symm⟩
  · rintro ⟨e, he, hx⟩
    obtain ⟨y, t, rfl⟩ := T.el e he
    rw [tx_is] at hx
    exact ⟨_, he, by simpa [txt] using (of_decide_eq_true hx).symm⟩
 cases hr : List.findIdx? (fun e => (PySem.strKind prog w).is x e.2) es.toList with
 | some j =>
  obtain ⟨hj, hp, _⟩ := List.findIdx?_eq_some_iff_getElem.mp hr
  have hm : x ∈ txts es := mem.mpr ⟨_, List.getElem_mem hj, hp⟩
  have := q false s.heap es ep t (Heap.SameBut.refl a s.heap) T (by rw [if_pos hm])
  exact wpAny_pure (wpAny_pure this)
 | none =>
  have hm : x ∉ txts es := fun hm => by
   obtain ⟨e, he, hx⟩ := mem.mp hm
   have := List.findIdx?_eq_none_iff.mp hr e he
   rw [hx] at this; cases this
  have p1 := layNew_perm t es (hashStr w x) (.str x tk)
  have f1 := layNew_fits t es (hashStr w x) (.str x tk)
  have l1 := lay_led t es (hashStr w x) (.str x tk)
  dsimp only
  generalize layNew t es (hashStr w x) (.str x tk) = L at p1 f1 l1 ⊢
  obtain ⟨es1, t1, wd, gv⟩ := L
  dsimp only at p1 f1 l1 ⊢
  rw [Array.toList_push] at p1
  have el1 : ∀ e ∈ es1.toList, TxE w e := fun e he => by
   rcases List.mem_append.mp (p1.mem_iff.mp he) with h | h
   · exact T.el e h
   · exact ⟨x, tk, by simpa using h⟩
  have z1 : es1.size = es.size + 1 := by have := p1.length_eq; simpa using this
  have l2 : told w = false -> t1.led = true := fun h => l1.trans (T.led h)
  have fin : ∀ h' es' ep' t', Heap.SameBut a s.heap h' -> TxS w h' a es' ep' t' -> es'.toList.Perm es1.toList -> Q true { s with heap := h' } := fun h' es' ep' t' b T' pp => q true h' es' ep' t' b T' (by
   rw [if_neg hm]
   have := (pp.trans p1).map fun e : Int × Value => txt e.2
   simpa [txts, txt] using this)
  have gw : ∀ (b : Bool) (s : Shared) (Q : Unit -> Shared -> Prop), Q () s -> wpAny (model prog w) A (match b with | true => rule "set.scan.the-table-gave-way" | false => pure ()) Q E s := fun b s Q h => by
   cases b
   · exact wpAny_pure h
   · exact wpAny_rule h
  refine wpAny_bind (gw _ _ _ ?_)
  cases hp : t1.plain with
  | true =>
   rw [if_pos rfl, hashByValue_scannable 8 (x := .str x tk) rfl]
   refine wpAny_bind (wpAny_pure ?_)
   exact set_tail (t2 := { t1 with plain := false }) gw T.at' el1 (SetTable.fits_plain_off f1) l2 rfl (by omega) fun h' es' ep' t' b T' pp => wpAny_pure (fin h' es' ep' t' b T' pp)
  | false =>
   rw [if_neg (by decide)]
   refine wpAny_bind (wpAny_pure ?_)
   exact set_tail (t2 := t1) gw T.at' el1 f1 l2 hp (by omega) fun h' es' ep' t' b T' pp => wpAny_pure (fin h' es' ep' t' b T' pp)
end
end Y
namespace Y
open PySem PySem.Spec PyProof.Rows L2
def addT (ks : List Str) (x : Str) : List Str := if x ∈ ks then ks else ks ++ [x]
def onceT (ws : List Str) : List Str := ws.foldl addT []
theorem addT_perm {k k' : List Str} {x : Str} (h : k.Perm k') : (addT k x).Perm (addT k' x) := by
 unfold addT
 by_cases e : x ∈ k
 · rw [if_pos e, if_pos (h.mem_iff.mp e)]; exact h
 · rw [if_neg e, if_neg fun z => e (h.mem_iff.mpr z)]; exact h.append_right _
theorem addT_len (k : List Str) (x : Str) : (addT k x).length <= k.length + 1 := by
 unfold addT; split <;> simp
theorem once_snoc (ws : List Str) (x : Str) : onceT (ws ++ [x]) = addT (onceT ws) x := by unfold onceT; rw [List.foldl_append]; rfl
theorem addT_mem {k : List Str} {x y : Str} : y ∈ addT k x ↔ y ∈ k ∨ y = x := by
 unfold addT
 split
 · rename_i h
   exact ⟨.inl, fun z => z.elim id fun e => e ▸ h⟩
 · simp
theorem addT_nodup {k : List Str} {x : Str} (h : k.Nodup) : (addT k x).Nodup := by
 unfold addT
 split
 · exact h
 · rename_i e
   rw [List.nodup_append]
   exact ⟨h, by simp, fun a ha b hb z => by rw [List.mem_singleton] at hb; subst hb; subst z; exact e ha⟩
theorem fold_mem {y : Str} : ∀ (ws k : List Str), y ∈ ws.foldl addT k ↔ y ∈ k ∨ y ∈ ws
 | [], k => by simp
 | x :: ws, k => by rw [List.foldl_cons, fold_mem ws, addT_mem, List.mem_cons, or_assoc]
theorem fold_nodup : ∀ (ws : List Str) {k : List Str}, k.Nodup -> (ws.foldl addT k).Nodup
 | [], _, h => h
 | x :: ws, _, h => fold_nodup ws (addT_nodup h)
theorem fold_len : ∀ (ws k : List Str), (ws.foldl addT k).length <= k.length + ws.length
 | [], k => by simp
 | x :: ws, k => by
  have a := fold_len ws (addT k x); have b := addT_len k x
  rw [List.foldl_cons, List.length_cons]; omega
theorem once_mem {ws : List Str} {y : Str} : y ∈ onceT ws ↔ y ∈ ws := by unfold onceT; rw [fold_mem]; simp
theorem once_nodup (ws : List Str) : (onceT ws).Nodup := fold_nodup ws List.nodup_nil
theorem once_len (ws : List Str) : (onceT ws).length <= ws.length := by have := fold_len ws []; simpa [onceT] using this
section
variable {prog : Program} {w : World} {A : Around} {E : Value -> Shared -> Prop} {s : Shared} {R : Result -> Shared -> Prop} {S I : Addr} {ws : List Str}
variable {fp wr : List Addr} {G : Array GenState -> Array GenState -> Prop} {n : Nat} {P : Nat -> Value -> Prop} {St : Nat -> Shared -> Prop}
theorem set_loop (W : WalksS prog w A.in1 I fp wr G n P St) (hS : S ∉ fp) (hws : ws.length = n) (hP : ∀ i v, P i v -> ∃ t, v = .str (ws.getD i "") t) (hb : n + 1 < scanBound)
 (fin : ∀ s' es ep t, Moved (S :: wr) G s s' -> TxS w s'.heap S es ep t -> (txts es).Perm (onceT ws) -> R (.ok (.ret .none)) s') :
 ∀ (k i : Nat) (s1 : Shared) (es : Array (Int × Value)) (ep : Nat) (t : SetTable), i + k = n -> Moved (S :: wr) G s s1 -> St i s1 -> TxS w s1.heap S es ep t -> (txts es).Perm (onceT (ws.take i)) ->
  codeAny (model prog w) A (.builtin "set.update.loop" ⟨[.ref S, .ref I], []⟩) R s1 := by
 have hw : S ∉ wr := fun h => hS (W.sub _ h)
 have up : ∀ {a b : Shared}, Moved wr G a b -> Moved (S :: wr) G a b := fun m => m.mono fun _ h => List.mem_cons_of_mem _ h
 have at' : ∀ {a b : Shared} {es : Array (Int × Value)} {ep : Nat} {t : SetTable}, Moved wr G a b -> TxS w a.heap S es ep t -> TxS w b.heap S es ep t := fun m T => ⟨m.heap S _ hw T.at', T.el, T.fit, T.led, T.pl⟩
 intro k
 induction k with
 | zero =>
  intro i s1 es ep t hi mv st T pp
  obtain rfl : i = n := by omega
  refine codeAny_builtin F.entry_set_update_loop ?_
  rw [Around.under_plainId F.plain_set_update_loop _]
  refine wpAny_bind (m := pyNext (.ref I)) (W.done s1 _ _ st fun s2 m2 => ?_)
  refine wpAny_pure (fin s2 es ep t (mv.trans W.gtrans (up m2)) (at' m2 T) ?_)
  rwa [List.take_of_length_le (by omega)] at pp
 | succ k ih =>
  intro i s1 es ep t hi mv st T pp
  refine codeAny_builtin F.entry_set_update_loop ?_
  rw [Around.under_plainId F.plain_set_update_loop _]
  refine wpAny_bind (m := pyNext (.ref I)) (W.item i s1 _ _ (by omega) st fun v s2 hv st2 m2 => ?_)
  obtain ⟨tk, rfl⟩ := hP i v hv
  have hl : (txts es).length <= i := by
   rw [pp.length_eq]
   have := once_len (ws.take i)
   rw [List.length_take] at this; omega
  have hz : es.size = (txts es).length := by simp [txts]
  refine wpAny_bind (m := holding _ (setAdd S (.str (ws.getD i "") tk))) (wpAny_holding (wpAny_holding (wpAny_bind (wpAny_pyHash_str ?_))))
  have T2 := at' m2 T
  refine set_add (s := { s2 with toks := s2.toks + 1 }) T2 (by omega) fun b h' es' ep' t' sb T' p' => ?_
  have e : ws.take (i + 1) = ws.take i ++ [ws.getD i ""] := by
   rw [List.take_succ, List.getD_eq_getElem?_getD, List.getElem?_eq_getElem (by omega : i < ws.length)]; rfl
  have m3 : Moved (S :: wr) G s1 { s2 with heap := h', toks := s2.toks + 1 } := (up m2).then_heap (Nat.le_succ _) fun b o hb e => by rw [sb.2 b fun z => hb (by rw [z]; exact List.mem_cons_self)]; exact e
  refine wpAny_pure ⟨plainId_quiet F.plain_set_update_loop _, ih (i + 1) _ es' ep' t' (by omega) (mv.trans W.gtrans m3) (W.frame _ s2 _ _ st2 (Nat.le_succ _) fun b hb o e => ?_) T' ?_⟩
  · rw [sb.2 b fun z => hS (z ▸ hb)]; exact e
  · rw [e, once_snoc]
    exact p'.trans (addT_perm pp)
theorem set_fresh {led : Bool} (h : Heap) (hl : told w = false -> led = true) : TxS w (h.push { cls := .type "set", dict := none, data := .set #[] 0 (.fresh 0 0 led) }) h.objs.size #[] 0 (.fresh 0 0 led) :=
 ⟨Heap.get?_push_size _ rfl, fun e he => by simp at he, rfl, hl, fun h => absurd rfl h⟩
theorem set_make (v : Value) {Q : Value -> Shared -> Prop} (h : Q (.ref s.heap.objs.size) { s with heap := s.heap.push { cls := .type "set", dict := none, data := .set #[] 0 (.fresh 0 0 (!told w)) } }) :
 codeAny (model prog w) A (.call (.builtin "set.__new__") ⟨[.type "set", v], []⟩) (wants Q E) s := by
 have c := PySem.F.newCall_set_1 v
 have sub := sub_set_self
 have tree : wpAny (model prog w) A.in1 (Builtin.«set.__new__» ⟨[.type "set", v], []⟩) (fun x s' => x = .done (.ret (.ref s.heap.objs.size)) ∧ s' = { s with heap := s.heap.push { cls := .type "set", dict := none, data := .set #[] 0 (.fresh 0 0 (!told w)) } }) (fun _ _ => False) s := by
  unfold Builtin.«set.__new__» Builtin.Frozenset.newClass newSet setsByText
  obtain ⟨hp, g, d, tk, os⟩ := s
  wp_walk
  exact wpAny_askSetting (wpAny_pure (wpAny_newObj_type (wpAny_pure ⟨rfl, rfl⟩)))
 refine codeAny_call_builtin PySem.F.plain_set_new PySem.F.entry_set_new (wpAny_of_eq c (wpAny_mono tree (fun x s' e => ?_) fun _ _ f => f.elim))
 obtain ⟨rfl, rfl⟩ := e
 exact h
theorem ty_list_set {l : Addr} {items : Array Value} (hl : s.heap.IsList l items) {Q : Bool -> Shared -> Prop} (h : Q false s) : wpAny (model prog w) A (Builtin.Frozenset.isAnySet (.ref l)) Q E s := by
 obtain ⟨o, ho, hc, _⟩ := hl
 have T : s.TypeIs (.ref l) "list" := ⟨o, ho, hc⟩
 have f1 := PySem.F.sub_list_set
 have f2 := PySem.F.sub_list_frozenset
 unfold Builtin.Frozenset.isAnySet
 obtain ⟨hp, g, d, tk, os⟩ := s
 wp_walk using wpAny_loadPart' ho
 exact h
def SetEnd (w : World) (s : Shared) (ws : List Str) (s' : Shared) : Prop := ∃ h' tk es ep t, s' = { s with heap := h', toks := tk } ∧ TxS w h' s.heap.objs.size es ep t ∧ (txts es).Perm (onceT ws) ∧ ∀ b o, s.heap.get? b = some o -> h'.get? b = some o
theorem set_init {l : Addr} {items : Array Value} {led : Bool} (hh : A.handled = none) (hl : s.heap.IsList l items) (hz : items.size + 1 < scanBound) (hws : ws.length = items.size) (hi : ∀ (i : Nat) (v : Value), items[i]? = some v -> ∃ t, v = .str (ws.getD i "") t) (hled : told w = false -> led = true) :
 wpAny (model prog w) A (Builtin.«set.__init__» ⟨[.ref s.heap.objs.size, .ref l], []⟩) (fun x s' => x = .done (.ret .none) ∧ SetEnd w s ws s') (fun _ _ => False) { s with heap := s.heap.push { cls := .type "set", dict := none, data := .set #[] 0 (.fresh 0 0 led) } } := by
 have T0 := set_fresh (w := w) s.heap hled
 have hl1 := hl.push { cls := .type "set", dict := none, data := .set #[] 0 (.fresh 0 0 led) }
 obtain ⟨o, ho, hc, _⟩ := id hl1
 have ll : l < s.heap.objs.size := by
  obtain ⟨o, ho, _⟩ := id hl
  exact Heap.lt_size ho
 have hsz : (s.heap.push { cls := .type "set", dict := none, data := .set #[] 0 (.fresh 0 0 led) }).objs.size = s.heap.objs.size + 1 := size_push' ..
 have old : ∀ b o, s.heap.get? b = some o -> (s.heap.push { cls := .type "set", dict := none, data := .set #[] 0 (.fresh 0 0 led) }).get? b = some o := fun b o e => Heap.get?_push_of_some _ e
 have at0 := T0.at'
 generalize s.heap.push { cls := .type "set", dict := none, data := .set #[] 0 (.fresh 0 0 led) } = h1 at T0 hl1 at0 ho hsz old ⊢
 unfold Builtin.«set.__init__»
 generalize hU : Builtin.Frozenset.updateFrom = U
 wp_walk using wpAny_loadPart' at0
 subst hU
 unfold Builtin.Frozenset.updateFrom
 have ne : (Value.type "list" == Value.type "dict") = false := by decide
 refine wpAny_bind (ty_list_set hl1 ?_)
 rw [if_neg (by decide)]
 refine wpAny_bind (wpAny_typeOf (T := "list") ⟨o, ho, hc⟩ ?_)
 rw [ne, if_neg (by decide)]
 refine wpAny_bind (wpAny_pyIter_list hl1 (wpAny_bind (wpAny_runValue ?_)))
 have hni : l ≠ h1.objs.size := by rw [hsz]; exact Nat.ne_of_lt (Nat.lt_succ_of_lt ll)
 have hS : s.heap.objs.size ∉ [h1.objs.size, l] := by
  rw [hsz]
  intro z
  rcases List.mem_cons.mp z with z | z
  · exact absurd z (Nat.ne_of_lt (Nat.lt_succ_self _))
  · exact absurd (List.mem_singleton.mp z) (Nat.ne_of_gt ll)
 have hh1 : A.in1.handled = none := hh
 have W := (Walks.list (prog := prog) (w := w) (A := A.in1) hh1 h1.objs.size l hni items).toS
 refine set_loop (s := { s with heap := h1.push { cls := .type "list_iterator", data := .fields #[.ref l, .int 0 0] } }) W hS hws hi hz (fun s' es ep t m T pp => ?_) items.size 0 _ #[] 0 (.fresh 0 0 led) (Nat.zero_add _) (Moved.refl W.grefl) ⟨⟨_, Heap.get?_push_size _ rfl, rfl, rfl⟩, hl1.push _⟩ ⟨Heap.get?_push_of_some _ at0, T0.el, T0.fit, T0.led, T0.pl⟩ (by simp [txts, onceT])
 obtain ⟨h', g', d', tk', os'⟩ := s'
 have e1 : g' = s.gens := m.gens
 have e2 : d' = s.drawn := m.drawn
 have e3 : os' = s.os := m.os
 subst e1 e2 e3
 refine wpAny_pure (wpAny_pure ⟨rfl, h', tk', es, ep, t, rfl, T, pp, fun b o e => ?_⟩)
 have hb := Heap.lt_size e
 refine m.heap b o (fun z => ?_) (Heap.get?_push_of_some _ (old b o e))
 rcases List.mem_cons.mp z with z | z
 · exact absurd z (Nat.ne_of_lt hb)
 · exact absurd (List.mem_singleton.mp z) (Nat.ne_of_lt (by rw [hsz]; exact Nat.lt_succ_of_lt hb))
theorem call_set {l : Addr} {items : Array Value} {Q : Value -> Shared -> Prop} (hh : A.handled = none) (hl : s.heap.IsList l items) (hz : items.size + 1 < scanBound) (hws : ws.length = items.size) (hi : ∀ (i : Nat) (v : Value), items[i]? = some v -> ∃ t, v = .str (ws.getD i "") t)
 (q : ∀ s', SetEnd w s ws s' -> Q (.ref s.heap.objs.size) s') : wpAny (model prog w) A (call (.type "set") [.ref l]) Q E s := by
 obtain ⟨c, tl, hmro⟩ := PySem.F.called_set.mro
 have f1 := PySem.F.called_set.made
 have f2 := PySem.F.called_set.sub
 have f3 := PySem.F.called_set.notType
 have f4 := PySem.F.called_set.canCreate
 have f5 := PySem.F.typeCall_set_1 (.ref l)
 have quiet : (Code.builtin "type.__call__" ⟨[.type "set", .ref l], []⟩).quiet = true := Code.quiet_builtin _ (by decide +kernel)
 refine wpAny_call (codeAny_of_tree (show wpAny _ _ (callAny (.type "set") _) _ _ _ from wpAny_pure ⟨quiet, codeAny_builtin PySem.F.entry_type_call ?_⟩))
 rw [Around.under_plain (weight_type_call_type "set" [.ref l] []) (units_type_call_type "set" [.ref l] [])]
 repeat any_goals first | assumption | wp_step
 let N : Shared := { s with heap := s.heap.push { cls := .type "set", dict := none, data := .set #[] 0 (.fresh 0 0 (!told w)) } }
 refine codeAny_mono (set_make (prog := prog) (w := w) (E := fun _ _ => False) (s := s) (.ref l) (Q := fun o st => o = .ref s.heap.objs.size ∧ st = N) ⟨rfl, rfl⟩) fun r s1 hr => ?_
 rcases r with e | f
 · exact hr.elim
 cases f <;> first | exact hr.elim | skip
 obtain ⟨rfl, rfl⟩ := hr
 have T : N.TypeIs (.ref s.heap.objs.size) "set" := ⟨_, Heap.get?_push_size _ rfl, rfl⟩
 refine wpAny_bind (wpAny_isInstance (b := true) T f2 ?_)
 rw [if_neg (by decide)]
 refine wpAny_bind (wpAny_holding (wpAny_callSpecial?_slot T PySem.F.called_set.init ?_))
 refine wpAny_call (codeAny_call_builtin PySem.F.called_set.init.plain PySem.F.entry_set_init (PySem.check_set_init_1 T ?_))
 refine wpAny_mono (set_init (ws := ws) (led := !told w) hh hl hz hws hi fun h => by rw [h]; rfl) (fun x s' e => ?_) fun _ _ f => f.elim
 obtain ⟨rfl, e⟩ := e
 exact wpAny_pure (q s' e)
end
end Y
namespace Y
open PySem PySem.Spec PyProof.Rows L2
namespace Sw
theorem slot_next : PySem.Slot "set_iterator" "__next__" "set_iterator.__next__" :=
 by
  refine .of (owner := "set_iterator") (n := "__next__") ?own ?_ ?_ ?_ ?_ ?self
  case own => rw [typeLookup_type, builtinLookup_eq_fast]; kernel_rfl
  case self => rw [isSubtype_type]; kernel_rfl
  all_goals first | decide +kernel | exact .inl (by decide +kernel) | exact .inr (by decide +kernel)
theorem entry_next : entryFor table "set_iterator.__next__" = some Builtin.«set_iterator.__next__» := entryFor_of_tree (by kernel_rfl)
theorem args_next (a : Value) : argsOk "set_iterator.__next__" ⟨[a], []⟩ := by unfold argsOk; kernel_rfl
theorem slot_iter : PySem.Slot "set_iterator" "__iter__" "set_iterator.__iter__" :=
 by
  refine .of (owner := "set_iterator") (n := "__iter__") ?own ?_ ?_ ?_ ?_ ?self
  case own => rw [typeLookup_type, builtinLookup_eq_fast]; kernel_rfl
  case self => rw [isSubtype_type]; kernel_rfl
  all_goals first | decide +kernel | exact .inl (by decide +kernel) | exact .inr (by decide +kernel)
theorem args_iter (a : Value) : argsOk "set_iterator.__iter__" ⟨[a], []⟩ := by unfold argsOk; kernel_rfl
theorem entry_iter : entryFor table "set_iterator.__iter__" = some Builtin.«dict_keyiterator.__iter__» := entryFor_alias (id' := "dict_keyiterator.__iter__") (by kernel_rfl) (by first | rfl | decide +kernel) (by decide +kernel) (by kernel_rfl)
theorem entry_set : entryFor table "set.__iter__" = some Builtin.«frozenset.__iter__» := entryFor_alias (id' := "frozenset.__iter__") (by kernel_rfl) (by first | rfl | decide +kernel) (by decide +kernel) (by kernel_rfl)
end Sw
theorem take_one {α : Type} {xs : List α} {i : Nat} (hi : i < xs.length) : (xs[i] :: xs.eraseIdx i).Perm xs := by
 rw [List.eraseIdx_eq_take_drop_succ]
 have e : xs = xs.take i ++ xs[i] :: xs.drop (i + 1) := by rw [List.getElem_cons_drop, List.take_append_drop]
 conv => rhs; rw [e]
 exact List.perm_middle.symm
section
variable {M : Model} {A : Around} {E : Value -> Shared -> Prop} {s : Shared}
theorem ask_choose {src : Source} {n : Nat} {Q : Nat -> Shared -> Prop} (hn : n ≠ 0) (h : ∀ i, i < n -> ∀ d, Q i { s with drawn := d }) : wpAny M A (choose src n) Q E s := fun Γ p _ => by
 show Sem.wp M Γ (.choose src n .pure) _ _ p s
 rw [Sem.wp_choose]
 exact ⟨hn, h _ (Nat.mod_lt _ (Nat.pos_of_ne_zero hn)) _⟩
theorem draw_all {α : Type} : ∀ (n : Nat) (xs : List α) {s : Shared} {Q : List α -> Shared -> Prop}, xs.length = n -> (∀ ys d, ys.Perm xs -> Q ys { s with drawn := d }) -> wpAny M A (drawOrder n xs) Q E s
 | 0, xs, s, Q, e, h => by
  obtain rfl := List.length_eq_zero_iff.mp e
  unfold drawOrder
  exact wpAny_pure (h [] s.drawn (.refl _))
 | n + 1, [], s, Q, e, h => by cases e
 | n + 1, x :: xs, s, Q, e, h => by
  unfold drawOrder
  refine wpAny_bind (ask_choose (by simp) fun i hi d => ?_)
  have hg : (x :: xs)[i]? = some ((x :: xs)[i]) := List.getElem?_eq_getElem hi
  rw [hg]
  refine wpAny_bind (draw_all n ((x :: xs).eraseIdx i) (by rw [List.length_eraseIdx_of_lt hi, e]; rfl) fun ys d' pp => wpAny_pure (h _ d' ?_))
  exact (pp.cons _).trans (take_one hi)
end
theorem pick_all {α : Type} (f : Nat -> Nat) : ∀ (k i : Nat) (xs : List α) (out : Array α), xs.length = k -> (pickOrder.go f k i xs out).toList.Perm (out.toList ++ xs)
 | 0, i, xs, out, e => by
  obtain rfl := List.length_eq_zero_iff.mp e
  unfold pickOrder.go; simp
 | k + 1, i, xs, out, e => by
  have hi : f i % xs.length < xs.length := Nat.mod_lt _ (by omega)
  unfold pickOrder.go
  rw [List.getElem?_eq_getElem hi]
  refine (pick_all f k (i + 1) _ _ (by rw [List.length_eraseIdx_of_lt hi, e]; rfl)).trans ?_
  rw [Array.toList_push, List.append_assoc]
  exact (take_one hi).append_left _
theorem pick_perm {α : Type} (f : Nat -> Nat) (xs : Array α) : (pickOrder f xs).toList.Perm xs.toList := by
 unfold pickOrder
 simpa using pick_all f xs.size 0 xs.toList #[] (by simp)
end Y
namespace Y
open PySem PySem.Spec PyProof.Rows L2
def itO (first : Value) (i : Nat) (a : Addr) (n ep : Nat) : Obj := { cls := .type "set_iterator", dict := none, data := .fields #[first, .int i 0, .ref a, .int n 0, .int ep 0], slots := #[] }
abbrev setO (es : Array (Int × Value)) (ep : Nat) (t : SetTable) : Obj := { cls := .type "set", dict := none, data := .set es ep t, slots := #[] }
section
variable {prog : Program} {w : World} {A : Around} {E : Value -> Shared -> Prop} {s : Shared} {a it : Addr} {es : Array (Int × Value)} {ep i : Nat} {t : SetTable} {first : Value} {x : Value} {nx : Nat}
theorem step_num {f : Int} (ho : s.heap.get? it = some (itO (.int f 0) i a es.size ep)) (hs : s.heap.get? a = some (setO es ep t)) (hf : t.fits es.size = true)
 (hn : ∀ (Q : Option (Value × Nat) -> Shared -> Prop) (E : Value -> Shared -> Prop), Q (some (x, nx)) s -> wpAny (model prog w) A (setNext a f.toNat i ep) Q E s) :
 wpAny (model prog w) A (Builtin.«set_iterator.__next__» ⟨[.ref it], []⟩) (fun z s' => z = .done (.ret x) ∧ ∃ h', s' = { s with heap := h' } ∧ Heap.SameBut it s.heap h' ∧ h'.get? it = some (itO (.int nx 0) (i + 1) a es.size ep)) (fun _ _ => False) s := by
 obtain ⟨hp, g, d, tk, os⟩ := s
 unfold Builtin.«set_iterator.__next__»
 generalize hN : setNext = N at hn
 generalize hL : setEntries = L
 wp_walk using wpAny_loadPart' ho
 subst hN hL
 refine wpAny_setEntries_of hs rfl hf ?_
 have ne : ((es.size : Int) != (es.size : Int)) = false := by simp
 dsimp only
 rw [ne, if_neg (by decide)]
 refine wpAny_bind (hn _ _ ?_)
 have u0 := Heap.get?_update_self (Obj.mapFields (·.setIfInBounds 0 (rawInt (nx : Int)))) ho rfl
 have u1 := Heap.get?_update_self (Obj.mapFields (·.setIfInBounds 1 (rawInt ((i : Int) + 1)))) u0 rfl
 refine wpAny_bind (wpAny_setField ho rfl (by show 0 < 5; decide) (wpAny_bind (wpAny_setField u0 rfl (by show 1 < 5; decide) (wpAny_pure ⟨rfl, _, rfl, (Heap.SameBut.update ..).trans (Heap.SameBut.update ..), ?_⟩))))
 rw [u1]
 rfl
theorem over_num {f : Int} (hh : A.handled = none) (ho : s.heap.get? it = some (itO (.int f 0) i a es.size ep)) (hs : s.heap.get? a = some (setO es ep t)) (hf : t.fits es.size = true)
 (hn : ∀ (Q : Option (Value × Nat) -> Shared -> Prop) (E : Value -> Shared -> Prop), Q none s -> wpAny (model prog w) A (setNext a f.toNat i ep) Q E s) :
 wpAny (model prog w) A (Builtin.«set_iterator.__next__» ⟨[.ref it], []⟩) (fun _ _ => False) (fun z s' => ∃ h' e, z = .ref e ∧ s' = { s with heap := h' } ∧ Heap.ExtBut it s.heap h' ∧ ∃ o, h'.get? e = some o ∧ o.cls = .type "StopIteration") s := by
 obtain ⟨hp, g, d, tk, os⟩ := s
 unfold Builtin.«set_iterator.__next__»
 generalize hN : setNext = N at hn
 generalize hL : setEntries = L
 wp_walk using wpAny_loadPart' ho
 subst hN hL
 refine wpAny_setEntries_of hs rfl hf ?_
 have ne : ((es.size : Int) != (es.size : Int)) = false := by simp
 dsimp only
 rw [ne, if_neg (by decide)]
 refine wpAny_bind (hn _ _ (wpAny_bind (wpAny_setField ho rfl (by show 2 < 5; decide) ?_)))
 unfold newExc newTuple raiseNew
 wp_walk using wpAny_newObj_type
 · exact ⟨_, _, rfl, rfl, ((Heap.SameBut.update ..).extBut.push _).push _, _, Heap.get?_push_size _ rfl, rfl⟩
 all_goals size_fits
theorem by_text {Q : Bool -> Shared -> Prop} (h : Q (told w) s) : wpAny (model prog w) A setsByText Q E s := by
 unfold setsByText
 exact wpAny_bind (wpAny_askSetting (wpAny_pure h))
theorem next_told {slot : Nat} {Q : Option (Value × Nat) -> Shared -> Prop} (ht : told w = true) (hs : s.heap.get? a = some (setO es ep t)) (hf : t.fits es.size = true)
 (h : Q (((pickOrder (w.params.setOrder a ep) es)[i]?).map fun e => (e.2, slot)) s) : wpAny (model prog w) A (setNext a slot i ep) Q E s := by
 unfold setNext
 refine wpAny_bind (wpAny_setState_of hs rfl hf ?_)
 refine wpAny_bind (by_text ?_)
 rw [ht]
 have ne : (ep != ep) = false := by simp
 dsimp only
 rw [if_pos rfl, ne, if_neg (by decide)]
 refine wpAny_bind ?_
 unfold setWalk
 refine wpAny_bind (wpAny_setState_of hs rfl hf (wpAny_bind (by_text ?_)))
 rw [ht]
 rw [if_pos rfl]
 exact wpAny_bind (wpAny_askSetting (wpAny_pure (wpAny_pure h)))
theorem below0 (p : Array Nat) (h : p.size <= 1) : SetTable.below p 0 = 0 := by
 unfold SetTable.below
 match p, h with
 | ⟨[]⟩, _ => rfl
 | ⟨[j]⟩, _ => simp [SetTable.below.go]
theorem below1 (j : Nat) : SetTable.below #[j] (j + 1) = 1 := by
 unfold SetTable.below
 simp [SetTable.below.go]
theorem next_few {slot : Nat} {Q : Option (Value × Nat) -> Shared -> Prop} (ht : told w = false) (hs : s.heap.get? a = some (setO es ep t)) (hf : t.fits es.size = true) (hl : t.led = true) (h1 : es.size <= 1)
 (h : Q (match es[SetTable.below t.place slot]?, t.place[SetTable.below t.place slot]? with | some (_, x), some j => some (x, j + 1) | _, _ => none) s) : wpAny (model prog w) A (setNext a slot i ep) Q E s := by
 unfold setNext
 refine wpAny_bind (wpAny_setState_of hs rfl hf ?_)
 refine wpAny_bind (by_text ?_)
 rw [ht]
 have nd : (!t.plain && decide (es.size > 1)) = false := by simp; intro _; omega
 show wpAny _ _ (if (!t.plain && decide (es.size > 1)) = true then _ else _) _ _ _
 rw [nd, if_neg (by decide)]
 show wpAny _ _ ((if (!t.led && !es.isEmpty) = true then _ else _) >>= _) _ _ _
 rw [hl, if_neg (by simp)]
 exact wpAny_bind (wpAny_pure (wpAny_pure h))
abbrev tupO (ps : List Nat) : Obj := { cls := .type "tuple", dict := none, data := .seq (ps.map fun p : Nat => rawInt p).toArray, slots := #[] }
theorem next_drawn {p : Nat} {h0 : Int} {Q : Value -> Shared -> Prop} (hs : s.heap.get? a = some (setO es ep t)) (hf : t.fits es.size = true) (hp : es[p]? = some (h0, x)) (h : Q x s) : wpAny (model prog w) A (setNextDrawn a p ep) Q E s := by
 unfold setNextDrawn
 refine wpAny_bind (wpAny_setState_of hs rfl hf ?_)
 have ne : (ep != ep) = false := by simp
 dsimp only
 rw [ne, if_neg (by decide), hp]
 exact wpAny_pure h
theorem step_drawn {tup : Addr} {ps : List Nat} {p : Nat} {h0 : Int} (ho : s.heap.get? it = some (itO (.ref tup) i a es.size ep)) (hs : s.heap.get? a = some (setO es ep t)) (ht : s.heap.get? tup = some (tupO ps)) (hf : t.fits es.size = true) (hi : ps[i]? = some p) (hp : es[p]? = some (h0, x)) :
 wpAny (model prog w) A (Builtin.«set_iterator.__next__» ⟨[.ref it], []⟩) (fun z s' => z = .done (.ret x) ∧ ∃ h', s' = { s with heap := h' } ∧ Heap.SameBut it s.heap h' ∧ h'.get? it = some (itO (.ref tup) (i + 1) a es.size ep)) (fun _ _ => False) s := by
 obtain ⟨hp', g, d, tk, os⟩ := s
 have e1 : (ps.map fun p : Nat => rawInt (p : Int)).toArray[((i : Nat) : Int).toNat]? = some (Value.int (p : Int) 0) := by
  rw [Int.toNat_natCast, List.getElem?_toArray, List.getElem?_map, hi]; rfl
 unfold Builtin.«set_iterator.__next__»
 generalize hN : setNextDrawn = N
 generalize hL : setEntries = L
 wp_walk using wpAny_loadPart' ho, wpAny_loadPart' ht
 subst hL
 refine wpAny_setEntries_of hs rfl hf ?_
 have ne : ((es.size : Int) != (es.size : Int)) = false := by simp
 dsimp only
 rw [ne, if_neg (by decide)]
 wp_walk using wpAny_loadPart' ht
 rw [e1]
 subst hN
 have u1 := Heap.get?_update_self (Obj.mapFields (·.setIfInBounds 1 (rawInt ((i : Int) + 1)))) ho rfl
 refine wpAny_bind (next_drawn (p := p) hs hf hp ?_)
 exact wpAny_bind (wpAny_setField ho rfl (by show 1 < 5; decide) (wpAny_pure ⟨rfl, _, rfl, Heap.SameBut.update .., u1⟩))
theorem over_drawn {tup : Addr} {ps : List Nat} (hh : A.handled = none) (ho : s.heap.get? it = some (itO (.ref tup) i a es.size ep)) (hs : s.heap.get? a = some (setO es ep t)) (ht : s.heap.get? tup = some (tupO ps)) (hf : t.fits es.size = true) (hi : ps[i]? = none) :
 wpAny (model prog w) A (Builtin.«set_iterator.__next__» ⟨[.ref it], []⟩) (fun _ _ => False) (fun z s' => ∃ h' e, z = .ref e ∧ s' = { s with heap := h' } ∧ Heap.ExtBut it s.heap h' ∧ ∃ o, h'.get? e = some o ∧ o.cls = .type "StopIteration") s := by
 obtain ⟨hp', g, d, tk, os⟩ := s
 have e1 : (ps.map fun p : Nat => rawInt (p : Int)).toArray[((i : Nat) : Int).toNat]? = none := by
  rw [Int.toNat_natCast, List.getElem?_toArray, List.getElem?_map, hi]; rfl
 unfold Builtin.«set_iterator.__next__»
 generalize hL : setEntries = L
 wp_walk using wpAny_loadPart' ho, wpAny_loadPart' ht
 subst hL
 refine wpAny_setEntries_of hs rfl hf ?_
 have ne : ((es.size : Int) != (es.size : Int)) = false := by simp
 dsimp only
 rw [ne, if_neg (by decide)]
 wp_walk using wpAny_loadPart' ht
 rw [e1]
 have u0 := Heap.get?_update_self (Obj.mapFields (·.setIfInBounds 0 (rawInt 0))) ho rfl
 refine wpAny_bind (wpAny_setField ho rfl (by show 0 < 5; decide) (wpAny_bind (wpAny_setField u0 rfl (by show 2 < 5; decide) ?_)))
 unfold newExc newTuple raiseNew
 wp_walk using wpAny_newObj_type
 · exact ⟨_, _, rfl, rfl, (((Heap.SameBut.update ..).trans (Heap.SameBut.update ..)).extBut.push _).push _, _, Heap.get?_push_size _ rfl, rfl⟩
 all_goals size_fits
end
def ItAt (it a : Addr) (es : Array (Int × Value)) (ep n : Nat) (pins : List (Addr × Obj)) (first : Nat -> Value) (i : Nat) (h : Heap) : Prop := h.get? it = some (itO (first i) i a n ep) ∧ ∀ p ∈ pins, h.get? p.1 = some p.2
section
variable {prog : Program} {w : World} {A : Around} {a it : Addr} {es : Array (Int × Value)} {ep n : Nat} {pins : List (Addr × Obj)} {first : Nat -> Value} {ord : List Value}
theorem set_walk (hh : A.handled = none) (hne : ∀ p ∈ pins, p.1 ≠ it) (hl : ord.length = n)
 (item : ∀ (i : Nat) (s : Shared) (x : Value), ord[i]? = some x -> ItAt it a es ep n pins first i s.heap -> wpAny (model prog w) A.in1 (Builtin.«set_iterator.__next__» ⟨[.ref it], []⟩) (fun z s' => z = .done (.ret x) ∧ ∃ h', s' = { s with heap := h' } ∧ Heap.SameBut it s.heap h' ∧ h'.get? it = some (itO (first (i + 1)) (i + 1) a n ep)) (fun _ _ => False) s)
 (done : ∀ (s : Shared), ItAt it a es ep n pins first n s.heap -> wpAny (model prog w) A.in1 (Builtin.«set_iterator.__next__» ⟨[.ref it], []⟩) (fun _ _ => False) (fun z s' => ∃ h' e, z = .ref e ∧ s' = { s with heap := h' } ∧ Heap.ExtBut it s.heap h' ∧ ∃ o, h'.get? e = some o ∧ o.cls = .type "StopIteration") s) :
 Walks prog w A it (it :: pins.map (·.1)) [it] n (fun i v => ord[i]? = some v) (ItAt it a es ep n pins first) where
 sub := fun b hb => by rw [List.mem_singleton.mp hb]; exact List.mem_cons_self
 frame := fun i h h' st k => ⟨k it List.mem_cons_self _ st.1, fun p hp => k p.1 (List.mem_cons_of_mem _ (List.mem_map.mpr ⟨p, hp, rfl⟩)) _ (st.2 p hp)⟩
 item := fun i s Q E hi st q => by
  have T : s.TypeIs (.ref it) "set_iterator" := ⟨_, st.1, rfl⟩
  have hg : ord[i]? = some ord[i] := List.getElem?_eq_getElem (by omega)
  have run := wpAny_call_entry (prog := prog) (w := w) (A := A) (E := fun _ _ => False) (s := s) (Q := fun v s' => v = ord[i] ∧ ∃ h', s' = { s with heap := h' } ∧ Heap.SameBut it s.heap h' ∧ h'.get? it = some (itO (first (i + 1)) (i + 1) a n ep)) Sw.slot_next T Sw.entry_next (wpAny_mono (item i s _ hg st) (fun z s' e => ⟨_, e.1, rfl, e.2⟩) fun _ _ f => f) (Sw.args_next _)
  unfold pyNext
  refine wpAny_bind (wpAny_attempt (wpAny_callSpecial?_slot T Sw.slot_next (wpAny_mono run ?_ fun _ _ f => f.elim)))
  rintro v s' ⟨rfl, h', rfl, k1, k2⟩
  refine wpAny_pure (q _ h' s.toks hg ⟨k2, fun p hp => ?_⟩ fun b o hb e => ?_)
  · rw [k1.2 p.1 (hne p hp)]; exact st.2 p hp
  · rw [k1.2 b fun z => hb (by rw [z]; exact List.mem_singleton.mpr rfl)]; exact e
 done := fun s Q E st q => by
  have T : s.TypeIs (.ref it) "set_iterator" := ⟨_, st.1, rfl⟩
  have run := wpAny_call_entry (prog := prog) (w := w) (A := A) (E := fun z s' => ∃ h' e, z = .ref e ∧ s' = { s with heap := h' } ∧ Heap.ExtBut it s.heap h' ∧ ∃ o, h'.get? e = some o ∧ o.cls = .type "StopIteration") (s := s) (Q := fun _ _ => False) Sw.slot_next T Sw.entry_next (wpAny_mono (done s st) (fun _ _ f => f.elim) fun _ _ f => f) (Sw.args_next _)
  unfold pyNext
  refine wpAny_bind (wpAny_attempt (wpAny_callSpecial?_slot T Sw.slot_next (wpAny_mono run (fun _ _ f => f.elim) ?_)))
  rintro z s' ⟨h', e, rfl, rfl, k1, o, k2, k3⟩
  refine wpAny_bind (wpAny_isInstance (b := true) ⟨o, k2, k3⟩ isSubtype_stop (wpAny_pure (q h' s.toks fun b o hb e => k1 b o (fun z => hb (by rw [z]; exact List.mem_singleton.mpr rfl)) e)))
 self := fun i s Q E st q => by
  have T : s.TypeIs (.ref it) "set_iterator" := ⟨_, st.1, rfl⟩
  refine wpAny_pyIter_slot T Sw.slot_iter (wpAny_call_entry Sw.slot_iter T Sw.entry_iter ?_ (Sw.args_iter _))
  show wpAny (model prog w) _ (ret (.ref it)) _ _ s
  exact wpAny_pure ⟨_, rfl, "set_iterator", _, T, Sw.slot_next.lookup, q⟩
end
end Y
namespace Y
open PySem PySem.Spec PyProof.Rows L2
structure SetIt (prog : Program) (w : World) (A : Around) (s : Shared) (a : Addr) (es : Array (Int × Value)) (it : Addr) (h' : Heap) : Prop where
 keep : ∀ b o, s.heap.get? b = some o -> h'.get? b = some o
 le : s.heap.objs.size <= it
 walk : ∃ (ord : List Value) (fp : List Addr) (St : Nat -> Heap -> Prop), ord.Perm (es.toList.map (·.2)) ∧ Walks prog w A it fp [it] ord.length (fun i v => ord[i]? = some v) St ∧ St 0 h' ∧ (∀ b ∈ fp, b = a ∨ s.heap.objs.size <= b) ∧ ∀ b ∈ fp, b < h'.objs.size
section
variable {prog : Program} {w : World} {A : Around} {E : Value -> Shared -> Prop} {s : Shared} {a : Addr} {es : Array (Int × Value)} {ep : Nat} {t : SetTable}
theorem is_drawn {Q : Bool -> Shared -> Prop} (T : TxS w s.heap a es ep t) (h : Q (!told w && (!t.plain && decide (es.size > 1))) s) : wpAny (model prog w) A (setDrawn a) Q E s := by
 unfold setDrawn
 exact wpAny_bind (wpAny_setState_of T.at' rfl T.fit (wpAny_bind (by_text (wpAny_pure h))))
theorem walk_drawn {it tup : Addr} {ys : List Nat} (hh : A.handled = none) (hf : t.fits es.size = true) (ha : a ≠ it) (ht : tup ≠ it) (hy : ∀ p ∈ ys, p < es.size) (hl : ys.length = es.size) :
 Walks prog w A it [it, a, tup] [it] es.size (fun i v => (ys.map fun p => ((es[p]?).map (·.2)).getD .none)[i]? = some v) (ItAt it a es ep es.size [(a, setO es ep t), (tup, tupO ys)] fun _ => .ref tup) := by
 have hh1 : A.in1.handled = none := hh
 refine set_walk (pins := [(a, setO es ep t), (tup, tupO ys)]) hh ?_ (by simp [hl]) (fun i s x hx st => ?_) fun s st => ?_
 · intro p hp
   rcases List.mem_cons.mp hp with rfl | hp
   · exact ha
   · rw [List.mem_singleton.mp hp]; exact ht
 · rw [List.getElem?_map] at hx
   cases hq : ys[i]? with
   | none => rw [hq] at hx; cases hx
   | some p =>
    rw [hq] at hx
    have hp := hy p (List.mem_of_getElem? hq)
    have hx : ((es[p]?).map (·.2)).getD .none = x := by simpa using hx
    rw [Array.getElem?_eq_getElem hp] at hx
    exact step_drawn (h0 := es[p].1) st.1 (st.2 _ List.mem_cons_self) (st.2 (tup, tupO ys) (by simp)) hf hq (by rw [Array.getElem?_eq_getElem hp, <- hx]; rfl)
 · exact over_drawn hh1 st.1 (st.2 _ List.mem_cons_self) (st.2 (tup, tupO ys) (by simp)) hf (List.getElem?_eq_none (by omega))
theorem walk_told {it : Addr} (hh : A.handled = none) (hw : told w = true) (hf : t.fits es.size = true) (ha : a ≠ it) :
 Walks prog w A it [it, a] [it] es.size (fun i v => ((pickOrder (w.params.setOrder a ep) es).toList.map (·.2))[i]? = some v) (ItAt it a es ep es.size [(a, setO es ep t)] fun _ => .int 0 0) := by
 have hh1 : A.in1.handled = none := hh
 have hz := (pick_perm (w.params.setOrder a ep) es).length_eq
 rw [Array.length_toList, Array.length_toList] at hz
 refine set_walk (pins := [(a, setO es ep t)]) hh (fun p hp => by rw [List.mem_singleton.mp hp]; exact ha) (by simp [hz]) (fun i s x hx st => ?_) fun s st => ?_
 · refine step_num (nx := 0) st.1 (st.2 _ List.mem_cons_self) hf fun Q E h => next_told hw (st.2 _ List.mem_cons_self) hf ?_
   rw [List.getElem?_map, Array.getElem?_toList] at hx
   cases hq : (pickOrder (w.params.setOrder a ep) es)[i]? with
   | none => rw [hq] at hx; cases hx
   | some e =>
    rw [hq] at hx
    cases hx
    exact h
 · refine over_num hh1 st.1 (st.2 _ List.mem_cons_self) hf fun Q E h => next_told hw (st.2 _ List.mem_cons_self) hf ?_
   rw [Array.getElem?_eq_none (by omega)]
   exact h
theorem walk_few {it : Addr} (hh : A.handled = none) (hw : told w = false) (hled : t.led = true) (h1 : es.size <= 1) (hf : t.fits es.size = true) (ha : a ≠ it) :
 Walks prog w A it [it, a] [it] es.size (fun i v => (es.toList.map (·.2))[i]? = some v) (ItAt it a es ep es.size [(a, setO es ep t)] fun i => .int (if i = 0 then 0 else t.place.getD 0 0 + 1 : Nat) 0) := by
 have hh1 : A.in1.handled = none := hh
 have hp : t.place.size = es.size := by
  have := hf
  unfold SetTable.fits at this
  simp at this
  exact this.1
 refine set_walk (pins := [(a, setO es ep t)]) hh (fun p hp => by rw [List.mem_singleton.mp hp]; exact ha) (by simp) (fun i s x hx st => ?_) fun s st => ?_
 · have hi : i < es.size := by have := (List.getElem?_eq_some_iff.mp hx).1; simpa using this
   obtain rfl : i = 0 := by omega
   refine step_num (nx := t.place.getD 0 0 + 1) st.1 (st.2 _ List.mem_cons_self) hf fun Q E h => next_few hw (st.2 _ List.mem_cons_self) hf hled h1 ?_
   have e0 : ((((if (0 : Nat) = 0 then 0 else t.place.getD 0 0 + 1 : Nat) : Int)).toNat) = 0 := rfl
   rw [e0, below0 _ (by omega), Array.getElem?_eq_getElem hi, Array.getElem?_eq_getElem (by omega : 0 < t.place.size)]
   rw [List.getElem?_map, Array.getElem?_toList, Array.getElem?_eq_getElem hi] at hx
   cases hx
   have e1 : t.place.getD 0 0 = t.place[0]'(by omega) := by simp [Array.getD, (by omega : 0 < t.place.size)]
   rw [e1] at h
   exact h
 · refine over_num hh1 st.1 (st.2 _ List.mem_cons_self) hf fun Q E h => next_few hw (st.2 _ List.mem_cons_self) hf hled h1 ?_
   have e : es[SetTable.below t.place (((if es.size = 0 then 0 else t.place.getD 0 0 + 1 : Nat) : Int)).toNat]? = none := by
    by_cases z : es.size = 0
    · exact Array.getElem?_eq_none (by omega)
    · rw [if_neg z, Int.toNat_natCast]
      have hp1 : t.place.size = 1 := by omega
      obtain ⟨j, hj⟩ : ∃ j, t.place = #[j] := by
       generalize t.place = p at hp1
       match p, hp1 with
       | ⟨[j]⟩, _ => exact ⟨j, rfl⟩
      rw [hj]
      show es[SetTable.below #[j] (j + 1)]? = none
      rw [below1]
      exact Array.getElem?_eq_none (by omega)
   rw [e]
   exact h
theorem set_iter {Q : Value -> Shared -> Prop} (hh : A.handled = none) (T : TxS w s.heap a es ep t) (hz : es.size + 2 <= sizeLine) (q : ∀ it h' d, SetIt prog w A s a es it h' -> Q (.ref it) { s with heap := h', drawn := d }) : wpAny (model prog w) A (pyIter (.ref a)) Q E s := by
 have Ty : s.TypeIs (.ref a) "set" := ⟨_, T.at', rfl⟩
 have la := Heap.lt_size T.at'
 refine wpAny_pyIter_slot Ty PySem.F.slot_set_iter (wpAny_call_entry PySem.F.slot_set_iter Ty Sw.entry_set ?_ (PySem.F.args_set_iter_1 _))
 have fin : ∀ (it : Addr) (h' : Heap) (d : Drawn) (f : Value), SetIt prog w A s a es it h' -> h'.get? it = some (itO f 0 a es.size ep) -> ∃ v, Fin.done (.ret (.ref it)) = Fin.done (.ret v) ∧ ∃ T' r, Shared.TypeIs { s with heap := h', drawn := d } v T' ∧ typeLookup (.type T') "__next__" = pure (some r) ∧ Q v { s with heap := h', drawn := d } :=
  fun it h' d f S e => ⟨_, rfl, "set_iterator", _, ⟨_, e, rfl⟩, Sw.slot_next.lookup, q it h' d S⟩
 unfold Builtin.«frozenset.__iter__»
 generalize hD : setDrawn = D
 generalize hL : Builtin.Frozenset.sizeOf = L
 generalize hP : setEpoch = P
 generalize hN : newFields = N
 generalize hO : @drawOrder = O
 wp_walk
 subst hD hL hP hN hO
 unfold Builtin.Frozenset.sizeOf
 refine wpAny_bind (wpAny_setEntries_of T.at' rfl T.fit (wpAny_pure ?_))
 refine wpAny_bind (is_drawn T ?_)
 dsimp only
 have hz1 : ∀ o : Obj, (s.heap.push o).objs.size = s.heap.objs.size + 1 := fun o => size_push' ..
 cases hc : (!told w && (!t.plain && decide (es.size > 1))) with
 | true =>
  rw [if_pos rfl]
  refine wpAny_bind (draw_all es.size (List.range es.size) (by simp) fun ys d pp => ?_)
  have hl : ys.length = es.size := by rw [pp.length_eq]; simp
  have hy : ∀ p ∈ ys, p < es.size := fun p hp => by simpa using pp.mem_iff.mp hp
  have hsz : sizeOk (.seq (ys.map fun p : Nat => rawInt p).toArray) := by
   show (ys.map fun p : Nat => rawInt p).toArray.size <= sizeLine
   rw [List.size_toArray, List.length_map, hl]; omega
  refine wpAny_bind (wpAny_newObj_type ?_ hsz)
  have at1 := Heap.get?_push_of_some (tupO ys) T.at'
  refine wpAny_bind (wpAny_setEpoch_of (s := { s with heap := s.heap.push (tupO ys), drawn := d }) at1 rfl T.fit ?_)
  refine wpAny_bind (wpAny_newObj_type (wpAny_pure ?_))
  have gt : ((s.heap.push (tupO ys)).push (itO (.ref s.heap.objs.size) 0 a es.size ep)).get? s.heap.objs.size = some (tupO ys) := Heap.get?_push_of_some _ (Heap.get?_push_size _ rfl)
  have gi : ((s.heap.push (tupO ys)).push (itO (.ref s.heap.objs.size) 0 a es.size ep)).get? (s.heap.push (tupO ys)).objs.size = some (itO (.ref s.heap.objs.size) 0 a es.size ep) := Heap.get?_push_size _ rfl
  have ga := Heap.get?_push_of_some (itO (.ref s.heap.objs.size) 0 a es.size ep) at1
  refine fin (s.heap.push (tupO ys)).objs.size _ d (.ref s.heap.objs.size) ⟨fun b o e => Heap.get?_push_of_some _ (Heap.get?_push_of_some _ e), by rw [hz1]; exact Nat.le_succ _, ys.map fun p => ((es[p]?).map (·.2)).getD .none, [(s.heap.push (tupO ys)).objs.size, a, s.heap.objs.size], ItAt (s.heap.push (tupO ys)).objs.size a es ep es.size [(a, setO es ep t), (s.heap.objs.size, tupO ys)] fun _ => .ref s.heap.objs.size, ?_, ?_, ⟨gi, ?_⟩, ?_, ?_⟩ gi
  · have e : (List.range es.size).map (fun p => ((es[p]?).map (·.2)).getD Value.none) = es.toList.map (·.2) := by
     apply List.ext_getElem
     · simp
     · intro i h1 h2
       have hi : i < es.size := by simpa using h1
       simp [hi]
    rw [<- e]
    exact pp.map _
  · rw [List.length_map, hl]
    exact walk_drawn (t := t) hh T.fit (by rw [hz1]; exact Nat.ne_of_lt (Nat.lt_succ_of_lt la)) (by rw [hz1]; exact Nat.ne_of_lt (Nat.lt_succ_self _)) hy hl
  · intro p hp
    rcases List.mem_cons.mp hp with rfl | hp
    · exact ga
    · rw [List.mem_singleton.mp hp]; exact gt
  · intro b hb
    simp only [List.mem_cons, List.not_mem_nil, or_false] at hb
    rcases hb with rfl | rfl | rfl
    · exact .inr (by rw [hz1]; exact Nat.le_succ _)
    · exact .inl rfl
    · exact .inr (Nat.le_refl _)
  · intro b hb
    simp only [List.mem_cons, List.not_mem_nil, or_false] at hb
    rcases hb with rfl | rfl | rfl
    · exact Heap.lt_size gi
    · exact Heap.lt_size ga
    · exact Heap.lt_size gt
 | false =>
  rw [if_neg (by decide)]
  refine wpAny_bind (wpAny_pure (wpAny_bind (wpAny_setEpoch_of T.at' rfl T.fit ?_)))
  refine wpAny_bind (wpAny_newObj_type (wpAny_pure ?_))
  have gi : (s.heap.push (itO (.int 0 0) 0 a es.size ep)).get? s.heap.objs.size = some (itO (.int 0 0) 0 a es.size ep) := Heap.get?_push_size _ rfl
  have ga := Heap.get?_push_of_some (itO (.int 0 0) 0 a es.size ep) T.at'
  have ha : a ≠ s.heap.objs.size := Nat.ne_of_lt la
  have mem : ∀ p ∈ [(a, setO es ep t)], (s.heap.push (itO (.int 0 0) 0 a es.size ep)).get? p.1 = some p.2 := fun p hp => by rw [List.mem_singleton.mp hp]; exact ga
  have f1 : ∀ b ∈ [s.heap.objs.size, a], b = a ∨ s.heap.objs.size <= b := fun b hb => by
   simp only [List.mem_cons, List.not_mem_nil, or_false] at hb
   rcases hb with rfl | rfl
   · exact .inr (Nat.le_refl _)
   · exact .inl rfl
  have f2 : ∀ b ∈ [s.heap.objs.size, a], b < (s.heap.push (itO (.int 0 0) 0 a es.size ep)).objs.size := fun b hb => by
   simp only [List.mem_cons, List.not_mem_nil, or_false] at hb
   rcases hb with rfl | rfl
   · exact Heap.lt_size gi
   · exact Heap.lt_size ga
  have keep : ∀ b o, s.heap.get? b = some o -> (s.heap.push (itO (.int 0 0) 0 a es.size ep)).get? b = some o := fun b o e => Heap.get?_push_of_some _ e
  cases ht : told w with
  | true =>
   have pp := pick_perm (w.params.setOrder a ep) es
   have hl := pp.length_eq
   refine fin s.heap.objs.size _ s.drawn (.int 0 0) ⟨keep, Nat.le_refl _, (pickOrder (w.params.setOrder a ep) es).toList.map (·.2), [s.heap.objs.size, a], ItAt s.heap.objs.size a es ep es.size [(a, setO es ep t)] fun _ => .int 0 0, pp.map _, ?_, ⟨gi, mem⟩, f1, f2⟩ gi
   rw [List.length_map, hl, Array.length_toList]
   exact walk_told (t := t) hh ht T.fit ha
  | false =>
   have h1 : es.size <= 1 := by
    rw [ht] at hc
    by_cases z : es.size = 0
    · omega
    · rw [T.pl z] at hc
      simpa using hc
   refine fin s.heap.objs.size _ s.drawn (.int 0 0) ⟨keep, Nat.le_refl _, es.toList.map (·.2), [s.heap.objs.size, a], ItAt s.heap.objs.size a es ep es.size [(a, setO es ep t)] fun i => .int (if i = 0 then 0 else t.place.getD 0 0 + 1 : Nat) 0, .refl _, ?_, ⟨gi, mem⟩, f1, f2⟩ gi
   rw [List.length_map, Array.length_toList]
   exact walk_few (t := t) hh ht (T.led ht) h1 T.fit ha
end
end Y
namespace Y
open PySem PySem.Spec PyProof.Rows L2
namespace Rv
theorem mro : mroOf (.type "reversed") = pure [.type "reversed", .type "object"] := by rw [mroOf_type]; kernel_rfl
theorem lookup_new : typeLookup (.type "reversed") "__new__" = pure (some (.builtin "reversed.__new__")) := by rw [typeLookup_type, builtinLookup_eq_fast]; kernel_rfl
theorem made : Bind.madeBy (.type "reversed") = pure (some "reversed.__new__") := madeBy_type mro lookup_new (by decide +kernel)
theorem canCreate : ((Manifest.find? "reversed").bind (·.mro.findSome? fun t => (Manifest.find? t).bind fun b => if b.noNew then some true else if b.attrs.any (·.1 == "__new__") then some false else none)).getD false = false := by decide +kernel
theorem other : isSubtype (.type "list_reverseiterator") (.type "reversed") = pure false := by rw [isSubtype_type]; kernel_rfl
end Rv
namespace Rv
theorem slot_next : PySem.Slot "list_reverseiterator" "__next__" "list_reverseiterator.__next__" :=
 by
  refine .of (owner := "list_reverseiterator") (n := "__next__") ?own ?_ ?_ ?_ ?_ ?self
  case own => rw [typeLookup_type, builtinLookup_eq_fast]; kernel_rfl
  case self => rw [isSubtype_type]; kernel_rfl
  all_goals first | decide +kernel | exact .inl (by decide +kernel) | exact .inr (by decide +kernel)
theorem entry_next : entryFor table "list_reverseiterator.__next__" = some Builtin.«list_reverseiterator.__next__» := entryFor_of_tree (by kernel_rfl)
theorem args_next (a : Value) : argsOk "list_reverseiterator.__next__" ⟨[a], []⟩ := by unfold argsOk; kernel_rfl
theorem slot_iter : PySem.Slot "list_reverseiterator" "__iter__" "list_reverseiterator.__iter__" :=
 by
  refine .of (owner := "list_reverseiterator") (n := "__iter__") ?own ?_ ?_ ?_ ?_ ?self
  case own => rw [typeLookup_type, builtinLookup_eq_fast]; kernel_rfl
  case self => rw [isSubtype_type]; kernel_rfl
  all_goals first | decide +kernel | exact .inl (by decide +kernel) | exact .inr (by decide +kernel)
theorem args_iter (a : Value) : argsOk "list_reverseiterator.__iter__" ⟨[a], []⟩ := by unfold argsOk; kernel_rfl
end Rv
end Y
namespace Y
open PySem PySem.Spec PyProof.Rows L2
end Y
namespace Y
open PySem PySem.Spec PyProof.Rows L2 PySem.SeqAt
section
variable {prog : Program} {w : World} {A : Around} {E : Value -> Shared -> Prop} {s : Shared} {it l S : Addr} {items : Array Value}
abbrev AftR (prog : Program) (w : World) (A : Around) (R : Result -> Shared -> Prop) : Fin -> Shared -> Prop := fun x st => match x with
 | .done f => R (.ok f) st
 | .again c => c.quiet = true ∧ codeAny (model prog w) A c R st
end
end Y
namespace Y
open PySem PySem.Spec PyProof.Rows L2 PySem.SeqAt
section
variable {prog : Program} {w : World} {A : Around} {E : Value -> Shared -> Prop} {s : Shared} {a S : Addr} {es : Array (Int × Value)} {ep : Nat} {t : SetTable}
theorem sub_set : isSubtype (.type "set") (.type "set") = pure true := by rw [isSubtype_type]; kernel_rfl
theorem set_hint {Q : Bool -> Shared -> Prop} (T : s.TypeIs (.ref a) "set") (h : Q false s) : wpAny (model prog w) A (Builtin.List.listLengthHint (.ref a)) Q E s := by
 unfold Builtin.List.listLengthHint
 refine wpAny_bind (wpAny_specialOf T PySem.F.slot_set_len.lookup ?_)
 generalize hid : ("set.__len__" : String) = z
 wp_delta
 have sp : splitId z = some ("set", "__len__") := by subst hid; decide +kernel
 rw [sp]
 subst hid
 refine wpAny_bind (wpAny_isInstance (b := true) T sub_set ?_)
 exact wpAny_bind (wpAny_typeOf T (wpAny_pure h))
theorem touch {Q : Unit -> Shared -> Prop} {c0 : Nat} (e : s.heap.get? S = some { cls := .type "list", data := .seq #[] c0 })
 (q : ∀ h' c, (∀ b o, b ≠ S -> s.heap.get? b = some o -> h'.get? b = some o) -> h'.get? S = some { cls := .type "list", data := .seq #[] c } -> Q () { s with heap := h' }) : wpAny (model prog w) A (Builtin.List.listTouch (.ref S)) Q E s := by
 have e1 := Heap.get?_update_self (Obj.mapSeq fun xs => xs.push Value.none) e rfl
 have e2 := Heap.get?_update_self (Obj.mapSeq fun xs => xs.pop) e1 rfl
 refine wpAny_bind (m := updateSeq S fun xs => xs.push .none) (wpAny_updateSeq e rfl (wpAny_updateSeq (hz := by seq_fits) e1 rfl (q _ _ (fun b o hb h => ?_) e2)))
 rw [Heap.get?_update_other _ _ (Ne.symm hb), Heap.get?_update_other _ _ (Ne.symm hb)]
 exact h
theorem set_extend {R : Result -> Shared -> Prop} {c0 : Nat} {res : Value} (hh : A.handled = none) (T : TxS w s.heap a es ep t) (hS : s.heap.get? S = some { cls := .type "list", data := .seq #[] c0 }) (hSa : S ≠ a) (hz : es.size + 2 <= sizeLine)
 (hR : ∀ h' d tk acc c, (∀ b o, b ≠ S -> s.heap.get? b = some o -> h'.get? b = some o) -> h'.get? S = some { cls := .type "list", dict := none, data := .seq acc c, slots := #[] } -> acc.toList.Perm (es.toList.map (·.2)) -> R (.ok (.ret res)) { s with heap := h', drawn := d, toks := tk }) :
 wpAny (model prog w) A.in1 (Builtin.List.listExtendWith (.ref S) (.ref a) res) (AftR prog w A R) (fun e s' => R (.error e) s') s := by
 have Ty : s.TypeIs (.ref a) "set" := ⟨_, T.at', rfl⟩
 have same : Builtin.List.listSameRef (.ref S) (.ref a) = false := by simp [Builtin.List.listSameRef, hSa]
 have hh1 : A.in1.handled = none := hh
 unfold Builtin.List.listExtendWith
 refine wpAny_bind (wpAny_typeOf Ty ?_)
 rw [if_neg (by rw [same]; decide)]
 refine wpAny_bind (set_iter hh1 T hz fun it h1 d SI => ?_)
 obtain ⟨ord, fp, St, pp, W, st, f1, f2⟩ := SI.walk
 have T1 : Shared.TypeIs { s with heap := h1, drawn := d } (.ref a) "set" := ⟨_, SI.keep _ _ T.at', rfl⟩
 refine wpAny_bind (wpAny_holding (set_hint T1 ?_))
 rw [if_pos (by decide)]
 refine wpAny_bind (wpAny_rule (wpAny_bind ?_))
 have hS1 := SI.keep _ _ hS
 have lS := Heap.lt_size hS
 have nS : ∀ b ∈ fp, b ≠ S := fun b hb z => by
  rcases f1 b hb with e | e
  · exact hSa (z.symm.trans e)
  · exact absurd lS (by rw [<- z]; exact Nat.not_lt.mpr e)
 refine touch (s := { s with heap := h1, drawn := d }) hS1 fun h2 c2 oth hS3 => ?_
 have hn : ord.length <= sizeLine := by rw [pp.length_eq, List.length_map, Array.length_toList]; omega
 refine wpAny_pure ⟨plainId_quiet PySem.F.plain_extend_loop _, codeAny_extend_loopS W.toS hn S (fun z => nS S z rfl) res ord.length 0 _ #[] _ rfl (Nat.zero_le _) (W.frame 0 _ _ st fun b hb o e => oth b o (nS b hb) e) hS3 (ItemsOf.nil _) fun s' acc c m e1 e2 => ?_⟩
 obtain ⟨h', g', d', tk', os'⟩ := s'
 have q1 : g' = s.gens := m.gens
 have q2 : d' = d := m.drawn
 have q3 : os' = s.os := m.os
 subst q1 q2 q3
 refine hR h' d' tk' acc c (fun b o hb e => m.heap b o (fun z => ?_) (oth b o hb (SI.keep b o e))) e1 ?_
 · rcases List.mem_cons.mp z with z | z
   · exact hb z
   · exact absurd (Heap.lt_size e) (by rw [List.mem_singleton.mp z]; exact Nat.not_lt.mpr SI.le)
 · have e : acc.toList = ord := by
    apply List.ext_getElem?
    intro i
    by_cases hi : i < acc.size
    · have := e2.2 i acc[i] (Array.getElem?_eq_getElem hi)
      rw [this, Array.getElem?_toList, Array.getElem?_eq_getElem hi]
    · rw [List.getElem?_eq_none (by rw [Array.length_toList]; omega), List.getElem?_eq_none (by rw [<- e2.1]; omega)]
   rw [e]; exact pp
theorem set_collect {Q : List Value -> Shared -> Prop} (hh : A.handled = none) (T : TxS w s.heap a es ep t) (hz : es.size + 2 <= sizeLine)
 (q : ∀ h' d tk (acc : List Value), (∀ b o, s.heap.get? b = some o -> h'.get? b = some o) -> acc.Perm (es.toList.map (·.2)) -> Q acc { s with heap := h', drawn := d, toks := tk }) : wpAny (model prog w) A (collect (.ref a)) Q E s := by
 have hh1 : A.in1.handled = none := hh
 have la := Heap.lt_size T.at'
 unfold collect
 refine wpAny_bind (wpAny_runValue (codeAny_builtin PySem.F.entry_proto_collect ?_))
 rw [Around.under_plainId PySem.F.plain_proto_collect _]
 refine wpAny_bind (m := newList []) (wpAny_newObj_type (wpAny_pure ⟨plainId_quiet PySem.F.plain_list_iadd _, codeAny_builtin PySem.F.entry_list_iadd ?_⟩))
 rw [Around.under_plainId PySem.F.plain_list_iadd _]
 have hS : (s.heap.push { cls := .type "list", data := .seq ([] : List Value).toArray }).get? s.heap.objs.size = some { cls := .type "list", data := .seq #[] } := Heap.get?_push_size _ rfl
 have T1 : TxS w (s.heap.push { cls := .type "list", data := .seq ([] : List Value).toArray }) a es ep t := ⟨Heap.get?_push_of_some _ T.at', T.el, T.fit, T.led, T.pl⟩
 have run := set_extend (prog := prog) (A := A) (s := { s with heap := s.heap.push { cls := .type "list", data := .seq ([] : List Value).toArray } }) (res := .ref s.heap.objs.size) (R := fun r s' => ∃ h' d tk acc c, r = .ok (.ret (.ref s.heap.objs.size)) ∧ s' = { s with heap := h', drawn := d, toks := tk } ∧ (∀ b o, s.heap.get? b = some o -> h'.get? b = some o) ∧ h'.get? s.heap.objs.size = some { cls := .type "list", dict := none, data := .seq acc c, slots := #[] } ∧ acc.toList.Perm (es.toList.map (·.2)))
  hh T1 hS (Nat.ne_of_gt la) hz fun h' d tk acc c k1 k2 k3 => ⟨h', d, tk, acc, c, rfl, rfl, fun b o e => k1 b o (Nat.ne_of_lt (Heap.lt_size e)) (Heap.get?_push_of_some _ e), k2, k3⟩
 show wpAny _ A.in1 (Builtin.List.listExtendWith (.ref s.heap.objs.size) (.ref a) (.ref s.heap.objs.size)) _ _ _
 refine wpAny_mono run (fun x s' z => ?_) fun e s' z => ?_
 · cases x with
   | done f =>
    obtain ⟨h', d, tk, acc, c, e, rfl, k1, k2, k3⟩ := z
    cases e
    exact wpAny_bind (wpAny_load k2 (wpAny_pure (q h' d tk _ k1 k3)))
   | again c =>
    refine ⟨z.1, codeAny_mono z.2 fun r s2 y => ?_⟩
    obtain ⟨h', d, tk, acc, c, rfl, rfl, k1, k2, k3⟩ := y
    exact wpAny_bind (wpAny_load k2 (wpAny_pure (q h' d tk _ k1 k3)))
 · obtain ⟨_, _, _, _, _, e', _⟩ := z
   cases e'
end
end Y
namespace Y
open PySem PySem.Spec PyProof.Rows L2
variable [Tabs]
theorem law_callT {P : Program} {w : World} {K : PySem.W.Frag} {mg mb : Str -> Option Value} {k : Nat} {fa a : Addr} {fd : FuncData} {x : Str} {s₁ : Shared} {vs : List Value} {ns : List Int}
 (KX : K.In s₁.heap) (hns : s₁.heap.Ns mainGlobals mg) (hb : s₁.heap.Ns builtinsNs mb) (hbb : ∀ x : Str, x ≠ "__name__" -> mb x = bootBuiltins x) (hlim : s₁.heap.NoLimit) (hg : s₁.gens = #[])
 (ha : s₁.heap.get? a = some { cls := .type "list", data := .seq vs.toArray }) (hi : IntsAre vs ns) (hl : ns.length <= 63) (hr : Room k callerA)
 (hT : ∀ q ∈ Tabs.T, s₁.heap.get? q.1 = some (PySem.W.tabObj #[]) ∧ K.lookup q.1 = none ∧ PySem.isCodeTable s₁.heap q.1)
 (hbm : BmB mg s₁.heap) (F : ∀ base : Heap, K.In base -> base.Ns mainGlobals mg -> BmB mg base -> FnOk P w K mg base CX0 k fa fd [x] (spLaw K)) (hbind : ∀ (s : Shared) (u : Value), BindsTo s fd ⟨[u], []⟩ [(x, u)]) :
 codeAny (model P w) callerA (.call (.ref fa) ⟨[.ref a], []⟩) (fun r s' => r = .ok (.ret (.bool true)) ∧ OldK s₁.heap s'.heap ∧ s'.os = s₁.os ∧ AllBare s'.gens) s₁ := by
 have rv := vals_ints hi
 have lenV := hi.length
 have hz : ns.length <= sizeLine := Nat.le_trans hl (by decide)
 have aT : ∀ q ∈ Tabs.T, q.1 ≠ a := fun q hq z => by
  have e := (hT q hq).1
  rw [z, ha] at e
  cases e
 have core : ∀ H0 : Hp, (∀ b, b ≠ a -> H0 b = none) -> (H0 a = none ∨ ∃ o xs, H0 a = some (.frz o (.lst xs))) -> SqL K H0 a (ns.map V.int) -> HOk P w H0 s₁.heap -> (H0 a ≠ none -> K.lookup a = none) ->
  codeAny (model P w) callerA (.call (.ref fa) ⟨[.ref a], []⟩) (fun r s' => r = .ok (.ret (.bool true)) ∧ OldK s₁.heap s'.heap ∧ s'.os = s₁.os ∧ AllBare s'.gens) s₁ := by
  intro H0 hO hO2 hS hok0 hK
  obtain ⟨H, hHt, hHn⟩ : ∃ H : Hp, (∀ b, (∃ q ∈ Tabs.T, q.1 = b) -> H b = some (.tbl #[])) ∧ ∀ b, ¬ (∃ q ∈ Tabs.T, q.1 = b) -> H b = H0 b :=
   open Classical in ⟨fun b => if ∃ q ∈ Tabs.T, q.1 = b then some (.tbl #[]) else H0 b, fun b hb => if_pos hb, fun b hb => if_neg hb⟩
  have na : ¬ (∃ q ∈ Tabs.T, q.1 = a) := fun ⟨q, hq, z⟩ => aT q hq z
  have Ha := hHn a na
  have cs : ∀ b u, H b = some u -> (b = a ∧ H0 a = some u) ∨ (∃ q ∈ Tabs.T, q.1 = b) ∧ u = .tbl #[] := fun b u e => by
   by_cases z : ∃ q ∈ Tabs.T, q.1 = b
   · rw [hHt b z] at e; cases e; exact .inr ⟨z, rfl⟩
   · rw [hHn b z] at e
     by_cases z2 : b = a
     · subst z2; exact .inl ⟨rfl, e⟩
     · rw [hO b z2] at e; cases e
  have hok : HOk P w H s₁.heap := fun b u e => by
   rcases cs b u e with ⟨rfl, e0⟩ | ⟨⟨q, hq, rfl⟩, rfl⟩
   · exact (hok0 _ _ e0).stay (fun b' v' hb' q => q) (fun b' q => by
      have : b' = b := by
       by_cases z : b' = b
       · exact z
       · rw [hO b' z] at q; cases q
      subst this
      rcases hO2 with z | ⟨_, _, z⟩
      · rw [z] at q; cases q
      · rw [z] at q; cases q) fun b' xs q => by
      have : b' = b := by
       by_cases z : b' = b
       · exact z
       · rw [hO b' z] at q; cases q
      subst this
      rcases hO2 with z | ⟨_, _, z⟩
      · rw [z] at q; cases q
      · rw [z] at q; cases q
   · exact (hT q hq).1
  have tabs : TabsOk H := fun q hq => ⟨#[], hHt q.1 ⟨q, hq, rfl⟩, trivial, fun pos cv z => by simp [codeAmong] at z⟩
  have hS' : SqL K H a (ns.map V.int) := by
   rcases hS with (h | ⟨o, h⟩) | h
   · exact .inl (.inl (by rw [Ha]; exact h))
   · exact .inl (.inr ⟨o, by rw [Ha]; exact h⟩)
   · exact .inr h
  have base_of : ∀ {b : Addr} {o : Obj}, s₁.heap.get? b = some o -> H b = none -> (hidT s₁.heap H).get? b = some o := fun e n => hidT_get e n
  have noA : ∀ {b : Addr} {o : Obj} {es : Array DictEntry} {ep : Nat}, s₁.heap.get? b = some o -> o.data = .dict es ep -> H b = none := fun {b o es ep} e d => by
   cases q : H b with
   | none => rfl
   | some u =>
    rcases cs b u q with ⟨rfl, _⟩ | ⟨⟨q', hq', rfl⟩, _⟩
    · rw [ha] at e; cases e; cases d
    · rw [(hT q' hq').1] at e; cases e; cases d
  have nsK : ∀ {b : Addr} {m : Str -> Option Value}, s₁.heap.Ns b m -> (hidT s₁.heap H).Ns b m := fun {b m} ⟨o, es, ep, e, d, r⟩ => ⟨o, es, ep, base_of e (noA e d), d, r⟩
  have hKb : K.In (hidT s₁.heap H) := fun b o e => base_of (KX b o e) (by
   cases q : H b with
   | none => rfl
   | some u =>
    rcases cs b u q with ⟨rfl, e0⟩ | ⟨⟨q', hq', rfl⟩, _⟩
    · rw [hK (by rw [e0]; simp)] at e; cases e
    · rw [(hT q' hq').2.1] at e; cases e)
  have hBm : BmB mg (hidT s₁.heap H) := by
   obtain ⟨bm, ob, b1, b2, b3, b4, b5, b6, b7⟩ := hbm
   refine ⟨bm, ob, b1, base_of b2 ?_, b3, b4, b5, b6, b7⟩
   cases q : H bm with
   | none => rfl
   | some u =>
    rcases cs bm u q with ⟨rfl, _⟩ | ⟨⟨q', hq', rfl⟩, _⟩
    · rw [ha] at b2; cases b2; injection b5 with b5; exact absurd b5 (by decide)
    · rw [(hT q' hq').1] at b2; cases b2; cases b5
  have hM : Mod K mg (hidT s₁.heap H) := ⟨hKb, nsK hns, ⟨mb, nsK hb, hbb⟩, let ⟨mc, h1, h2⟩ := hlim; ⟨mc, nsK h1, h2⟩⟩
  have e0 : Env0 P w K mg (hidT s₁.heap H) callerA [] s₁ H := ⟨rfl, hM, fun b o e => of_hidT e, Nat.le_of_eq (hidT_size _ _), trivial, fun b hb => absurd (show b ∈ ([] : List Addr) from hb) (by simp), hok, .of_eq hg⟩
  refine codeAny_mono ((F _ hKb (nsK hns) hBm).run callerA [] s₁ H ⟨[.ref a], []⟩ [.ref a] [.ref a] (fun v _ => v = .bl true) E0 hr e0 (hbind s₁ (.ref a)) (.cons rfl .nil) ⟨a, ns, rfl, hS', hl, tabs, fun _ => rfl⟩) fun r s' h => ?_
  cases r with
  | error e => exact False.elim h
  | ok fl =>
   cases fl with
   | next => exact False.elim h
   | brk => exact False.elim h
   | cont => exact False.elim h
   | ret u =>
    obtain ⟨v, H', os, bare, un, hok', r', q⟩ := h
    have q' : v = .bl true := q
    subst q'
    obtain rfl : u = Value.bool true := r'
    refine ⟨rfl, ⟨fun b o e => ?_, fun b o e => un.there b o e (by simp)⟩, os, bare⟩
    cases q : H b with
    | none => exact .inl (un.keep b o e q (by intro z; exact absurd (show b ∈ ([] : List Addr) from z) (by simp)) (by simp))
    | some u =>
     rcases cs b u q with ⟨rfl, e0'⟩ | ⟨⟨q', hq', rfl⟩, rfl⟩
     · rcases hO2 with z | ⟨ob, xs, z⟩
       · rw [z] at e0'; cases e0'
       · rw [z] at e0'
         cases e0'
         have z2 := un.frzs b ob _ q
         obtain ⟨e1, _⟩ := hok b _ q
         obtain ⟨e2, _⟩ := hok' b _ z2
         rw [e] at e1; cases e1
         exact .inl e2
     · obtain ⟨more, z⟩ := un.tbls q'.1 #[] q
       have e2 := hok' _ _ z
       rw [(hT q' hq').1] at e
       cases e
       exact .inr (.inl ⟨(hT q' hq').2.2, rfl, #[], more, rfl, e2⟩)
 cases hk : K.lookup a with
 | some o =>
  have e := KX a o hk
  rw [ha] at e
  cases e
  exact core (fun _ => none) (fun _ _ => rfl) (.inl rfl) (.inr ⟨_, vs.toArray, _, hk, rfl, rfl, rfl, by rw [List.size_toArray, lenV]; exact hz, by simpa using rv⟩) (fun b u z => nomatch z) fun z => absurd rfl z
 | none =>
  refine core (fun b => if b = a then some (.frz { cls := .type "list", data := .seq vs.toArray } (.lst (ns.map V.int))) else none) (fun b hb => if_neg hb) (.inr ⟨_, _, if_pos rfl⟩) (.inl (.inr ⟨{ cls := .type "list", data := .seq vs.toArray }, if_pos rfl⟩)) (fun b u z => ?_) fun _ => hk
  by_cases hb : b = a
  · have z' := (if_pos hb).symm.trans z
    cases z'
    subst hb
    exact ⟨ha, by rw [List.length_map]; exact hz, vs, _, rv, ha⟩
  · have z' := (if_neg hb).symm.trans z
    cases z'
theorem walkT {l : PySem.W.OpenLaw} {q : Program} {loose : List Str} {XP : (Str -> Option Value) -> Heap -> Prop} {YP : World -> Heap -> Prop} {d : DefRec} {K : Params -> PySem.W.Frag} {x : Str} {k : Nat} (hn : l.most = some 63) (hdf : d.params.defaults = []) (hr : Room k callerA)
 (hY : ∀ (w : World) (h : Heap), YP w h -> (K w.params).In h)
 (hT : ∀ (w : World) (h : Heap), YP w h -> ∀ q ∈ Tabs.T, h.get? q.1 = some (PySem.W.tabObj #[]) ∧ (K w.params).lookup q.1 = none ∧ PySem.isCodeTable h q.1)
 (F : ∀ (w : World) (mg : Str -> Option Value) (fa : Addr) (h : Heap), (K w.params).In h -> h.Ns mainGlobals mg -> mg d.name = some (.ref fa) ->
  ∃ fd : FuncData, (∀ (s : Shared) (u : Value), BindsTo s fd ⟨[u], []⟩ [(x, u)]) ∧ ∀ base : Heap, (K w.params).In base -> base.Ns mainGlobals mg -> BmB mg base -> FnOk l.prog w (K w.params) mg base CX0 k fa fd [x] (spLaw (K w.params))) :
 PySem.W.WalkO q loose XP YP l.row.toRowW d [] (fun f vs => PySem.call f vs) := by
 refine Att.attach_call hn hdf fun w s₀ s₁ mg mb fa o pm cd doc a vs ns G Y ho hd hcd hmg hobj hints hlen hg => ?_
 have KX := hY w _ Y
 obtain ⟨fd, hb, hF⟩ := F w mg fa _ KX G.T.g hmg
 have hbm : BmB mg s₁.heap := by
  obtain ⟨bm, ob, b1, b2, b3, b4, b5, b6⟩ := G.T.bmain
  refine ⟨bm, ob, b1, b3, b2, fun z => ?_, b4, b5, b6⟩
  obtain ⟨o, es, ep, e, hd, _⟩ := G.T.g
  rw [z, e] at b3; cases b3; rw [hd] at b6; cases b6
 exact law_callT KX G.T.g G.T.b G.T.builtins G.T.nolimit hg hobj hints hlen hr (hT w _ Y) hbm hF hb
structure FunC (K : PySem.W.Frag) (x qual : Str) (st : Stmt) (f : Addr) (fd : FuncData) (c : Addr) : Prop where
 ex : ∃ (oc : Value) (od : Option Addr) (kV doc pm : Value) (an : Option Addr) (ct : Value) (osl : Array (Option Value)),
  fd = PySem.W.fnOf x qual (defArgs st) (defBody st) (defScope st) .none kV doc pm an (.ref c) ct ∧ K.lookup f = some ⟨oc, od, .func fd, osl⟩ ∧ PySem.W.codeIn K (.ref c) qual = true
 kp : PySem.W.keepIn K (.ref f) = true
theorem tabs_ok {K : Params -> PySem.W.Frag} {as : List Addr} {e : ∀ P, as = (K P).map (·.1)} {ts : List Addr} {w : World} {h : Heap} (Yk : (PySem.W.kmHook K as e ts).says w h) {c P : Addr} (hm : P ∈ ts) (hl : (K w.params).lookup P = none) (hc : PySem.W.codeHdIn (K w.params) c P = true) :
 h.get? P = some (PySem.W.tabObj #[]) ∧ (K w.params).lookup P = none ∧ PySem.isCodeTable h P := by
 obtain ⟨o, vs, _, _, _, _, _, _, _, e1, e2, e3, e4, _⟩ := PySem.W.codeHd_of_K (PySem.W.km_in_of Yk) hc
 exact ⟨PySem.W.km_tabs_of Yk P hm, hl, c, o, vs, e1, e2, e3, e4⟩
theorem FunC.fn {K : PySem.W.Frag} {x qual : Str} {st : Stmt} {f c : Addr} {fd : FuncData} (F : FunC K x qual st f fd c) : Fun K x qual st f fd := by
 obtain ⟨oc, od, kV, doc, pm, an, ct, osl, e, lk, hcd⟩ := F.ex
 exact ⟨⟨oc, od, kV, doc, pm, an, .ref c, ct, osl, e, lk, hcd⟩, F.kp⟩
theorem funC_mk {K : PySem.W.Frag} {x qual : Str} {st : Stmt} {f c : Addr} {oc kV doc pm ct : Value} {od an : Option Addr} {osl : Array (Option Value)}
 (l : K.lookup f = some ⟨oc, od, .func (PySem.W.fnOf x qual (defArgs st) (defBody st) (defScope st) .none kV doc pm an (.ref c) ct), osl⟩) (hc : PySem.W.codeIn K (.ref c) qual = true) (k : PySem.W.keepIn K (.ref f) = true) :
 FunC K x qual st f (PySem.W.fnOf x qual (defArgs st) (defBody st) (defScope st) .none kV doc pm an (.ref c) ct) c := ⟨⟨oc, od, kV, doc, pm, an, ct, osl, rfl, l, hc⟩, k⟩
section
variable {P : Program} {w : World} {K : PySem.W.Frag} {mg : Str -> Option Value} {base : Heap}
theorem def_ofC {x qual : Str} {st : Stmt} {f c : Addr} {fd : FuncData} {N ps : List Str} {k : Nat} {m : Bool} {G : List D -> D -> Prop} (Fx : FunC K x qual st f fd c) (S : FnScope N ps (defScope st)) (hmg : mg x = some (.ref f)) (hb : Binds K fd ps [])
 (hlen : ∀ ds d, G ds d -> ds.length = ps.length)
 (body : ∀ (A : Around) (outer : List Env) (s : Shared) (H : Hp) (E : XK) (Z : Zone) (ds : List D) (d : D), Room k (A.deeper (envOfC qual (defScope st) s.heap.objs.size f (.ref c))) -> G ds d ->
  SD (cxOf CX0 P w K mg base N qual (defScope st) f (.ref c) A outer s H E).nox ⟨m, Z, H⟩ (defBody st) (startD N ds) { nx := fun _ => d = .non, rt := fun d' => d' = d }) : Def P w K mg base (k + 1) x m G := by
 refine ⟨f, fd, ps, ?_, hmg, Fx.kp, hb⟩
 obtain ⟨oc, od, kV, doc, pm, an, ct, osl, rfl, lk, hcd⟩ := Fx.ex
 refine fn_of lk hcd S (fun vs H Q E ⟨Z, ds, d, oz, i, g, kk⟩ => ?_) fun A outer s H vs Q E hr ⟨Z, ds, d, oz, i, g, kk⟩ => ?_
 · rw [<- i.length]; exact hlen ds d g
 · refine ⟨_, PSs.nox (body A outer s H E Z ds d hr g), [], [], fun _ => [], ?_, start_in oz i, ⟨rfl, fun σ H' ⟨r, A', hl, S', e⟩ => ?_, fun σ H' ⟨r, A', hl, S', e⟩ => e.elim, fun σ H' ⟨r, A', hl, S', e⟩ => e.elim, fun v d' H' s' i' e => ?_, fun _ _ _ _ _ _ _ _ e => e.elim, fun _ _ _ _ _ _ _ _ _ _ _ _ _ e => e.elim⟩⟩
   · have := i.length
     simp [L2.start, startD]; omega
   · subst e
     exact kk .non H' S'.same (in_non.mpr rfl)
   · subst e
     exact kk v H' s' i'
end
structure LamK (K : PySem.W.Frag) (mg : Str -> Option Value) (base : Heap) (c P : Addr) (qn : Str) : Prop where
 hd : PySem.W.codeHdIn K c P = true
 tab : (P, qn) ∈ Tabs.T
 one : ∀ q ∈ Tabs.T, q.1 = P -> q.2 = qn
 bm : BmB mg base
 gP : mainGlobals ≠ P
theorem LamK.cx {X : Cx} {c P : Addr} {qn : Str} (L : LamK X.K X.mg X.base c P qn) (h1 : X.env.code = .ref c) (h2 : X.env.qual ++ ("<lambda>" : Str) = qn) : LamCx X c P qn := ⟨h1, L.hd, L.tab, L.one, h2, L.bm, L.gP⟩
theorem Lin.sub {P Q : D -> Prop} (L : Lin P) (h : ∀ d, Q d -> P d) : Lin Q :=
 ⟨fun a x => L.ir a (h a x), fun a b c x y z => L.tr a b c (h a x) (h b y) (h c z), fun a b x y => L.tt a b (h a x) (h b y), fun a b x y => L.cm a b (h a x) (h b y), fun a b x y => L.eq a b (h a x) (h b y)⟩
def ordD (rows : List (List Str)) (p : Nat × Nat) : D := .tup [strsD (endAt rows p), plD p]
def keyD (rows : List (List Str)) : D -> D
 | .tup [.int r, .int c] => .tup [strsD (endAt rows (r.toNat, c.toNat)), .tup [.int r, .int c]]
 | _ => .non
theorem keyD_pl (rows : List (List Str)) (p : Nat × Nat) : keyD rows (plD p) = ordD rows p := by simp [keyD, plD, ordD]
def isOrd (d : D) : Prop := ∃ (ws : List Str) (p : Nat × Nat), d = .tup [strsD ws, plD p]
theorem lin_ord : Lin isOrd := (lin_tup (lin_pr2 (lin_lst lin_str) (lin_tup fun _ => lin_int))).sub fun d ⟨ws, p, e⟩ => by
 subst e
 refine ⟨_, rfl, ⟨_, rfl, fts_strs ws⟩, ⟨_, rfl, ⟨p.1, rfl⟩, ⟨p.2, rfl⟩, trivial⟩, trivial⟩
where
 fts_strs (ws : List Str) : Fts (fun _ => isStr) (ws.map D.str) := fits_all fun d hd => by
  obtain ⟨w, _, rfl⟩ := List.mem_map.mp hd
  exact ⟨w, rfl⟩
theorem kind_ord : KindOf isOrd (tuples' true) := .tup "list" (.inr (.inr rfl)) fun d ⟨ws, p, e⟩ => ⟨strsD ws, [plD p], e, rfl, rfl⟩
theorem mem_allP {rows : List (List Str)} {p : Nat × Nat} (h : p ∈ allP rows) : p.1 < rows.length := by
 unfold allP allPn at h
 obtain ⟨r, hr, h2⟩ := List.mem_flatMap.mp h
 obtain ⟨a, _, rfl⟩ := List.mem_map.mp h2
 simpa using hr
theorem allP_tot (rows : List (List Str)) : (allP rows).length = tot rows := by
 unfold allP
 rw [allPn_len rows rows.length (Nat.le_refl _), List.take_length]
 rfl
theorem deps_strs : ∀ ws : List Str, deps (ws.map D.str) = 0
 | [] => rfl
 | w :: ws => by simp [deps, D.dep, deps_strs ws]
theorem ordD_room {k : Nat} {A : Around} {rows : List (List Str)} {p : Nat × Nat} (r : Room k A) : A.units + 2 + (ordD rows p).dep < cLine := by
 have h := r.un
 have e : (ordD rows p).dep = 2 := by simp [ordD, strsD, plD, D.dep, deps, deps_strs]
 omega
def lamScope (st : Stmt) : List (Str × NameKind) := match defBody st with
 | [.Return (some (.Call _ _ [⟨_, .Lambda _ _ sc _, _⟩] _)) _] => sc.names
 | _ => []
def gOrder (ds : List D) (d : D) : Prop := ∃ (rows : List (List Str)) (p : Nat × Nat), p.1 < rows.length ∧ ds = [rowsD rows, plD p] ∧ d = ordD rows p
def endsD (rows : List (List Str)) : D := .lst (srt (keyD rows) ((allP rows).map plD))
def gEnds (ds : List D) (d : D) : Prop := ∃ rows : List (List Str), tot rows < 64 ∧ ds = [rowsD rows] ∧ d = endsD rows
theorem srt_up {P : D -> Prop} {f : D -> D} (L : Lin P) {ds : List D} (hP : ∀ d ∈ ds, P (f d)) : (srt f ds).Pairwise fun x y => dor .lt (f y) (f x) = false := by
 let es : List {d // P (f d)} := ds.attach.map fun d => ⟨d.1, hP d.1 d.2⟩
 have e : ds = es.map (·.1) := by simp [es]
 have e2 : srt f ds = (es.mergeSort fun x y => !dor .lt (f y.1) (f x.1)).map (·.1) := by
  unfold srt
  rw [e]
  exact (List.map_mergeSort (f := fun z : {d // P (f d)} => z.1) (r := fun x y => !dor .lt (f y.1) (f x.1)) (s := fun x y => !dor .lt (f y) (f x)) (fun a _ b _ => rfl)).symm
 rw [e2, List.pairwise_map]
 refine (List.pairwise_mergeSort (le := fun (x y : {d // P (f d)}) => !dor .lt (f y.1) (f x.1)) (fun a b c h1 h2 => ?_) (fun a b => ?_) es).imp fun h => by simpa using h
 · simp only [Bool.not_eq_true'] at *
   cases q : dor .lt (f c.1) (f a.1) with
   | false => rfl
   | true =>
    cases q2 : dor .lt (f a.1) (f b.1) with
    | true => rw [L.tr _ _ _ c.2 a.2 b.2 q q2] at h2; cases h2
    | false => rw [L.tt _ _ a.2 b.2 q2 h1] at q; rw [q] at h2; cases h2
 · cases q : dor .lt (f b.1) (f a.1) with
   | false => simp
   | true =>
    cases q2 : dor .lt (f a.1) (f b.1) with
    | false => simp
    | true => have w := L.tr _ _ _ a.2 b.2 a.2 q2 q; rw [L.ir _ a.2] at w; cases w
end Y
namespace Y
open PySem PySem.Spec PyProof.Rows L2 PySem.SeqAt
variable [Tabs]
theorem Inv.drew {X : Cx} {pins : List (Addr × Obj)} {σ : St} {H : Hp} {s : Shared} {d : Drawn} (I : L2.Inv X pins σ H s) : L2.Inv X pins σ H { s with drawn := d } :=
 I.step (h' := s.heap) (g' := s.gens) (t' := s.toks) (ch := []) (fun _ z => nomatch z) (fun _ _ _ _ _ e _ => e) (fun _ o _ _ _ e _ => ⟨o.slots, e⟩) (fun _ _ _ _ n => n) (fun _ o _ e => ⟨o, e⟩) (fun _ _ e => e) (fun _ _ _ e => e) (fun b ps e => ⟨#[], by rw [e]; simp⟩) (fun _ h => h) I.hok I.bare
theorem kind_str : KindOf isStr oneType' := .one "str" (.inr (.inl rfl)) fun d ⟨x, e⟩ => by subst e; exact ⟨rfl, rfl⟩
def upT (ws : List Str) : List D := srt id ((onceT ws).map D.str)
theorem tx_vals {w : World} : ∀ {us : List Value}, (∀ u ∈ us, ∃ x t, u = .str x t) -> Vals ((us.map txt).map V.str) us
 | [], _ => .nil
 | u :: us, h => by
  obtain ⟨x, t, rfl⟩ := h u List.mem_cons_self
  exact .cons ⟨t, rfl⟩ (tx_vals (w := w) fun v hv => h v (List.mem_cons_of_mem _ hv))
theorem up_perm {ws ks : List Str} (h : ks.Perm (onceT ws)) : srt id (ks.map D.str) = upT ws := by
 have hP : ∀ (l : List Str), ∀ d ∈ l.map D.str, isStr (id d) := fun l d hd => by
  obtain ⟨x, _, rfl⟩ := List.mem_map.mp hd
  exact ⟨x, rfl⟩
 exact srt_one lin_str (f := id) (hP _) (fun _ _ _ _ e => e) ((srt_perm _ _).trans (h.map _)) (srt_up lin_str (hP _))
section
variable {X : Cx} {ρ : List (Option D)} {m m1 : Bool} {a : Expr} {ws : List Str} {p p2 pos pos2 : Pos}
theorem e_sortedSet (ha : E X m1 ρ a (strsD ws)) (h64 : ws.length < 64) (hu : X.A.units + 3 < cLine) (hh : X.A.handled = none) (hmS : X.mg "sorted" = none) (hmT : X.mg "set" = none)
 (hgS : Gl X "sorted" := by rfl) (hgT : Gl X "set" := by rfl) (hs : starEach [a] X.env = [(false, eval a X.env)] := by rfl) (hs2 : starEach [.Call (.Name "set" p2) [a] [] pos2] X.env = [(false, eval (.Call (.Name "set" p2) [a] [] pos2) X.env)] := by rfl) :
 E X m ρ (.Call (.Name "sorted" p) [.Call (.Name "set" p2) [a] [] pos2] [] pos) (.lst (upT ws)) := by
 intro pins s σ H Q I ⟨Z, oz, en, k⟩
 refine wpAny_Call_Name_kw (ld_blt I hgS hmS PyProof.Rows.boot_sorted ?_ (by decide) (by decide))
 refine PyProof.Rows.callWith_builtin1 ?_ (by rw [hs2]; rfl) (by rfl)
 rw [hs2]
 refine Calls.spliced_cons ?_
 refine wpAny_Call_Name_kw (ld_blt I hgT hmT PyProof.Rows.boot_set ?_ (by decide) (by decide))
 refine callWith_type1 (thn (pa_cons ha pa_nil (by rw [hs]; rfl) pos2 pins s σ H (fun vs H1 => Same H H1 ∧ ∃ x, vs = [x] ∧ In X.K H1 (out m1 Z H) (strsD ws) x) I ⟨Z, oz, en, fun x H1 s1 i1 => ⟨s1, x, rfl, i1⟩⟩) fun us s1 ⟨vs, H1, I1, r1, sm1, x, e, i1⟩ => ?_) (by rw [hs]; rfl) (by rfl)
 subst e
 obtain ⟨l, xs, rfl, at', j⟩ := in_lst.mp i1
 obtain ⟨u, rfl, rx⟩ := vals1 r1
 cases rx
 have exs := ins_strs_inv j
 subst exs
 obtain ⟨its, rv, pl, hz⟩ := I1.list at'.sq
 have zl := rv.length
 rw [List.length_map] at zl
 have hi : ∀ (i : Nat) (v : Value), its.toArray[i]? = some v -> ∃ t, v = .str (ws.getD i "") t := fun i v hv => by
  rw [List.getElem?_toArray] at hv
  have hl : i < ws.length := by have := (List.getElem?_eq_some_iff.mp hv).1; omega
  obtain ⟨u, eu, ru⟩ := rv.get (i := i) (x := V.str ws[i]) (by simp [hl])
  rw [eu] at hv
  cases hv
  obtain ⟨t, rfl⟩ := ru
  exact ⟨t, by rw [List.getD_eq_getElem?_getD, List.getElem?_eq_getElem hl]; rfl⟩
 have hzz : its.toArray.size = ws.length := by rw [List.size_toArray]; omega
 have hsb : scanBound = 4096 := rfl
 refine call_set (ws := ws) hh pl.isList (by omega) (by omega) hi fun s2 S2 => Calls.spliced_nil ?_
 obtain ⟨h2, tk2, es, ep, t, rfl, T, pp, k2⟩ := S2
 have hn : es.size <= ws.length := by
  have e1 := pp.length_eq
  have e2 := once_len ws
  have e3 : (txts es).length = es.size := by simp [txts]
  omega
 have I2 := I1.kept (t' := tk2) k2
 refine Calls.call_function_entry kind_sorted plain_sorted entry_sorted (args_sorted1 _) ?_
 unfold Builtin.«sorted»
 have hh1 : X.A.in1.handled = none := hh
 refine wpAny_bind (m := checkCount "sorted" 1 1 _) (wpAny_pure ?_)
 refine wpAny_bind (set_collect (s := { s1 with heap := h2, toks := tk2 }) hh1 T (by rw [sizeLine_eq]; omega) fun h3 d3 tk3 acc k3 p3 => ?_)
 have I3 := Inv.drew (d := d3) (I2.kept (t' := tk3) k3)
 have el : ∀ u ∈ acc, ∃ x t, u = .str x t := fun u hu => by
  obtain ⟨e, he, rfl⟩ := List.mem_map.mp (p3.mem_iff.mp hu)
  obtain ⟨x, t, rfl⟩ := T.el e he
  exact ⟨x, t, rfl⟩
 have rv3 := tx_vals (w := X.w) el
 have pk : (acc.map txt).Perm (onceT ws) := by
  have := p3.map txt
  rw [List.map_map] at this
  exact this.trans pp
 have hal : acc.length = es.size := by have := p3.length_eq; simpa using this
 refine wpAny_bind (wpAny_newList ?_ (by rw [hal, sizeLine_eq]; omega))
 have hoL : (h3.push (seqObj "list" acc.toArray 0)).get? h3.objs.size = some (seqObj "list" acc.toArray 0) := Heap.get?_push_size _ rfl
 have kp : ∀ b o, h3.get? b = some o -> (h3.push (seqObj "list" acc.toArray 0)).get? b = some o := fun b o e => Heap.get?_push_of_some _ e
 have hP : ∀ d ∈ (acc.map txt).map D.str, isStr d ∧ X.A.in1.in1.units + d.dep < cLine := fun d hd => by
  obtain ⟨x, _, rfl⟩ := List.mem_map.mp hd
  exact ⟨⟨x, rfl⟩, by
   have e : (D.str x).dep <= 1 := by simp [D.dep]
   show X.A.units + 1 + 1 + (D.str x).dep < cLine
   omega⟩
 refine wpAny_bind (wpAny_holding (wpAny_call_entry slot_list_sort ⟨_, hoL, rfl⟩ entry_list_sort (sort_plain (s := { s1 with heap := h3, drawn := d3, toks := tk3 }) (t1 := tk3) (Z := Z) lin_str kind_str hP I3 (ins_strs (acc.map txt)) rv3 (by omega) kp (Nat.le_refl _) hoL fun s4 prs I4 pp4 e4 => ⟨_, rfl, ?_⟩) (args_list_sort _)))
 have Ha : H1 h3.objs.size = none := I3.hok.fresh (Nat.le_refl _)
 refine wpAny_pure ⟨_, rfl, .ref h3.objs.size, _, I4, rfl, k _ _ (sm1.trans (same_new Ha)) (in_lst.mpr ⟨_, _, rfl, .inl ⟨upd_same, ?_⟩, ?_⟩)⟩
 · cases m
   · exact oz.op _ (sm1.free Ha)
   · exact sm1.free Ha
 · have j0 := ins_of_mem fun z hz => ins_zip (ins_strs (K := X.K) (H := H1) (Z := out m Z H) (acc.map txt)) z (pp4.mem_iff.mp hz)
   rw [e4, up_perm pk] at j0
   exact j0.same (same_new Ha)
end
end Y
namespace Y
open PySem PySem.Spec PyProof.Rows L2
variable [Tabs]
def ltE (rows : List (List Str)) (p q : Nat × Nat) : Bool := dor .lt (ordD rows p) (ordD rows q)
theorem isOrd_ord (rows : List (List Str)) (p : Nat × Nat) : isOrd (ordD rows p) := ⟨_, p, rfl⟩
theorem plD_inj {p q : Nat × Nat} (h : plD p = plD q) : p = q := by
 unfold plD at h
 injection h with h
 injection h with h1 h
 injection h with h2 h
 injection h1 with h1
 injection h2 with h2
 exact Prod.ext (by omega) (by omega)
theorem ordD_inj {rows : List (List Str)} {p q : Nat × Nat} (h : ordD rows p = ordD rows q) : p = q := by
 unfold ordD at h
 injection h with h
 injection h with h1 h
 injection h with h2 h
 exact plD_inj h2
theorem ltE_ir (rows : List (List Str)) (p : Nat × Nat) : ltE rows p p = false := lin_ord.ir _ (isOrd_ord rows p)
theorem ltE_tr {rows : List (List Str)} {p q r : Nat × Nat} (a : ltE rows p q = true) (b : ltE rows q r = true) : ltE rows p r = true := lin_ord.tr _ _ _ (isOrd_ord rows p) (isOrd_ord rows q) (isOrd_ord rows r) a b
theorem ltE_tt {rows : List (List Str)} {p q : Nat × Nat} (n : p ≠ q) (a : ltE rows q p = false) : ltE rows p q = true := by
 cases h : ltE rows p q with
 | true => rfl
 | false => exact absurd (ordD_inj (lin_ord.tt _ _ (isOrd_ord rows p) (isOrd_ord rows q) h a)) n
theorem ltE_as {rows : List (List Str)} {p q : Nat × Nat} (a : ltE rows p q = true) : ltE rows q p = false := by
 cases h : ltE rows q p with
 | false => rfl
 | true => have := ltE_tr a h; rw [ltE_ir] at this; cases this
def endsL (rows : List (List Str)) : List (Nat × Nat) := (allP rows).mergeSort fun x y => !ltE rows y x
theorem endsD_eq (rows : List (List Str)) : endsD rows = plsD (endsL rows) := by
 unfold endsD plsD endsL srt
 congr 1
 refine (List.map_mergeSort (f := plD) (r := fun x y => !ltE rows y x) (s := fun x y => !dor .lt (keyD rows y) (keyD rows x)) fun a _ b _ => ?_).symm
 rw [keyD_pl, keyD_pl]
 rfl
theorem endsL_perm (rows : List (List Str)) : (endsL rows).Perm (allP rows) := List.mergeSort_perm _ _
theorem endsL_len (rows : List (List Str)) : (endsL rows).length = tot rows := by rw [(endsL_perm rows).length_eq, allP_tot]
theorem pairs_nodup {α β : Type} (l : List α) (f : α -> List β) (hl : l.Nodup) (h1 : ∀ a ∈ l, (f a).Nodup) (h2 : ∀ a b x, x ∈ f a -> x ∈ f b -> a = b) : (l.flatMap f).Nodup := by
 induction l with
 | nil => simp
 | cons a l ih =>
  rw [List.flatMap_cons, List.nodup_append]
  rw [List.nodup_cons] at hl
  refine ⟨h1 a (by simp), ih hl.2 fun b hb => h1 b (by simp [hb]), fun x hx y hy e => ?_⟩
  subst e
  obtain ⟨b, hb, hy⟩ := List.mem_flatMap.mp hy
  have := h2 a b x hx hy
  subst this
  exact hl.1 hb
theorem allP_nodup (rows : List (List Str)) : (allP rows).Nodup := by
 unfold allP allPn
 refine pairs_nodup _ _ List.nodup_range (fun n _ => ?_) fun a b x ha hb => ?_
 · rw [List.nodup_iff_pairwise_ne, List.pairwise_map]
   refine List.Pairwise.imp ?_ (List.nodup_iff_pairwise_ne.mp List.nodup_range)
   intro a b h e
   injection e with _ e
   exact h e
 · obtain ⟨_, _, rfl⟩ := List.mem_map.mp ha
   obtain ⟨_, _, e⟩ := List.mem_map.mp hb
   injection e with e _
   exact e.symm
theorem endsL_nodup (rows : List (List Str)) : (endsL rows).Nodup := (endsL_perm rows).nodup_iff.mpr (allP_nodup rows)
theorem endsL_mem {rows : List (List Str)} {p : Nat × Nat} : p ∈ endsL rows ↔ p ∈ allP rows := (endsL_perm rows).mem_iff
theorem endsL_up (rows : List (List Str)) : (endsL rows).Pairwise fun x y => ltE rows x y = true := by
 have h : (endsL rows).Pairwise fun x y => (!ltE rows y x) = true := by
  unfold endsL
  refine List.pairwise_mergeSort (le := fun x y => !ltE rows y x) (fun a b c h1 h2 => ?_) (fun a b => ?_) _
  · simp only [Bool.not_eq_true'] at *
    cases q : ltE rows c a with
    | false => rfl
    | true =>
     by_cases e : b = c
     · subst e; rw [h1] at q; cases q
     · have := ltE_tr (ltE_tt e h2) q
       rw [h1] at this; cases this
  · cases q : ltE rows b a with
    | false => simp
    | true => rw [ltE_as q]; simp
 have n := List.nodup_iff_pairwise_ne.mp (endsL_nodup rows)
 refine (h.and n).imp fun {x y} h => ltE_tt h.2 (by simpa using h.1)
theorem up_one_row {rows : List (List Str)} {ps qs : List (Nat × Nat)} (pm : ps.Perm qs) (up : ps.Pairwise fun x y => ltE rows x y = true) (uq : qs.Pairwise fun x y => ltE rows x y = true) : ps = qs := by
 refine List.Perm.eq_of_pairwise (le := fun x y => ltE rows x y = true) (fun a b _ _ h1 h2 => ?_) up uq pm
 rw [ltE_as h1] at h2; cases h2
def isPl (d : D) : Prop := ∃ p, d = plD p
theorem lin_pl : Lin isPl := (lin_tup fun _ => lin_int).sub fun d ⟨p, e⟩ => ⟨_, e, ⟨p.1, rfl⟩, ⟨p.2, rfl⟩, trivial⟩
theorem isLS (ws : List Str) : isLst isStr (strsD ws) := ⟨_, rfl, fits_all fun d hd => by obtain ⟨w, _, rfl⟩ := List.mem_map.mp hd; exact ⟨w, rfl⟩⟩
theorem lt_self (ws : List Str) : dor .lt (strsD ws) (strsD ws) = false := (lin_lst lin_str).ir _ (isLS ws)
theorem ahead_is (rows : List (List Str)) (p q : Nat × Nat) : (dor .lt (strsD (endAt rows p)) (strsD (endAt rows q)) || (deq (strsD (endAt rows p)) (strsD (endAt rows q)) && dor .lt (plD p) (plD q))) = ltE rows p q := by
 unfold ltE ordD
 simp only [dor, dors]
 by_cases h : endAt rows p = endAt rows q
 · rw [h, lt_self, deq_refl, if_pos rfl]
   by_cases h2 : p = q
   · subst h2
     rw [deq_refl, if_pos rfl, lin_pl.ir _ ⟨p, rfl⟩]
     rfl
   · rw [told_plD, if_neg (by simpa using h2)]
     rfl
 · rw [told_strs, if_neg (by simpa using h), decide_eq_false h]
   simp
def oneR (vs : List Str) : List (List Str) := vs.map fun v => [v]
def upS (vs : List Str) : List Str := (onceT vs).mergeSort fun x y => !Od.str .lt y x
theorem upT_eq (vs : List Str) : upT vs = (upS vs).map D.str := by
 unfold upT upS srt
 exact (List.map_mergeSort (f := D.str) (r := fun x y => !Od.str .lt y x) (s := fun x y => !dor .lt (id y) (id x)) fun a _ b _ => by simp [dor]).symm
theorem upS_perm (vs : List Str) : (upS vs).Perm (onceT vs) := List.mergeSort_perm _ _
theorem upS_mem {vs : List Str} {x : Str} : x ∈ upS vs ↔ x ∈ vs := (upS_perm vs).mem_iff.trans once_mem
theorem upS_up (vs : List Str) : (upS vs).Pairwise fun x y => dor .lt (.str x) (.str y) = true := by
 have h := srt_up (f := id) lin_str (ds := (onceT vs).map D.str) fun d hd => by
  obtain ⟨x, _, rfl⟩ := List.mem_map.mp hd
  exact ⟨x, rfl⟩
 have e : srt id ((onceT vs).map D.str) = (upS vs).map D.str := upT_eq vs
 rw [e, List.pairwise_map] at h
 have n := List.nodup_iff_pairwise_ne.mp ((upS_perm vs).nodup_iff.mpr (once_nodup vs))
 refine (h.and n).imp fun {x y} h => ?_
 cases q : dor .lt (.str x) (.str y) with
 | true => rfl
 | false =>
  have := lin_str.tt _ _ ⟨x, rfl⟩ ⟨y, rfl⟩ q h.1
  injection this with this
  exact absurd this h.2
def atsT (vs : List Str) (x : Str) : List (Nat × Nat) := ((List.range vs.length).filter fun i => decide (vs.getD i "" = x)).map fun i => (i, 0)
def dueN (vs : List Str) (n : Nat) : List (Nat × Nat) := ((upS vs).take n).flatMap (atsT vs)
def dueL (vs : List Str) : List (Nat × Nat) := (upS vs).flatMap (atsT vs)
theorem one_len (vs : List Str) : (oneR vs).length = vs.length := by simp [oneR]
theorem one_get {vs : List Str} {i : Nat} (h : i < vs.length) : (oneR vs).getD i [] = [vs.getD i ""] := by
 simp [oneR, h]
theorem one_end {vs : List Str} {i : Nat} (h : i < vs.length) : endAt (oneR vs) (i, 0) = [vs.getD i ""] := by
 show ((oneR vs).getD i []).drop 0 = _
 rw [one_get h]; rfl
theorem ats_mem {vs : List Str} {x : Str} {p : Nat × Nat} : p ∈ atsT vs x ↔ p.1 < vs.length ∧ p.2 = 0 ∧ vs.getD p.1 "" = x := by
 unfold atsT
 rw [List.mem_map]
 constructor
 · rintro ⟨i, hi, rfl⟩
   rw [List.mem_filter, List.mem_range, decide_eq_true_eq] at hi
   exact ⟨hi.1, rfl, hi.2⟩
 · rintro ⟨h1, h2, h3⟩
   refine ⟨p.1, ?_, Prod.ext rfl h2.symm⟩
   rw [List.mem_filter, List.mem_range, decide_eq_true_eq]
   exact ⟨h1, h3⟩
theorem due_mem {vs : List Str} {p : Nat × Nat} : p ∈ dueL vs ↔ p.1 < vs.length ∧ p.2 = 0 := by
 unfold dueL
 rw [List.mem_flatMap]
 constructor
 · rintro ⟨x, _, h⟩
   obtain ⟨a, b, _⟩ := ats_mem.mp h
   exact ⟨a, b⟩
 · rintro ⟨a, b⟩
   refine ⟨vs.getD p.1 "", upS_mem.mpr (getD_mem a), ats_mem.mpr ⟨a, b, rfl⟩⟩
theorem all_one {vs : List Str} {p : Nat × Nat} : p ∈ allP (oneR vs) ↔ p.1 < vs.length ∧ p.2 = 0 := by
 constructor
 · intro h
   obtain ⟨a, b⟩ := allP_mem h
   rw [one_len] at a
   rw [one_get a] at b
   exact ⟨a, by simpa using b⟩
 · rintro ⟨a, b⟩
   unfold allP allPn
   rw [List.mem_flatMap]
   refine ⟨p.1, by rw [List.mem_range, one_len]; exact a, ?_⟩
   rw [one_get a, List.mem_map]
   exact ⟨0, by simp, Prod.ext rfl b.symm⟩
theorem lt_one {x y : Str} (h : dor .lt (.str x) (.str y) = true) : dor .lt (strsD [x]) (strsD [y]) = true := by
 have ne : deq (.str x) (.str y) = false := by
  cases q : deq (.str x) (.str y) with
  | false => rfl
  | true =>
   have e : x = y := by simpa [deq] using q
   subst e
   rw [lin_str.ir _ ⟨x, rfl⟩] at h; cases h
 show (if deq (.str x) (.str y) = true then _ else dor .lt (.str x) (.str y)) = true
 rw [ne, if_neg (by decide)]
 exact h
theorem due_up (vs : List Str) : (dueL vs).Pairwise fun p q => ltE (oneR vs) p q = true := by
 unfold dueL
 rw [List.pairwise_flatMap]
 constructor
 · intro x _
   unfold atsT
   rw [List.pairwise_map]
   refine (List.Pairwise.filter _ List.pairwise_lt_range).imp_of_mem fun {i j} hi hj h => ?_
   rw [List.mem_filter, List.mem_range, decide_eq_true_eq] at hi hj
   rw [<- ahead_is, one_end hi.1, one_end hj.1, hi.2, hj.2, deq_refl, Bool.or_eq_true]
   refine .inr ?_
   rw [Bool.true_and]
   have ne : ¬ ((i : Int) = (j : Int)) := by omega
   simp [plD, dor, dors, deq, Od.int, ne]
   omega
 · refine (upS_up vs).imp fun {x y} h p hp q hq => ?_
   obtain ⟨p1, p2, p3⟩ := ats_mem.mp hp
   obtain ⟨q1, q2, q3⟩ := ats_mem.mp hq
   have ep : p = (p.1, 0) := Prod.ext rfl p2
   have eq : q = (q.1, 0) := Prod.ext rfl q2
   rw [<- ahead_is, ep, eq, one_end p1, one_end q1, p3, q3, lt_one h]
   rfl
theorem due_ends (vs : List Str) : endsL (oneR vs) = dueL vs := by
 have nd : (dueL vs).Nodup := List.nodup_iff_pairwise_ne.mpr ((due_up vs).imp fun {x y} h e => by subst e; rw [ltE_ir] at h; cases h)
 refine up_one_row ((List.perm_ext_iff_of_nodup (endsL_nodup _) nd).mpr fun p => ?_) (endsL_up _) (due_up vs)
 rw [endsL_mem, all_one, due_mem]
theorem due_len (vs : List Str) : (dueL vs).length = vs.length := by
 rw [<- due_ends, endsL_len]
 unfold tot oneR
 rw [List.map_map]
 induction vs with
 | nil => rfl
 | cons v vs ih => simp only [List.map_cons, List.sum_cons, List.length_cons, Function.comp_def] at ih ⊢; rw [ih]; simp; omega
theorem due_take (vs : List Str) (n : Nat) : (dueN vs n).length <= vs.length := by
 have e : dueL vs = dueN vs n ++ ((upS vs).drop n).flatMap (atsT vs) := by
  unfold dueL dueN
  rw [<- List.flatMap_append, List.take_append_drop]
 have := congrArg List.length e
 rw [due_len, List.length_append] at this
 omega
theorem tot_one (vs : List Str) : tot (oneR vs) = vs.length := by rw [<- endsL_len, due_ends, due_len]
def gTold11 (ds : List D) (d : D) : Prop := ∃ rows : List (List Str), tot rows <= 900 ∧ rows.length <= 900 ∧ ds = [rowsD rows, rowsD rows] ∧ d = .bl true
def gDue11 (ds : List D) (d : D) : Prop := ∃ vs : List Str, vs.length < 64 ∧ ds = [rowsD (oneR vs)] ∧ d = plsD (dueL vs)
end Y
namespace Z
open PySem PySem.Spec PyProof.Rows L2 Y
section
variable [Tabs]
def top (i : Nat) : Stmt := PySem.Challenge.pw_besidewords_k11_an_end.main.body.getD i (.Pass ⟨0, 0, 0, 0⟩)
abbrev s_all_places : Stmt := top 1
abbrev s_end_of : Stmt := top 2
abbrev s_order_of : Stmt := top 3
abbrev s_ends : Stmt := top 4
abbrev s_law_cell_at : Stmt := top 6
abbrev s_law_part : Stmt := top 7
abbrev s_law_words : Stmt := top 8
abbrev s_law_rows : Stmt := top 9
abbrev s_law_all : Stmt := top 10
abbrev s_law_copy : Stmt := top 11
abbrev s_law_whole : Stmt := top 12
abbrev s_law_is_place : Stmt := top 13
abbrev s_law_ends_told : Stmt := top 14
abbrev s_law_single_due : Stmt := top 15
abbrev s_law : Stmt := top 16
theorem sc_all_places : FnScope ["rows", "places", "row", "words", "at"] ["rows"] (defScope s_all_places) := ⟨rfl, rfl, rfl, by decide +kernel, rfl, by decide +kernel, by decide +kernel⟩
theorem sc_end_of : FnScope ["rows", "place"] ["rows", "place"] (defScope s_end_of) := ⟨rfl, rfl, rfl, by decide +kernel, rfl, by decide +kernel, by decide +kernel⟩
theorem sc_order_of : FnScope ["rows", "place"] ["rows", "place"] (defScope s_order_of) := ⟨rfl, rfl, rfl, by decide +kernel, rfl, by decide +kernel, by decide +kernel⟩
theorem sc_ends : FnScope ["rows"] ["rows"] (defScope s_ends) := ⟨rfl, rfl, rfl, by decide +kernel, rfl, by decide +kernel, by decide +kernel⟩
theorem sc_law_cell_at : FnScope ["_law_script", "_law_k"] ["_law_script", "_law_k"] (defScope s_law_cell_at) := ⟨rfl, rfl, rfl, by decide +kernel, rfl, by decide +kernel, by decide +kernel⟩
theorem sc_law_part : FnScope ["_law_cell", "_law_k", "_law_many"] ["_law_cell", "_law_k", "_law_many"] (defScope s_law_part) := ⟨rfl, rfl, rfl, by decide +kernel, rfl, by decide +kernel, by decide +kernel⟩
theorem sc_law_words : FnScope ["_law_one", "_law_other", "_law_signs", "_law_size", "_law_at", "_law_words_here", "_law_k", "_law_word", "_law_j", "_law_number"] ["_law_one", "_law_other"] (defScope s_law_words) := ⟨rfl, rfl, rfl, by decide +kernel, rfl, by decide +kernel, by decide +kernel⟩
theorem sc_law_rows : FnScope ["_law_words_here", "_law_cells", "_law_rows_here", "_law_cell"] ["_law_words_here", "_law_cells"] (defScope s_law_rows) := ⟨rfl, rfl, rfl, by decide +kernel, rfl, by decide +kernel, by decide +kernel⟩
theorem sc_law_all : FnScope ["_law_rows_here", "_law_places", "_law_number", "_law_at"] ["_law_rows_here"] (defScope s_law_all) := ⟨rfl, rfl, rfl, by decide +kernel, rfl, by decide +kernel, by decide +kernel⟩
theorem sc_law_copy : FnScope ["_law_rows_here"] ["_law_rows_here"] (defScope s_law_copy) := ⟨rfl, rfl, rfl, by decide +kernel, rfl, by decide +kernel, by decide +kernel⟩
theorem sc_law_whole : FnScope ["_law_number"] ["_law_number"] (defScope s_law_whole) := ⟨rfl, rfl, rfl, by decide +kernel, rfl, by decide +kernel, by decide +kernel⟩
theorem sc_law_is_place : FnScope ["_law_place"] ["_law_place"] (defScope s_law_is_place) := ⟨rfl, rfl, rfl, by decide +kernel, rfl, by decide +kernel, by decide +kernel⟩
theorem sc_law_ends_told : FnScope ["_law_rows_here", "_law_handed", "_law_place", "_law_due", "_law_end"] ["_law_rows_here", "_law_handed"] (defScope s_law_ends_told) := ⟨rfl, rfl, rfl, by decide +kernel, rfl, by decide +kernel, by decide +kernel⟩
theorem sc_law_single_due : FnScope ["_law_single", "_law_due", "_law_word", "_law_number"] ["_law_single"] (defScope s_law_single_due) := ⟨rfl, rfl, rfl, by decide +kernel, rfl, by decide +kernel, by decide +kernel⟩
theorem sc_law : FnScope ["_law_script", "_law_words_here", "_law_rows_here", "_law_single", "_law_handed", "_law_answer"] ["_law_script"] (defScope s_law) := ⟨rfl, rfl, rfl, by decide +kernel, rfl, by decide +kernel, by decide +kernel⟩
abbrev pPart : List Str := ["_law_cell", "_law_k", "_law_many"]
structure Blt (mg : Str -> Option Value) : Prop where
 all : mg "all" = none
 bool : mg "bool" = none
 enumerate : mg "enumerate" = none
 int : mg "int" = none
 isinstance : mg "isinstance" = none
 len : mg "len" = none
 list : mg "list" = none
 range : mg "range" = none
 set : mg "set" = none
 sorted : mg "sorted" = none
 tuple : mg "tuple" = none
section
variable {P : Program} {w : World} {K : PySem.W.Frag} {mg : Str -> Option Value} {base : Heap}
theorem ok_law_cell_at {f : Addr} {fd : FuncData} (Fx : Fun K "_law_cell_at" "_law_cell_at" s_law_cell_at f fd) (hmg : mg "_law_cell_at" = some (.ref f)) (hb : Binds K fd ["_law_script", "_law_k"] []) (B : Blt mg) : Def P w K mg base 1 "_law_cell_at" true gCellAt := by
 refine def_of Fx sc_law_cell_at hmg hb (by rintro ds d ⟨ns, k, hz, e1, e2⟩; subst e1; rfl) ?_
 rintro cdv A outer s H Ex Z ds d hr ⟨ns, k, hz, e1, e2⟩
 subst e1 e2
 refine sd_if (t_ltI (e_var 1) (e_lenL (e_var 0) B.len)) (fun h => ?_) (fun h => ?_)
 · refine sd_ret false (m1 := true) (E.flat (e_ixL (d := .int (cellAt ns k)) (e_var 0) (e_var 1) ?_) rfl) rfl
   simp at h
   refine atI_nat ?_
   simp [cellAt, h]
 · refine sd_nil ?_
   refine sd_ret false (E.cast e_int ?_) rfl
   simp at h
   simp [cellAt, h]
theorem ok_law_part {f : Addr} {fd : FuncData} (Fx : Fun K "_law_part" "_law_part" s_law_part f fd) (hmg : mg "_law_part" = some (.ref f)) (hb : Binds K fd pPart []) (B : Blt mg) : Def P w K mg base 1 "_law_part" true gPart := by
 refine def_of Fx sc_law_part hmg hb (by rintro ds d ⟨c, k, m, hm, e1, e2⟩; subst e1; rfl) ?_
 rintro cdv A outer s H Ex Z ds d hr ⟨c, k, m, hm, e1, e2⟩
 subst e1 e2
 have h1 := Int.emod_nonneg c (show (99991 : Int) ≠ 0 by decide)
 have h2 := Int.emod_lt_of_pos c (show (0 : Int) < 99991 by decide)
 have h3 := Int.emod_nonneg ((c % 99991 + 17) * (48271 + 7919 * k)) (show (65537 : Int) ≠ 0 by decide)
 have h4 := Int.emod_lt_of_pos ((c % 99991 + 17) * (48271 + 7919 * k)) (show (0 : Int) < 65537 by decide)
 exact sd_ret false (e_mod (e_mod (e_mul (e_mod (e_mul (e_add (e_mod (e_var 0) e_int (by decide)) e_int) (e_add e_int (e_mul e_int (e_var 1) (.inl ⟨by decide, by decide⟩))) (.inl ⟨by omega, by omega⟩)) e_int (by decide)) (e_add (e_var 1) e_int) (.inl ⟨by omega, by omega⟩)) e_int (by decide)) (e_var 2) hm) rfl
end
section
variable {P : Program} {w : World} {K : PySem.W.Frag} {mg : Str -> Option Value} {base : Heap}
theorem ok_end_of {f : Addr} {fd : FuncData} (Fx : Fun K "end_of" "end_of" s_end_of f fd) (hmg : mg "end_of" = some (.ref f)) (hb : Binds K fd ["rows", "place"] []) (B : Blt mg) : Def P w K mg base 1 "end_of" true gEnd := by
 refine def_of Fx sc_end_of hmg hb (by rintro ds d ⟨rows, p, hp, e1, e2⟩; subst e1; rfl) ?_
 rintro cdv A outer s H Ex Z ds d hr ⟨rows, p, hp, e1, e2⟩
 subst e1 e2
 refine sd_ret false (E.cast (e_slL (m := true) (ds := (rows.getD p.1 []).map D.str) (e_ixL (e_var 0) (e_ixT (d := .int p.1) (e_var 1) e_int rfl) (atI_nat ?_)) (eo_some (e_ixT (d := .int p.2) (e_var 1) e_int rfl)) eo_none ?_) ?_) rfl
 · simp [hp, strsD]
 · intro _
   exact .inr (flats_cut (flats_strs _))
 · rw [cut_from]
   simp [strsD, endAt]
end
section
variable {P : Program} {w : World} {K : PySem.W.Frag} {mg : Str -> Option Value} {base : Heap}
theorem ok_law_words {f : Addr} {fd : FuncData} (Fx : Fun K "_law_words" "_law_words" s_law_words f fd) (hmg : mg "_law_words" = some (.ref f)) (hb : Binds K fd ["_law_one", "_law_other"] []) (B : Blt mg) (dP : Def P w K mg base 1 "_law_part" true gPart) : Def P w K mg base 2 "_law_words" true gWordsB := by
 refine def_of Fx sc_law_words hmg hb (by rintro ds d ⟨one, other, e1, e2⟩; subst e1; rfl) ?_
 rintro cdv A outer s H Ex Z ds d hr ⟨one, other, e1, e2⟩
 subst e1 e2
 have nd := sc_law_words.nd
 have hsz := sizeB_pos one
 have hsz2 := sizeB_le one
 refine sd_setF 2 e_str rfl ?_ nd
 refine sd_setF 3 (d := .int (sizeB one)) (e_add e_int (e_call dP hr (ea_cons (e_var 0) (ea_cons e_int (ea_one e_int))) ⟨_, _, _, by decide, rfl, rfl⟩)) rfl ?_ nd
 refine sd_setF 4 (d := .int (atB one other)) (e_call dP hr (ea_cons (e_var 1) (ea_cons e_int (ea_one (e_var 3)))) ⟨_, _, _, by omega, rfl, rfl⟩) rfl ?_ nd
 refine sd_own 5 (e_lstN ea_nil) rfl ?_ nd
 refine sd_forF 6 (ds := rangeD 0 5) (fun n r => ∃ o6 o7 o8 o9, r = [some (.pl false (.int one)), some (.pl false (.int other)), some (.pl true (.str W36)), some (.pl true (.int (sizeB one))), some (.pl true (.int (atB one other))), some (.ow true (((List.range n).map fun k => wordB one other ((k : Nat) : Int) (sizeB one).toNat).map D.str)), o6, o7, o8, o9] ∧ n <= 5)
  (it_range (n := 5) (m := true) e_int (by decide) (by decide) B.range) flat_range ⟨_, _, _, _, rfl, by decide⟩ (by rintro n r ⟨_, _, _, _, e, _⟩; subst e; simp) ?_ ?_ nd
 · rintro n d r hd ⟨o6, o7, o8, o9, e, hn⟩
   subst e
   obtain ⟨hn5, rfl⟩ := rangeD0_get hd
   refine sd_setF 7 e_str rfl ?_ nd
   refine sd_forF 8 (ds := rangeD 0 (sizeB one).toNat) (fun m r => ∃ o8 o9, r = [some (.pl false (.int one)), some (.pl false (.int other)), some (.pl true (.str W36)), some (.pl true (.int (sizeB one))), some (.pl true (.int (atB one other))), some (.ow true (((List.range n).map fun k => wordB one other ((k : Nat) : Int) (sizeB one).toNat).map D.str)), some (.pl true (.int (n : Nat))), some (.pl true (.str (wordB one other ((n : Nat) : Int) m))), o8, o9] ∧ m <= (sizeB one).toNat)
    (it_range (n := sizeB one) (m := true) (e_var 3) (by omega) (by omega) B.range) flat_range ⟨_, _, rfl, by omega⟩ (by rintro n r ⟨_, _, e, _⟩; subst e; simp) (fun m d r hd ⟨o8, o9, e, hm⟩ => ?_) (fun r ⟨o8, o9, e, hm⟩ => ?_) nd
   · subst e
     obtain ⟨hm12, rfl⟩ := rangeD0_get hd
     refine sd_setF 9 (e_call dP hr (ea_cons (e_var 0) (ea_cons (e_add (e_var 8) e_int) (ea_one e_int))) ⟨_, _, _, by decide, rfl, rfl⟩) rfl ?_ nd
     have hlen := wordB_len one other ((n : Nat) : Int) m
     refine sd_ifJ [some (.pl false (.int one)), some (.pl false (.int other)), some (.pl true (.str W36)), some (.pl true (.int (sizeB one))), some (.pl true (.int (atB one other))), some (.ow true (((List.range n).map fun k => wordB one other ((k : Nat) : Int) (sizeB one).toNat).map D.str)), some (.pl true (.int (n : Nat))), some (.pl true (.str (wordB one other ((n : Nat) : Int) m))), some (.pl true (.int (m : Nat))), some (.pl true (.int (numB one other ((n : Nat) : Int) ((m : Nat) : Int))))]
      (t_eqI (e_var 8) (e_var 4)) (fun h => ?_) (fun h => ?_) ?_
     · refine sd_setF 9 (e_add (e_var 9) (e_var 6)) rfl ?_ nd
       refine sd_nil ?_
       unfold numB
       rw [if_pos (by simpa using h)]
       rfl
     · refine sd_nil ?_
       unfold numB
       rw [if_neg (by simpa using h)]
       rfl
     · refine sd_setF 7 (e_addS (e_var 7) (e_ixS (e_var 2) (e_mod (e_var 9) e_int (by decide)) (by decide +kernel) (atI_sgn _)) (smallL (by show _ + 1 <= 1000; omega))) rfl ?_ nd
       refine sd_nil ⟨some (.pl true (.int (m : Nat))), some (.pl true (.int (numB one other ((n : Nat) : Int) ((m : Nat) : Int)))), ?_, hm12⟩
       rw [wordB_succ]
       rfl
   · subst e
     rw [rangeD_len]
     refine sd_appendF 5 true rfl (e_var 7) rfl (by simp; omega) ?_
     refine sd_nil ⟨some (.pl true (.int (n : Nat))), some (.pl true (.str (wordB one other ((n : Nat) : Int) (sizeB one).toNat))), o8, o9, ?_, hn5⟩
     rw [List.range_succ, List.map_append, List.map_append]
     rfl
 · rintro r ⟨o6, o7, o8, o9, e, hn⟩
   subst e
   rw [rangeD_len]
   refine sd_if (TW.t (tw_and (t_gtI (e_var 3) e_int) fun _ => tw_and1 (t_eqI (e_mod (e_var 1) e_int (by decide)) e_int))) (fun h => ?_) (fun h => sd_nil ?_)
   · simp at h
     refine sd_ret false (E.cast (e_map (m := true) (me := true) ["_law_words_here", "_law_size"] [5, 3] (fun d => match d with | .int k => .str (Txt.slice (wordB one other 0 (sizeB one).toNat) none (some (sizeB one - k))) | d => d) (it_range (n := 5) (m := true) e_int (by decide) (by decide) B.range)
      (fun C s H fp d hd => ?_) (by rw [rangeD_len]; exact smallL (by decide))) ?_) rfl
     · obtain ⟨k, _, rfl⟩ := List.mem_map.mp hd
       exact e_slS (e_ixL (d := .str (wordB one other 0 (sizeB one).toNat)) (e_var 1) e_int rfl) eo_none (eo_some (e_sub (e_var 2) (e_var 0))) (smallL (by rw [wordB_len]; omega))
     · unfold wordsB
       rw [if_pos h]
       simp [strsD, rangeD, Function.comp_def]
   · refine sd_ret true (E.cast (e_var 5) ?_) rfl
     unfold wordsB
     rw [if_neg (by simpa using h)]
     rfl
theorem ok_law_rows {f : Addr} {fd : FuncData} (Fx : Fun K "_law_rows" "_law_rows" s_law_rows f fd) (hmg : mg "_law_rows" = some (.ref f)) (hb : Binds K fd ["_law_words_here", "_law_cells"] []) (B : Blt mg) (dP : Def P w K mg base 1 "_law_part" true gPart) : Def P w K mg base 2 "_law_rows" true gRowsB := by
 refine def_of Fx sc_law_rows hmg hb (by rintro ds d ⟨ws, cells, h4, hc, e1, e2⟩; subst e1; rfl) ?_
 rintro cdv A outer s H Ex Z ds d hr ⟨ws, cells, h4, hc, e1, e2⟩
 subst e1 e2
 have nd := sc_law_rows.nd
 refine sd_own21 2 (e_lstF (eaf_cons (e_lstN ea_nil) eaf_nil)) ?_ nd
 refine sd_forF 3 (ds := cells.map D.int) (fun n r => ∃ o3, r = [some (.pl false (strsD ws)), some (.pl false (intsD cells)), some (.ow2 true ((rowsB ws (cells.take n)).map fun r => r.map D.str)), o3])
  (it_list (e_var 1)) flat_ints ⟨_, rfl⟩ (by rintro n r ⟨_, e⟩; subst e; simp) ?_ ?_ nd
 · rintro n d r hd ⟨o3, e⟩
   subst e
   rw [List.getElem?_map] at hd
   cases hcn : cells[n]? with
   | none => rw [hcn] at hd; cases hd
   | some c =>
    rw [hcn] at hd
    cases hd
    have hn : n < cells.length := (List.getElem?_eq_some_iff.mp hcn).1
    have ht : cells.take (n + 1) = cells.take n ++ [c] := by rw [List.take_add_one, hcn]; rfl
    have hl := rowsB_tot ws (cells.take n)
    obtain ⟨init, last, er⟩ := rowsB_last ws (cells.take n)
    rw [er] at hl
    have hlast : last.length <= 63 := by
     have := row_le_tot (rows := init ++ [last]) (r := last) (by simp)
     have h2 := hl.1
     simp at h2; omega
    have hinit : init.length <= 63 := by
     have := hl.2
     simp at this; omega
    have p0 := part_nn c 4 (show (0 : Int) < 9 by decide)
    have p9 := part_lt c 4 (show (0 : Int) < 9 by decide)
    rw [er, List.map_append]
    refine sd_if (t_eqI (e_call dP hr (ea_cons (e_var 3) (ea_cons e_int (ea_one e_int))) ⟨_, _, _, by decide, rfl, rfl⟩) e_int) (fun h => ?_) (fun h => ?_)
    · have h5 : part c 3 8 = 0 := by simpa using h
      refine sd_append2n 2 true rfl (e_lstN ea_nil) (by simp; omega) ?_
      refine sd_nil (sd_nil ⟨some (.pl true (.int c)), ?_⟩)
      rw [ht, rowsB_snoc, er]
      unfold stepB
      rw [if_pos h5]
      simp [List.set]
    · have h5 : ¬ part c 3 8 = 0 := by simpa using h
      have hi := idx9_lt p0 p9
      refine sd_append2 2 (dss := init.map fun r => r.map D.str) (ds := last.map D.str) true rfl (e_neg e_int) (e_ixL (d := .str (pickB ws c)) (e_var 0) (e_ixL (e_lstN (ea_cons e_int (ea_cons e_int (ea_cons e_int (ea_cons e_int (ea_cons e_int (ea_cons e_int (ea_cons e_int (ea_cons e_int (ea_one e_int)))))))))) (e_call dP hr (ea_cons (e_var 3) (ea_cons e_int (ea_one e_int))) ⟨_, _, _, by decide, rfl, rfl⟩) (idx9 p0 p9)) (atI_nat (strs_get (by omega)))) rfl (by simp; omega) ?_
      refine sd_nil (sd_nil ⟨some (.pl true (.int c)), ?_⟩)
      rw [ht, rowsB_snoc, er]
      unfold stepB
      rw [if_neg h5]
      simp [List.set]
 · rintro r ⟨o3, e⟩
   subst e
   refine sd_ret true (E.cast (e_var 2) ?_) rfl
   rw [List.length_map, List.take_length, List.map_map]
   rfl
theorem ok_law_all {f : Addr} {fd : FuncData} (Fx : Fun K "_law_all" "_law_all" s_law_all f fd) (hmg : mg "_law_all" = some (.ref f)) (hb : Binds K fd ["_law_rows_here"] []) (B : Blt mg) : Def P w K mg base 1 "_law_all" true gAllL := by
 refine def_of Fx sc_law_all hmg hb (by rintro ds d ⟨rows, ht, hl9, e1, e2⟩; subst e1; rfl) ?_
 rintro cdv A outer s H Ex Z ds d hr ⟨rows, ht, hl9, e1, e2⟩
 subst e1 e2
 have nd := sc_law_all.nd
 refine sd_own 1 (e_lstN ea_nil) rfl ?_ nd
 refine sd_forF 2 (ds := rangeD 0 (rows.map strsD).length) (fun n r => ∃ o2 o3, r = [some (.pl false (rowsD rows)), some (.ow true ((allPn rows n).map plD)), o2, o3])
  (it_rangeL (e_lenL (e_var 0) B.len) B.range) flat_range ⟨_, _, rfl⟩ (by rintro n r ⟨_, _, e⟩; subst e; simp) ?_ ?_ nd
 · rintro n d r hd ⟨o2, o3, e⟩
   subst e
   obtain ⟨hn, rfl⟩ := rangeD0_get hd
   rw [List.length_map] at hn
   obtain ⟨row, hrow⟩ : ∃ row, rows[n]? = some row := ⟨_, List.getElem?_eq_getElem hn⟩
   have hrowD : (rows.map strsD)[n]? = some (strsD row) := by rw [List.getElem?_map, hrow]; rfl
   have hrl : row.length <= tot rows := by have := tot_row hrow row.length (Nat.le_refl _); omega
   refine sd_forF 3 (ds := rangeD 0 (row.map D.str).length) (fun m r => ∃ o3, r = [some (.pl false (rowsD rows)), some (.ow true ((allPn rows n ++ (List.range m).map fun a => (n, a)).map plD)), some (.pl true (.int (n : Nat))), o3] ∧ m <= row.length)
    (it_rangeL (e_lenL (e_ixL (e_var 0) (e_var 2) (atI_nat hrowD)) B.len) B.range) flat_range ⟨o3, by simp, by omega⟩ (by rintro n r ⟨_, e, _⟩; subst e; simp) (fun m d r hd ⟨o3, e, hm⟩ => ?_) (fun r ⟨o3, e, hm⟩ => ?_) nd
   · subst e
     obtain ⟨hm2, rfl⟩ := rangeD0_get hd
     rw [List.length_map] at hm2
     have hlen := tot_row hrow m hm
     refine sd_appendF 1 true rfl (e_tup (ea_cons (e_var 2) (ea_one (e_var 3)))) rfl (by simp; omega) ?_
     refine sd_nil ⟨some (.pl true (.int (m : Nat))), ?_, hm2⟩
     rw [List.range_succ]
     simp [plD, List.set]
   · subst e
     refine sd_nil ⟨some (.pl true (.int (n : Nat))), o3, ?_⟩
     rw [allPn_succ, rangeD_len, List.length_map]
     simp [hrow]
 · rintro r ⟨o2, o3, e⟩
   subst e
   refine sd_ret true (E.cast (e_var 1) ?_) rfl
   rw [rangeD_len, List.length_map]
   rfl
theorem ok_law_copy {f : Addr} {fd : FuncData} (Fx : Fun K "_law_copy" "_law_copy" s_law_copy f fd) (hmg : mg "_law_copy" = some (.ref f)) (hb : Binds K fd ["_law_rows_here"] []) (B : Blt mg) : Def P w K mg base 1 "_law_copy" true gCopy := by
 refine def_of Fx sc_law_copy hmg hb (by rintro ds d ⟨rows, ht, e1, e2⟩; subst e1; rfl) ?_
 rintro cdv A outer s H Ex Z ds d hr ⟨rows, ht, e1, e2⟩
 subst e1 e2
 refine sd_ret false (E.cast (e_map (m := true) (me := true) [] [] (fun d => d) (it_list (e_var 0)) (fun C s H fp d hd => ?_) (by rw [List.length_map]; exact smallN (by omega))) (by simp [rowsD])) rfl
 obtain ⟨row, _, rfl⟩ := List.mem_map.mp hd
 exact e_listL (e_var 0) B.list (fun _ => .inr (flats_strs _))
theorem ok_law_whole {f : Addr} {fd : FuncData} (Fx : Fun K "_law_whole" "_law_whole" s_law_whole f fd) (hmg : mg "_law_whole" = some (.ref f)) (hb : Binds K fd ["_law_number"] []) (B : Blt mg) : Def P w K mg base 1 "_law_whole" true gWhole := by
 refine def_of Fx sc_law_whole hmg hb (by rintro ds d ⟨i, e1, e2⟩; subst e1; rfl) ?_
 rintro cdv A outer s H Ex Z ds d hr ⟨i, e1, e2⟩
 subst e1 e2
 exact sd_ret false (e_and (e_isi (e_var 0) rfl PyProof.Rows.boot_int B.isinstance B.int) fun _ => e_one (e_not (e_isi (b := false) (e_var 0) rfl PyProof.Rows.boot_bool B.isinstance B.bool))) rfl
theorem ok_law_is_place {f : Addr} {fd : FuncData} (Fx : Fun K "_law_is_place" "_law_is_place" s_law_is_place f fd) (hmg : mg "_law_is_place" = some (.ref f)) (hb : Binds K fd ["_law_place"] []) (B : Blt mg) (dW : Def P w K mg base 1 "_law_whole" true gWhole) : Def P w K mg base 2 "_law_is_place" true gIsPlace := by
 refine def_of Fx sc_law_is_place hmg hb (by rintro ds d ⟨p, e1, e2⟩; subst e1; rfl) ?_
 rintro cdv A outer s H Ex Z ds d hr ⟨p, e1, e2⟩
 subst e1 e2
 exact sd_ret false (e_and (e_isi (e_var 0) rfl PyProof.Rows.boot_tuple B.isinstance B.tuple) fun _ => e_and (e_eqI (e_lenT (e_var 0) B.len) e_int) fun _ => e_and (e_call dW hr (ea_one (e_ixT (d := .int p.1) (e_var 0) e_int rfl)) ⟨_, rfl, rfl⟩) fun _ => e_one (e_call dW hr (ea_one (e_ixT (d := .int p.2) (e_var 0) e_int rfl)) ⟨_, rfl, rfl⟩)) rfl
end
section
variable {P : Program} {w : World} {K : PySem.W.Frag} {mg : Str -> Option Value} {base : Heap}
theorem ok_all_places {f : Addr} {fd : FuncData} (Fx : Fun K "all_places" "all_places" s_all_places f fd) (hmg : mg "all_places" = some (.ref f)) (hb : Binds K fd ["rows"] []) (B : Blt mg) : Def P w K mg base 1 "all_places" true gAll := by
 refine def_of Fx sc_all_places hmg hb (by rintro ds d ⟨rows, ht, e1, e2⟩; subst e1; rfl) ?_
 rintro cdv A outer s H Ex Z ds d hr ⟨rows, ht, e1, e2⟩
 subst e1 e2
 have nd := sc_all_places.nd
 refine sd_own 1 (e_lstN ea_nil) rfl ?_ nd
 refine sd_for2 2 3 false (ds := enumD (rows.map strsD)) (fun n r => ∃ o2 o3 o4, r = [some (.pl false (rowsD rows)), some (.ow true ((allPn rows n).map plD)), o2, o3, o4])
  (it_enum (e_var 0) B.enumerate) ⟨_, _, _, rfl⟩ (by rintro n r ⟨_, _, _, e⟩; subst e; simp) (fun d hd => by
   obtain ⟨i, _, rfl⟩ := List.mem_map.mp hd
   exact ⟨_, _, rfl⟩) (fun n d1 d2 r hd ⟨o2, o3, o4, e⟩ => ?_) (fun r ⟨o2, o3, o4, e⟩ => ?_) nd
 · subst e
   obtain ⟨d', hd', e⟩ := enumD_get hd
   cases e
   rw [List.getElem?_map] at hd'
   cases hrow : rows[n]? with
   | none => rw [hrow] at hd'; cases hd'
   | some row =>
    rw [hrow] at hd'
    cases hd'
    have hrl : row.length <= tot rows := by have := tot_row hrow row.length (Nat.le_refl _); omega
    refine sd_forF 4 (ds := rangeD 0 (row.map D.str).length) (fun m r => ∃ o4, r = [some (.pl false (rowsD rows)), some (.ow true ((allPn rows n ++ (List.range m).map fun a => (n, a)).map plD)), some (.pl false (.int (n : Nat))), some (.pl false (strsD row)), o4] ∧ m <= row.length)
     (it_range (n := ((row.map D.str).length : Int)) (m := true) (e_lenL (e_var 3) B.len) (by rw [List.length_map]; omega) (by omega) B.range) flat_range ⟨o4, by simp, by omega⟩ (by rintro n r ⟨_, e, _⟩; subst e; simp) (fun m d r hd ⟨o4, e, hm⟩ => ?_) (fun r ⟨o4, e, hm⟩ => ?_) nd
    · subst e
      obtain ⟨hm2, rfl⟩ := rangeD0_get hd
      rw [List.length_map] at hm2
      have hlen := tot_row hrow m hm
      refine sd_appendF 1 true rfl (e_tup (ea_cons (e_var 2) (ea_one (e_var 4)))) rfl (by simp; omega) ?_
      refine sd_nil ⟨some (.pl true (.int (m : Nat))), ?_, hm2⟩
      rw [List.range_succ]
      simp [plD, List.set]
    · subst e
      refine sd_nil ⟨some (.pl false (.int (n : Nat))), some (.pl false (strsD row)), o4, ?_⟩
      rw [allPn_succ, rangeD_len, List.length_map]
      simp [hrow]
 · subst e
   refine sd_ret true (E.cast (e_var 1) ?_) rfl
   rw [enumD_len, List.length_map]
   rfl
end
section
variable {P : Program} {w : World} {K : PySem.W.Frag} {mg : Str -> Option Value} {base : Heap}
theorem ok_order_of {f : Addr} {fd : FuncData} (Fx : Fun K "order_of" "order_of" s_order_of f fd) (hmg : mg "order_of" = some (.ref f)) (hb : Binds K fd ["rows", "place"] []) (B : Blt mg) (dE : Def P w K mg base 1 "end_of" true gEnd) : Def P w K mg base 2 "order_of" false gOrder := by
 refine def_of Fx sc_order_of hmg hb (by rintro ds d ⟨rows, p, hp, e1, e2⟩; subst e1; rfl) ?_
 rintro cdv A outer s H Ex Z ds d hr ⟨rows, p, hp, e1, e2⟩
 subst e1 e2
 exact sd_ret false (e_tup (ea_cons (e_call dE hr (ea_cons (e_var 0) (ea_one (e_var 1))) ⟨rows, p, hp, rfl, rfl⟩) (ea_one (e_var 1)))) rfl
end
section
variable {P : Program} {w : World} {K : PySem.W.Frag} {mg : Str -> Option Value} {base : Heap}
theorem ok_ends {f c Pt : Addr} {fd : FuncData} (Fx : FunC K "ends" "ends" s_ends f fd c) (LK : LamK K mg base c Pt "ends.<locals>.<lambda>") (hmg : mg "ends" = some (.ref f)) (hb : Binds K fd ["rows"] []) (B : Blt mg) (dA : Def P w K mg base 1 "all_places" true gAll) (dO : Def P w K mg base 2 "order_of" false gOrder) : Def P w K mg base 6 "ends" true gEnds := by
 refine def_ofC Fx sc_ends hmg hb (by rintro ds d ⟨rows, ht, e1, e2⟩; subst e1; rfl) fun A outer s H Ex Z ds d hr ⟨rows, ht, e1, e2⟩ => ?_
 subst e1 e2
 refine sd_ret false (e_sortedK (ds := (allP rows).map plD) (g := keyD rows) (P := isOrd) (P0 := fun d => ∃ p, d = plD p ∧ p.1 < rows.length) (caps := [("rows", 0)]) (pn := "place") (c := c) (Pt := Pt) (qn := "ends.<locals>.<lambda>") (clos := [("rows", s.heap.objs.size + 1)]) (m1 := true) (mb := false) (e_call dA (hr.mono (by decide)) (ea_one (e_var 0)) ⟨rows, by omega, rfl, rfl⟩) ?LC ?LO ?cl ?body ?b lin_ord kind_ord ?P ?inj ?len ?hh ?room ?m) rfl
 case LC => exact LamK.cx LK rfl rfl
 case LO =>
  refine ⟨rfl, rfl, rfl, by decide +kernel, rfl, fun q hq => ?_, fun x c h => h, fun x hx => ?_⟩
  · have : q = (("rows" : Str), 0) := by simpa using hq
    subst this
    exact ⟨rfl, rfl, rfl, rfl⟩
  · have h := (by decide +kernel : ∀ q ∈ lamScope s_ends, q.2 = NameKind.free -> q.1 = ("rows" : Str)) _ (PySem.mem_of_lookup hx) rfl
    have h' : x = ("rows" : Str) := h
    subst h'
    exact ⟨_, rfl⟩
 case cl => rfl
 case b => exact fun _ _ _ _ => rfl
 case body =>
  rintro f' c' s' H' R d ⟨p, rfl, hp⟩
  rw [keyD_pl]
  exact e_call dO (k := 2) (((hr.in1).in1).deeper _) (ea_cons (e_var 1) (ea_one (e_var 0))) ⟨rows, p, hp, rfl, rfl⟩
 case P =>
  intro d hd
  obtain ⟨p, hp, rfl⟩ := List.mem_map.mp hd
  rw [keyD_pl]
  exact ⟨⟨p, rfl, mem_allP hp⟩, ⟨_, p, rfl⟩, ordD_room hr⟩
 case inj =>
  intro x hx y hy e
  obtain ⟨p, _, rfl⟩ := List.mem_map.mp hx
  obtain ⟨q, _, rfl⟩ := List.mem_map.mp hy
  rw [keyD_pl, keyD_pl] at e
  simp only [ordD] at e
  injection e with e
  injection e with _ e
  injection e with e _
 case len => rw [List.length_map, allP_tot]; exact ht
 case hh => exact hr.hd
 case room => exact hr.depth
 case m => exact B.sorted
end
theorem room3 {k : Nat} {A : Around} (r : Room k A) : A.units + 3 < cLine := by have := r.un; omega
section
variable {P : Program} {w : World} {K : PySem.W.Frag} {mg : Str -> Option Value} {base : Heap}
theorem ok_law_ends_told {f : Addr} {fd : FuncData} (Fx : Fun K "_law_ends_told" "_law_ends_told" s_law_ends_told f fd) (hmg : mg "_law_ends_told" = some (.ref f)) (hb : Binds K fd ["_law_rows_here", "_law_handed"] []) (B : Blt mg) (dA : Def P w K mg base 1 "_law_all" true gAllL) (dE : Def P w K mg base 1 "end_of" true gEnd) : Def P w K mg base 2 "_law_ends_told" true gTold11 := by
 refine def_of Fx sc_law_ends_told hmg hb (by rintro ds d ⟨rows, h1, h2, e1, e2⟩; subst e1; rfl) ?_
 rintro cdv A outer s H Ex Z ds d hr ⟨rows, h1, h2, e1, e2⟩
 subst e1 e2
 have nd := sc_law_ends_told.nd
 have hr1 : Room 1 _ := hr.mono (by decide)
 refine sd_forF 2 (ds := (allP rows).map plD) (fun n r => ∃ o2 o3 o4, r = [some (.pl false (rowsD rows)), some (.pl false (rowsD rows)), o2, o3, o4])
  (it_list (e_call dA hr1 (ea_one (e_var 0)) ⟨rows, h1, h2, rfl, rfl⟩)) (fun d hd => by obtain ⟨p, _, rfl⟩ := List.mem_map.mp hd; rfl) ⟨_, _, _, rfl⟩ (by rintro n r ⟨_, _, _, e⟩; subst e; simp) ?_ ?_ nd
 · rintro n d r hd ⟨o2, o3, o4, e⟩
   subst e
   obtain ⟨p, hp, rfl⟩ := List.mem_map.mp (List.mem_of_getElem? hd)
   obtain ⟨p1, p2⟩ := allP_mem hp
   have hrow : (rows.map strsD)[p.1]? = some (strsD (rows.getD p.1 [])) := by simp [p1, strsD]
   have eE : endAt rows p = (rows.getD p.1 []).drop p.2 := rfl
   have hlr : (rows.getD p.1 []).length <= tot rows := by
    have := tot_row (rows := rows) (n := p.1) (row := rows.getD p.1 []) (by simp [p1]) (rows.getD p.1 []).length (Nat.le_refl _)
    omega
   have gE : gEnd [rowsD rows, plD p] (strsD (endAt rows p)) := ⟨rows, p, p1, rfl, rfl⟩
   rw [eE] at gE
   generalize rows.getD p.1 [] = row at p2 hrow hlr gE
   refine sd_setCN 3 (d := strsD (row.drop p.2)) (EC.cast (ec_map (m := true) (me := true) ["_law_rows_here", "_law_place"] [0, 2] (fun d => match d with | .int k => .str (row.getD k.toNat "") | d => d)
    (it_range2 (lo := (p.2 : Int)) (hi := ((row.map D.str).length : Int)) (m := true) (e_ixT (d := .int p.2) (e_var 2) e_int rfl) (e_lenL (e_ixL (e_var 0) (e_ixT (d := .int p.1) (e_var 2) e_int rfl) (atI_nat hrow)) B.len) (by rw [List.length_map]; omega) B.range)
    (fun C s H fp d hd => ?_) (by rw [rangeD_len, List.length_map]; exact smallN (by omega))) ?_) ?_ nd
   · obtain ⟨k, hk, rfl⟩ := List.mem_map.mp hd
     rw [List.mem_range, List.length_map] at hk
     have hk2 : p.2 + k < row.length := by omega
     refine E.flat (e_ixL (d := .str (row.getD (p.2 + k) "")) (e_ixL (e_var 1) (e_ixT (d := .int p.1) (e_var 2) e_int rfl) (atI_nat hrow)) (e_var 0) (atI_get (by omega) (by rw [show ((p.2 : Int) + (k : Nat)).toNat = p.2 + k by omega]; exact strs_get hk2))) rfl
   · unfold strsD rangeD
     rw [List.map_map]
     congr 1
     apply List.ext_getElem
     · simp
     · intro i a b
       have hb : p.2 + i < row.length := by simp at b; omega
       have e : ((p.2 : Int) + (i : Nat)).toNat = p.2 + i := by omega
       simp [e, hb]
   · refine sd_own 4 (ds := (row.drop p.2).map D.str) (e_call dE hr1 (ea_cons (e_var 1) (ea_one (e_var 2))) gE) (flats_strs _) ?_ nd
     refine sd_if (TW.t (tw_or (t_not (t_val (e_isi (e_var 4) rfl PyProof.Rows.boot_list B.isinstance B.list))) fun _ => tw_or1 (t_neD (e_var 4) (e_var 3) rfl (roomD hr (dep_strs _))))) (fun h => ?_) (fun h => sd_nil ?_)
     · exfalso
       simp at h
       rw [deq_refl] at h
       cases h
     · refine sd_clear 4 true rfl ?_
       exact sd_nil ⟨_, _, _, rfl⟩
 · rintro r ⟨o2, o3, o4, e⟩
   subst e
   exact sd_ret false (E.cast (e_eqD (e_var 1) (e_var 0) rfl (roomD hr (dep_rows _))) (by rw [deq_refl])) rfl
theorem ok_law_single_due {f : Addr} {fd : FuncData} (Fx : Fun K "_law_single_due" "_law_single_due" s_law_single_due f fd) (hmg : mg "_law_single_due" = some (.ref f)) (hb : Binds K fd ["_law_single"] []) (B : Blt mg) : Def P w K mg base 2 "_law_single_due" true gDue11 := by
 refine def_of Fx sc_law_single_due hmg hb (by rintro ds d ⟨vs, h1, e1, e2⟩; subst e1; rfl) ?_
 rintro cdv A outer s H Ex Z ds d hr ⟨vs, h1, e1, e2⟩
 subst e1 e2
 have nd := sc_law_single_due.nd
 have hu := hr.un
 have hD : rowsD (oneR vs) = .lst ((oneR vs).map strsD) := rfl
 have ho := one_len vs
 refine sd_own 1 (e_lstN ea_nil) rfl ?_ nd
 refine sd_forF 2 (ds := upT vs) (fun n r => ∃ o2 o3, r = [some (.pl false (rowsD (oneR vs))), some (.ow true ((dueN vs n).map plD)), o2, o3])
  (it_list (e_sortedSet (ws := vs) (m := true) (E.cast (e_map (m := true) (me := false) [] [] (fun d => match d with | .lst (x :: _) => x | d => d) (it_list (e_var 0)) (fun C s H fp d hd => ?_) (by rw [List.length_map, ho]; exact smallN (by omega)) fun _ => .inr fun d hd => ?_) ?_) h1 (room3 hr) hr.hd B.sorted B.set)) (fun d hd => ?_) ⟨_, _, rfl⟩ (by rintro n r ⟨_, _, e⟩; subst e; simp) (fun n d r hd ⟨o2, o3, e⟩ => ?_) (fun r ⟨o2, o3, e⟩ => ?_) nd
 · obtain ⟨row, hrow, rfl⟩ := List.mem_map.mp hd
   obtain ⟨v, _, rfl⟩ := List.mem_map.mp hrow
   exact e_ixL (d := .str v) (e_var 0) e_int rfl
 · obtain ⟨row, hrow, rfl⟩ := List.mem_map.mp hd
   obtain ⟨v, _, rfl⟩ := List.mem_map.mp hrow
   rfl
 · unfold oneR
   rw [List.map_map, List.map_map]
   rfl
 · rw [upT_eq] at hd
   exact flat_strs d hd
 · subst e
   rw [upT_eq, List.getElem?_map] at hd
   cases hx : (upS vs)[n]? with
   | none => rw [hx] at hd; cases hd
   | some x =>
    rw [hx] at hd
    cases hd
    have hdl := due_take vs n
    have hdn : dueN vs (n + 1) = dueN vs n ++ atsT vs x := by unfold dueN; rw [List.take_succ, hx, List.flatMap_append]; simp
    refine sd_forF 3 (ds := rangeD 0 ((oneR vs).map strsD).length) (fun m r => ∃ o3, r = [some (.pl false (rowsD (oneR vs))), some (.ow true ((dueN vs n ++ ((List.range m).filter fun i => decide (vs.getD i "" = x)).map fun i => (i, 0)).map plD)), some (.pl true (.str x)), o3] ∧ m <= vs.length)
     (it_rangeL (e_lenL (e_var 0) B.len) B.range (by rw [List.length_map, ho]; omega)) flat_range ⟨o3, by simp [List.set], by omega⟩ (by rintro n r ⟨_, e, _⟩; subst e; simp) (fun m d r hd ⟨o3, e, hm⟩ => ?_) (fun r ⟨o3, e, hm⟩ => ?_) nd
    · subst e
      obtain ⟨hm2, rfl⟩ := rangeD0_get hd
      rw [List.length_map, ho] at hm2
      have hrow : ((oneR vs).map strsD)[m]? = some (strsD [vs.getD m ""]) := by simp [oneR, hm2]
      refine sd_if (T.castB (t_eqD (e_ixL (e_var 0) (e_var 3) (atI_nat hrow)) (e_lst (ea_one (e_var 2))) rfl (roomD hr (dep_strs _))) (show _ = decide ([vs.getD m ""] = [x]) by rw [show (D.lst [.str x]) = strsD [x] from rfl, told_strs])) (fun h => ?_) (fun h => ?_)
      · have h5 : vs.getD m "" = x := by simpa using h
        have l1 : (((List.range m).filter fun i => decide (vs.getD i "" = x))).length <= m := by
         have := List.length_filter_le (fun i => decide (vs.getD i "" = x)) (List.range m)
         simpa using this
        refine sd_appendF 1 true rfl (e_tup (ea_cons (e_var 3) (ea_one e_int))) rfl (by rw [List.length_map, List.length_append, List.length_map]; omega) ?_
        refine sd_nil (sd_nil ⟨some (.pl true (.int (m : Nat))), ?_, hm2⟩)
        rw [List.range_succ, List.filter_append, List.filter_cons_of_pos (by simpa using h5)]
        simp [plD, List.set]
      · have h5 : ¬ vs.getD m "" = x := by simpa using h
        refine sd_nil (sd_nil ⟨some (.pl true (.int (m : Nat))), ?_, hm2⟩)
        rw [List.range_succ, List.filter_append, List.filter_cons_of_neg (by simpa using h5)]
        simp [List.set]
    · subst e
      refine sd_nil ⟨some (.pl true (.str x)), o3, ?_⟩
      rw [rangeD_len, List.length_map, ho, hdn]
      rfl
 · subst e
   refine sd_ret true (E.cast (e_var 1) ?_) rfl
   rw [upT_eq, List.length_map]
   unfold dueN
   rw [List.take_length]
   rfl
theorem ok_law {f : Addr} {fd : FuncData} (Fx : Fun K "law" "law" s_law f fd) (B : Blt mg) (dC : Def P w K mg base 1 "_law_cell_at" true gCellAt) (dP : Def P w K mg base 1 "_law_part" true gPart) (dW : Def P w K mg base 2 "_law_words" true gWordsB) (dR : Def P w K mg base 2 "_law_rows" true gRowsB)
 (dT : Def P w K mg base 2 "_law_ends_told" true gTold11) (dY : Def P w K mg base 1 "_law_copy" true gCopy) (dEn : Def P w K mg base 6 "ends" true gEnds) (dI : Def P w K mg base 2 "_law_is_place" true gIsPlace) (dS : Def P w K mg base 2 "_law_single_due" true gDue11) : FnOk P w K mg base CX0 7 f fd ["_law_script"] (spD K false lawG) := by
 refine fnD Fx sc_law (by rintro ds d ⟨ns, hz, e1, e2⟩; subst e1; rfl) ?_
 rintro cdv A outer s H Ex Z ds d hr ⟨ns, hz, e1, e2⟩
 subst e1 e2
 have nd := sc_law.nd
 have hr1 : Room 1 _ := hr.mono (by decide)
 have hr2 : Room 2 _ := hr.mono (by decide)
 have hcut : (cut ns (some 3) (some 63)).length <= 60 := by
  rw [show (some (3 : Int)) = some ((3 : Nat) : Int) from rfl, show (some (63 : Int)) = some ((63 : Nat) : Int) from rfl, cut_both]
  simp; omega
 have hcut2 : (cut ns (some 2) (some 63)).length <= 61 := by
  rw [show (some (2 : Int)) = some ((2 : Nat) : Int) from rfl, show (some (63 : Int)) = some ((63 : Nat) : Int) from rfl, cut_both]
  simp; omega
 refine sd_setN 1 (d := strsD (wordsB (cellAt ns 0) (cellAt ns 1))) (e_call dW hr2 (ea_cons (e_call dC hr1 (ea_cons (e_var 0) (ea_one e_int)) ⟨ns, 0, by omega, rfl, rfl⟩) (ea_one (e_call dC hr1 (ea_cons (e_var 0) (ea_one e_int)) ⟨ns, 1, by omega, rfl, rfl⟩))) ⟨_, _, rfl, rfl⟩) ?_ nd
 have hws := wordsB_len (cellAt ns 0) (cellAt ns 1)
 generalize wordsB (cellAt ns 0) (cellAt ns 1) = ws at hws
 refine sd_setN 2 (d := rowsD (rowsB ws (cut ns (some 3) (some 63)))) (e_call dR hr2 (ea_cons (e_var 1) (ea_one (E.cast (e_slL (m := false) (e_var 0) (eo_some e_int) (eo_some e_int)) (show _ = intsD (cut ns (some 3) (some 63)) by rw [cut_map]; rfl)))) ⟨ws, _, hws, by omega, rfl, rfl⟩) ?_ nd
 generalize cut ns (some 3) (some 63) = cells at hcut
 obtain ⟨ht, hl⟩ := rowsB_tot ws cells
 generalize rowsB ws cells = rows at ht hl
 refine sd_if (t_not (t_val (e_call dT hr2 (ea_cons (e_var 2) (ea_one (e_call dY hr1 (ea_one (e_var 2)) ⟨rows, by omega, rfl, rfl⟩))) ⟨rows, by omega, by omega, rfl, rfl⟩))) (fun h => by simp at h) (fun h => sd_nil ?_)
 refine sd_setCN 3 (d := rowsD (oneR ((cut ns (some 2) (some 63)).map fun c => ws.getD (part c 5 5).toNat ""))) (EC.cast (ec_map (m := true) (me := true) ["_law_words_here"] [1] (fun d => match d with | .int c => strsD [ws.getD (part c 5 5).toNat ""] | d => d) (it_list (ds := (cut ns (some 2) (some 63)).map D.int) (E.cast (e_slL (m := false) (e_var 0) (eo_some e_int) (eo_some e_int)) (by rw [cut_map])))
  (fun C s H fp d hd => ?_) (by rw [List.length_map]; exact smallN (by omega))) ?_) ?_ nd
 · obtain ⟨c, _, rfl⟩ := List.mem_map.mp hd
   have q0 := part_nn c 5 (show (0 : Int) < 5 by decide)
   have q1 := part_lt c 5 (show (0 : Int) < 5 by decide)
   refine e_lstF (eaf_cons (E.flat (m := true) (e_ixL (d := .str (ws.getD (part c 5 5).toNat "")) (e_var 1) (e_call dP hr1 (ea_cons (e_var 0) (ea_cons e_int (ea_one e_int))) ⟨_, _, _, by decide, rfl, rfl⟩) (atI_get q0 (strs_get (by omega)))) rfl) eaf_nil)
 · simp [rowsD, oneR, Function.comp_def]
 · generalize hvs : ((cut ns (some 2) (some 63)).map fun c => ws.getD (part c 5 5).toNat "") = vs
   have hv : vs.length <= 61 := by rw [<- hvs, List.length_map]; exact hcut2
   clear hvs
   have ho := one_len vs
   have hto := tot_one vs
   refine sd_setN 4 (d := rowsD (oneR vs)) (e_call dY hr1 (ea_one (e_var 3)) ⟨oneR vs, by omega, rfl, rfl⟩) ?_ nd
   have eE : endsD (oneR vs) = plsD (dueL vs) := by rw [endsD_eq, due_ends]
   refine sd_setN 5 (d := plsD (dueL vs)) (E.cast (e_call dEn hr (ea_one (e_var 4)) ⟨oneR vs, by omega, rfl, rfl⟩) eE) ?_ nd
   have hdl := due_len vs
   refine sd_if (TW.t (tw_or (t_not (t_val (e_isi (e_var 5) rfl PyProof.Rows.boot_list B.isinstance B.list))) fun _ => tw_or1 (t_not (t_val (e_all (bs := (dueL vs).map fun _ => true) (E.cast (e_map (me := true) [] [] (fun _ => .bl true) (it_list (e_var 5)) (fun C s H fp d hd => ?_) (by rw [List.length_map]; exact smallN (by omega)) (m := false)) ?_) hr.hd B.all))))) (fun h => ?_) (fun h => sd_nil ?_)
   · obtain ⟨p, _, rfl⟩ := List.mem_map.mp hd
     exact e_call dI hr2 (ea_one (e_var 0)) ⟨p, rfl, rfl⟩
   · simp [plsD, Function.comp_def]
   · simp at h
   · refine sd_ret false (E.cast (e_and (e_eqD (e_var 5) (e_call dS hr2 (ea_one (e_var 3)) ⟨vs, by omega, rfl, rfl⟩) rfl (roomD hr (dep_pls _))) fun _ => e_one (e_eqD (e_var 4) (e_var 3) rfl (roomD hr (dep_rows _)))) ?_) rfl
     rw [deq_refl, deq_refl]
     rfl
end
end
instance : Y.Tabs := ⟨[(37, "ends.<locals>.<lambda>")]⟩
theorem len1 {us : List Value} (h : us.length = 1) : ∃ a, us = [a] := by
  cases us with
  | nil => cases h
  | cons a r =>
    cases r with
    | nil => exact ⟨a, rfl⟩
    | cons b c => simp at h
theorem len2 {us : List Value} (h : us.length = 2) : ∃ a0 a1, us = [a0, a1] := by
  cases us with
  | nil => cases h
  | cons a r =>
    obtain ⟨a1, rfl⟩ := len1 (Nat.succ.inj h)
    exact ⟨a, a1, rfl⟩
theorem len3 {us : List Value} (h : us.length = 3) : ∃ a0 a1 a2, us = [a0, a1, a2] := by
  cases us with
  | nil => cases h
  | cons a r =>
    obtain ⟨a1, a2, rfl⟩ := len2 (Nat.succ.inj h)
    exact ⟨a, a1, a2, rfl⟩
theorem len4 {us : List Value} (h : us.length = 4) : ∃ a0 a1 a2 a3, us = [a0, a1, a2, a3] := by
  cases us with
  | nil => cases h
  | cons a r =>
    obtain ⟨a1, a2, a3, rfl⟩ := len3 (Nat.succ.inj h)
    exact ⟨a, a1, a2, a3, rfl⟩
theorem len5 {us : List Value} (h : us.length = 5) : ∃ a0 a1 a2 a3 a4, us = [a0, a1, a2, a3, a4] := by
  cases us with
  | nil => cases h
  | cons a r =>
    obtain ⟨a1, a2, a3, a4, rfl⟩ := len4 (Nat.succ.inj h)
    exact ⟨a, a1, a2, a3, a4, rfl⟩
theorem len6 {us : List Value} (h : us.length = 6) : ∃ a0 a1 a2 a3 a4 a5, us = [a0, a1, a2, a3, a4, a5] := by
  cases us with
  | nil => cases h
  | cons a r =>
    obtain ⟨a1, a2, a3, a4, a5, rfl⟩ := len5 (Nat.succ.inj h)
    exact ⟨a, a1, a2, a3, a4, a5, rfl⟩
theorem all_mk {l : PySem.W.OpenLaw} {w : World} {K : PySem.W.Frag} {h : Heap} {mg : Str -> Option Value} {fa : Addr} (X : K.In h) (G : h.Ns mainGlobals mg) (hfa : mg "law" = some (.ref fa))
 {f1 : Addr} {od1 an1 : Option Addr} {sl1 : Array (Option Value)} {oc1 kV1 dc1 pm1 cd1 ct1 : Value}
 {f2 : Addr} {od2 an2 : Option Addr} {sl2 : Array (Option Value)} {oc2 kV2 dc2 pm2 cd2 ct2 : Value}
 {f3 : Addr} {od3 an3 : Option Addr} {sl3 : Array (Option Value)} {oc3 kV3 dc3 pm3 cd3 ct3 : Value}
 {f4 : Addr} {od4 an4 : Option Addr} {sl4 : Array (Option Value)} {oc4 kV4 dc4 pm4 ct4 : Value} {cc4 : Addr}
 {f5 : Addr} {od5 an5 : Option Addr} {sl5 : Array (Option Value)} {oc5 kV5 dc5 pm5 cd5 ct5 : Value}
 {f6 : Addr} {od6 an6 : Option Addr} {sl6 : Array (Option Value)} {oc6 kV6 dc6 pm6 cd6 ct6 : Value}
 {f7 : Addr} {od7 an7 : Option Addr} {sl7 : Array (Option Value)} {oc7 kV7 dc7 pm7 cd7 ct7 : Value}
 {f8 : Addr} {od8 an8 : Option Addr} {sl8 : Array (Option Value)} {oc8 kV8 dc8 pm8 cd8 ct8 : Value}
 {f9 : Addr} {od9 an9 : Option Addr} {sl9 : Array (Option Value)} {oc9 kV9 dc9 pm9 cd9 ct9 : Value}
 {f10 : Addr} {od10 an10 : Option Addr} {sl10 : Array (Option Value)} {oc10 kV10 dc10 pm10 cd10 ct10 : Value}
 {f11 : Addr} {od11 an11 : Option Addr} {sl11 : Array (Option Value)} {oc11 kV11 dc11 pm11 cd11 ct11 : Value}
 {f12 : Addr} {od12 an12 : Option Addr} {sl12 : Array (Option Value)} {oc12 kV12 dc12 pm12 cd12 ct12 : Value}
 {f13 : Addr} {od13 an13 : Option Addr} {sl13 : Array (Option Value)} {oc13 kV13 dc13 pm13 cd13 ct13 : Value}
 {f14 : Addr} {od14 an14 : Option Addr} {sl14 : Array (Option Value)} {oc14 kV14 dc14 pm14 cd14 ct14 : Value}
 {f15 : Addr} {od15 an15 : Option Addr} {sl15 : Array (Option Value)} {oc15 kV15 dc15 pm15 cd15 ct15 : Value}
 (a1 : PySem.W.nsIn K mainGlobals "all_places" = some (some (.ref f1)))
 (l1 : K.lookup f1 = some ⟨oc1, od1, .func (PySem.W.fnOf "all_places" "all_places" (defArgs s_all_places) (defBody s_all_places) (defScope s_all_places) .none kV1 dc1 pm1 an1 cd1 ct1), sl1⟩)
 (c1 : PySem.W.codeIn K cd1 "all_places" = true) (k1 : PySem.W.keepIn K (.ref f1) = true)
 (a2 : PySem.W.nsIn K mainGlobals "end_of" = some (some (.ref f2)))
 (l2 : K.lookup f2 = some ⟨oc2, od2, .func (PySem.W.fnOf "end_of" "end_of" (defArgs s_end_of) (defBody s_end_of) (defScope s_end_of) .none kV2 dc2 pm2 an2 cd2 ct2), sl2⟩)
 (c2 : PySem.W.codeIn K cd2 "end_of" = true) (k2 : PySem.W.keepIn K (.ref f2) = true)
 (a3 : PySem.W.nsIn K mainGlobals "order_of" = some (some (.ref f3)))
 (l3 : K.lookup f3 = some ⟨oc3, od3, .func (PySem.W.fnOf "order_of" "order_of" (defArgs s_order_of) (defBody s_order_of) (defScope s_order_of) .none kV3 dc3 pm3 an3 cd3 ct3), sl3⟩)
 (c3 : PySem.W.codeIn K cd3 "order_of" = true) (k3 : PySem.W.keepIn K (.ref f3) = true)
 (a4 : PySem.W.nsIn K mainGlobals "ends" = some (some (.ref f4)))
 (l4 : K.lookup f4 = some ⟨oc4, od4, .func (PySem.W.fnOf "ends" "ends" (defArgs s_ends) (defBody s_ends) (defScope s_ends) .none kV4 dc4 pm4 an4 (.ref cc4) ct4), sl4⟩)
 (c4 : PySem.W.codeIn K (.ref cc4) "ends" = true) (k4 : PySem.W.keepIn K (.ref f4) = true)
 (h4 : PySem.W.codeHdIn K cc4 37 = true)
 (a5 : PySem.W.nsIn K mainGlobals "_law_cell_at" = some (some (.ref f5)))
 (l5 : K.lookup f5 = some ⟨oc5, od5, .func (PySem.W.fnOf "_law_cell_at" "_law_cell_at" (defArgs s_law_cell_at) (defBody s_law_cell_at) (defScope s_law_cell_at) .none kV5 dc5 pm5 an5 cd5 ct5), sl5⟩)
 (c5 : PySem.W.codeIn K cd5 "_law_cell_at" = true) (k5 : PySem.W.keepIn K (.ref f5) = true)
 (a6 : PySem.W.nsIn K mainGlobals "_law_part" = some (some (.ref f6)))
 (l6 : K.lookup f6 = some ⟨oc6, od6, .func (PySem.W.fnOf "_law_part" "_law_part" (defArgs s_law_part) (defBody s_law_part) (defScope s_law_part) .none kV6 dc6 pm6 an6 cd6 ct6), sl6⟩)
 (c6 : PySem.W.codeIn K cd6 "_law_part" = true) (k6 : PySem.W.keepIn K (.ref f6) = true)
 (a7 : PySem.W.nsIn K mainGlobals "_law_words" = some (some (.ref f7)))
 (l7 : K.lookup f7 = some ⟨oc7, od7, .func (PySem.W.fnOf "_law_words" "_law_words" (defArgs s_law_words) (defBody s_law_words) (defScope s_law_words) .none kV7 dc7 pm7 an7 cd7 ct7), sl7⟩)
 (c7 : PySem.W.codeIn K cd7 "_law_words" = true) (k7 : PySem.W.keepIn K (.ref f7) = true)
 (a8 : PySem.W.nsIn K mainGlobals "_law_rows" = some (some (.ref f8)))
 (l8 : K.lookup f8 = some ⟨oc8, od8, .func (PySem.W.fnOf "_law_rows" "_law_rows" (defArgs s_law_rows) (defBody s_law_rows) (defScope s_law_rows) .none kV8 dc8 pm8 an8 cd8 ct8), sl8⟩)
 (c8 : PySem.W.codeIn K cd8 "_law_rows" = true) (k8 : PySem.W.keepIn K (.ref f8) = true)
 (a9 : PySem.W.nsIn K mainGlobals "_law_all" = some (some (.ref f9)))
 (l9 : K.lookup f9 = some ⟨oc9, od9, .func (PySem.W.fnOf "_law_all" "_law_all" (defArgs s_law_all) (defBody s_law_all) (defScope s_law_all) .none kV9 dc9 pm9 an9 cd9 ct9), sl9⟩)
 (c9 : PySem.W.codeIn K cd9 "_law_all" = true) (k9 : PySem.W.keepIn K (.ref f9) = true)
 (a10 : PySem.W.nsIn K mainGlobals "_law_copy" = some (some (.ref f10)))
 (l10 : K.lookup f10 = some ⟨oc10, od10, .func (PySem.W.fnOf "_law_copy" "_law_copy" (defArgs s_law_copy) (defBody s_law_copy) (defScope s_law_copy) .none kV10 dc10 pm10 an10 cd10 ct10), sl10⟩)
 (c10 : PySem.W.codeIn K cd10 "_law_copy" = true) (k10 : PySem.W.keepIn K (.ref f10) = true)
 (a11 : PySem.W.nsIn K mainGlobals "_law_whole" = some (some (.ref f11)))
 (l11 : K.lookup f11 = some ⟨oc11, od11, .func (PySem.W.fnOf "_law_whole" "_law_whole" (defArgs s_law_whole) (defBody s_law_whole) (defScope s_law_whole) .none kV11 dc11 pm11 an11 cd11 ct11), sl11⟩)
 (c11 : PySem.W.codeIn K cd11 "_law_whole" = true) (k11 : PySem.W.keepIn K (.ref f11) = true)
 (a12 : PySem.W.nsIn K mainGlobals "_law_is_place" = some (some (.ref f12)))
 (l12 : K.lookup f12 = some ⟨oc12, od12, .func (PySem.W.fnOf "_law_is_place" "_law_is_place" (defArgs s_law_is_place) (defBody s_law_is_place) (defScope s_law_is_place) .none kV12 dc12 pm12 an12 cd12 ct12), sl12⟩)
 (c12 : PySem.W.codeIn K cd12 "_law_is_place" = true) (k12 : PySem.W.keepIn K (.ref f12) = true)
 (a13 : PySem.W.nsIn K mainGlobals "_law_ends_told" = some (some (.ref f13)))
 (l13 : K.lookup f13 = some ⟨oc13, od13, .func (PySem.W.fnOf "_law_ends_told" "_law_ends_told" (defArgs s_law_ends_told) (defBody s_law_ends_told) (defScope s_law_ends_told) .none kV13 dc13 pm13 an13 cd13 ct13), sl13⟩)
 (c13 : PySem.W.codeIn K cd13 "_law_ends_told" = true) (k13 : PySem.W.keepIn K (.ref f13) = true)
 (a14 : PySem.W.nsIn K mainGlobals "_law_single_due" = some (some (.ref f14)))
 (l14 : K.lookup f14 = some ⟨oc14, od14, .func (PySem.W.fnOf "_law_single_due" "_law_single_due" (defArgs s_law_single_due) (defBody s_law_single_due) (defScope s_law_single_due) .none kV14 dc14 pm14 an14 cd14 ct14), sl14⟩)
 (c14 : PySem.W.codeIn K cd14 "_law_single_due" = true) (k14 : PySem.W.keepIn K (.ref f14) = true)
 (a15 : PySem.W.nsIn K mainGlobals "law" = some (some (.ref f15)))
 (l15 : K.lookup f15 = some ⟨oc15, od15, .func (PySem.W.fnOf "law" "law" (defArgs s_law) (defBody s_law) (defScope s_law) .none kV15 dc15 pm15 an15 cd15 ct15), sl15⟩)
 (c15 : PySem.W.codeIn K cd15 "law" = true) (k15 : PySem.W.keepIn K (.ref f15) = true)
 (z_all : PySem.W.nsIn K mainGlobals "all" = some none)
 (z_bool : PySem.W.nsIn K mainGlobals "bool" = some none)
 (z_enumerate : PySem.W.nsIn K mainGlobals "enumerate" = some none)
 (z_int : PySem.W.nsIn K mainGlobals "int" = some none)
 (z_isinstance : PySem.W.nsIn K mainGlobals "isinstance" = some none)
 (z_len : PySem.W.nsIn K mainGlobals "len" = some none)
 (z_list : PySem.W.nsIn K mainGlobals "list" = some none)
 (z_range : PySem.W.nsIn K mainGlobals "range" = some none)
 (z_set : PySem.W.nsIn K mainGlobals "set" = some none)
 (z_sorted : PySem.W.nsIn K mainGlobals "sorted" = some none)
 (z_tuple : PySem.W.nsIn K mainGlobals "tuple" = some none) :
 ∃ fd : FuncData, (∀ (s : Shared) (v : Value), BindsTo s fd ⟨[v], []⟩ [("_law_script", v)]) ∧ ∀ base : Heap, K.In base -> base.Ns mainGlobals mg -> BmB mg base -> FnOk l.prog w K mg base CX0 7 fa fd ["_law_script"] (spLaw K) := by
 have e := hfa.symm.trans (PySem.W.mg_of X G a15)
 cases e
 have B : Blt mg := ⟨PySem.W.mg_none_of X G z_all, PySem.W.mg_none_of X G z_bool, PySem.W.mg_none_of X G z_enumerate, PySem.W.mg_none_of X G z_int, PySem.W.mg_none_of X G z_isinstance, PySem.W.mg_none_of X G z_len, PySem.W.mg_none_of X G z_list, PySem.W.mg_none_of X G z_range, PySem.W.mg_none_of X G z_set, PySem.W.mg_none_of X G z_sorted, PySem.W.mg_none_of X G z_tuple⟩
 have F1 := fun_mk (st := s_all_places) l1 c1 k1
 have b1 := F1.binds (ps := ["rows"]) fun _ _ _ _ _ _ us hl => by obtain ⟨u0, rfl⟩ := len1 hl; rfl
 have F2 := fun_mk (st := s_end_of) l2 c2 k2
 have b2 := F2.binds (ps := ["rows", "place"]) fun _ _ _ _ _ _ us hl => by obtain ⟨u0, u1, rfl⟩ := len2 hl; rfl
 have F3 := fun_mk (st := s_order_of) l3 c3 k3
 have b3 := F3.binds (ps := ["rows", "place"]) fun _ _ _ _ _ _ us hl => by obtain ⟨u0, u1, rfl⟩ := len2 hl; rfl
 have G4 := funC_mk (st := s_ends) l4 c4 k4
 have F4 := G4.fn
 have b4 := F4.binds (ps := ["rows"]) fun _ _ _ _ _ _ us hl => by obtain ⟨u0, rfl⟩ := len1 hl; rfl
 have F5 := fun_mk (st := s_law_cell_at) l5 c5 k5
 have b5 := F5.binds (ps := ["_law_script", "_law_k"]) fun _ _ _ _ _ _ us hl => by obtain ⟨u0, u1, rfl⟩ := len2 hl; rfl
 have F6 := fun_mk (st := s_law_part) l6 c6 k6
 have b6 := F6.binds (ps := ["_law_cell", "_law_k", "_law_many"]) fun _ _ _ _ _ _ us hl => by obtain ⟨u0, u1, u2, rfl⟩ := len3 hl; rfl
 have F7 := fun_mk (st := s_law_words) l7 c7 k7
 have b7 := F7.binds (ps := ["_law_one", "_law_other"]) fun _ _ _ _ _ _ us hl => by obtain ⟨u0, u1, rfl⟩ := len2 hl; rfl
 have F8 := fun_mk (st := s_law_rows) l8 c8 k8
 have b8 := F8.binds (ps := ["_law_words_here", "_law_cells"]) fun _ _ _ _ _ _ us hl => by obtain ⟨u0, u1, rfl⟩ := len2 hl; rfl
 have F9 := fun_mk (st := s_law_all) l9 c9 k9
 have b9 := F9.binds (ps := ["_law_rows_here"]) fun _ _ _ _ _ _ us hl => by obtain ⟨u0, rfl⟩ := len1 hl; rfl
 have F10 := fun_mk (st := s_law_copy) l10 c10 k10
 have b10 := F10.binds (ps := ["_law_rows_here"]) fun _ _ _ _ _ _ us hl => by obtain ⟨u0, rfl⟩ := len1 hl; rfl
 have F11 := fun_mk (st := s_law_whole) l11 c11 k11
 have b11 := F11.binds (ps := ["_law_number"]) fun _ _ _ _ _ _ us hl => by obtain ⟨u0, rfl⟩ := len1 hl; rfl
 have F12 := fun_mk (st := s_law_is_place) l12 c12 k12
 have b12 := F12.binds (ps := ["_law_place"]) fun _ _ _ _ _ _ us hl => by obtain ⟨u0, rfl⟩ := len1 hl; rfl
 have F13 := fun_mk (st := s_law_ends_told) l13 c13 k13
 have b13 := F13.binds (ps := ["_law_rows_here", "_law_handed"]) fun _ _ _ _ _ _ us hl => by obtain ⟨u0, u1, rfl⟩ := len2 hl; rfl
 have F14 := fun_mk (st := s_law_single_due) l14 c14 k14
 have b14 := F14.binds (ps := ["_law_single"]) fun _ _ _ _ _ _ us hl => by obtain ⟨u0, rfl⟩ := len1 hl; rfl
 have F15 := fun_mk (st := s_law) l15 c15 k15
 refine ⟨PySem.W.fnOf "law" "law" (defArgs s_law) (defBody s_law) (defScope s_law) .none kV15 dc15 pm15 an15 cd15 ct15, fun s v => .of_eq rfl, fun base _ _ bm => ?_⟩
 have D1 := ok_all_places (P := l.prog) (w := w) (base := base) F1 (PySem.W.mg_of X G a1) b1 B 
 have D2 := ok_end_of (P := l.prog) (w := w) (base := base) F2 (PySem.W.mg_of X G a2) b2 B 
 have D3 := ok_order_of (P := l.prog) (w := w) (base := base) F3 (PySem.W.mg_of X G a3) b3 B D2
 have L4 : LamK K mg base cc4 37 "ends.<locals>.<lambda>" := ⟨h4, by decide, by decide, bm, by decide⟩
 have D4 := ok_ends (P := l.prog) (w := w) (base := base) G4 L4 (PySem.W.mg_of X G a4) b4 B D1 D3
 have D5 := ok_law_cell_at (P := l.prog) (w := w) (base := base) F5 (PySem.W.mg_of X G a5) b5 B 
 have D6 := ok_law_part (P := l.prog) (w := w) (base := base) F6 (PySem.W.mg_of X G a6) b6 B 
 have D7 := ok_law_words (P := l.prog) (w := w) (base := base) F7 (PySem.W.mg_of X G a7) b7 B D6
 have D8 := ok_law_rows (P := l.prog) (w := w) (base := base) F8 (PySem.W.mg_of X G a8) b8 B D6
 have D9 := ok_law_all (P := l.prog) (w := w) (base := base) F9 (PySem.W.mg_of X G a9) b9 B 
 have D10 := ok_law_copy (P := l.prog) (w := w) (base := base) F10 (PySem.W.mg_of X G a10) b10 B 
 have D11 := ok_law_whole (P := l.prog) (w := w) (base := base) F11 (PySem.W.mg_of X G a11) b11 B 
 have D12 := ok_law_is_place (P := l.prog) (w := w) (base := base) F12 (PySem.W.mg_of X G a12) b12 B D11
 have D13 := ok_law_ends_told (P := l.prog) (w := w) (base := base) F13 (PySem.W.mg_of X G a13) b13 B D9 D2
 have D14 := ok_law_single_due (P := l.prog) (w := w) (base := base) F14 (PySem.W.mg_of X G a14) b14 B 
 exact law_of (ok_law F15 B D5 D6 D7 D8 D13 D10 D4 D12 D14)
end Z
open PySem PySem.W PyProof.Rows
set_option maxRecDepth 100000 in
set_option maxHeartbeats 0 in
theorem PySem.Challenge.cw_besidewords_k11_an_end_holds : PySem.Challenge.rw_besidewords_k11_an_end.Holds := by
 w_on; o_law; k_head; (case hw => w_witness2)
 k_fill
 refine Y.walkT (l := PySem.Challenge.rw_besidewords_k11_an_end) (k := 7) (x := "_law_script") rfl rfl ⟨rfl, by decide, by decide⟩ (fun w h Y => km_in_of Y) ?T ?F
 case T =>
  intro w h Yk q hq
  rcases (by simpa [Y.Tabs.T] using hq : q = ((37 : Addr), ("ends.<locals>.<lambda>" : Str))) with rfl
  · refine Y.tabs_ok (c := 41) Yk ?x1 ?x2 ?x3
    (case x1 => simp)
    (case x2 => kernel_rfl)
    (case x3 => kernel_rfl)
 case F =>
  intro w mg fa h KX G hmg
  refine' Z.all_mk KX G hmg ?a1 ?l1 ?c1 ?k1 ?a2 ?l2 ?c2 ?k2 ?a3 ?l3 ?c3 ?k3 ?a4 ?l4 ?c4 ?k4 ?h4 ?a5 ?l5 ?c5 ?k5 ?a6 ?l6 ?c6 ?k6 ?a7 ?l7 ?c7 ?k7 ?a8 ?l8 ?c8 ?k8 ?a9 ?l9 ?c9 ?k9 ?a10 ?l10 ?c10 ?k10 ?a11 ?l11 ?c11 ?k11 ?a12 ?l12 ?c12 ?k12 ?a13 ?l13 ?c13 ?k13 ?a14 ?l14 ?c14 ?k14 ?a15 ?l15 ?c15 ?k15 ?z_all ?z_bool ?z_enumerate ?z_int ?z_isinstance ?z_len ?z_list ?z_range ?z_set ?z_sorted ?z_tuple
  (case a1 => k_is)
  (case l1 => k_is)
  (case c1 => k_is)
  (case k1 => k_is)
  (case a2 => k_is)
  (case l2 => k_is)
  (case c2 => k_is)
  (case k2 => k_is)
  (case a3 => k_is)
  (case l3 => k_is)
  (case c3 => k_is)
  (case k3 => k_is)
  (case a4 => k_is)
  (case l4 => k_is)
  (case c4 => k_is)
  (case k4 => k_is)
  (case h4 => kernel_rfl)
  (case a5 => k_is)
  (case l5 => k_is)
  (case c5 => k_is)
  (case k5 => k_is)
  (case a6 => k_is)
  (case l6 => k_is)
  (case c6 => k_is)
  (case k6 => k_is)
  (case a7 => k_is)
  (case l7 => k_is)
  (case c7 => k_is)
  (case k7 => k_is)
  (case a8 => k_is)
  (case l8 => k_is)
  (case c8 => k_is)
  (case k8 => k_is)
  (case a9 => k_is)
  (case l9 => k_is)
  (case c9 => k_is)
  (case k9 => k_is)
  (case a10 => k_is)
  (case l10 => k_is)
  (case c10 => k_is)
  (case k10 => k_is)
  (case a11 => k_is)
  (case l11 => k_is)
  (case c11 => k_is)
  (case k11 => k_is)
  (case a12 => k_is)
  (case l12 => k_is)
  (case c12 => k_is)
  (case k12 => k_is)
  (case a13 => k_is)
  (case l13 => k_is)
  (case c13 => k_is)
  (case k13 => k_is)
  (case a14 => k_is)
  (case l14 => k_is)
  (case c14 => k_is)
  (case k14 => k_is)
  (case a15 => k_is)
  (case l15 => k_is)
  (case c15 => k_is)
  (case k15 => k_is)
  (case z_all => k_is)
  (case z_bool => k_is)
  (case z_enumerate => k_is)
  (case z_int => k_is)
  (case z_isinstance => k_is)
  (case z_len => k_is)
  (case z_list => k_is)
  (case z_range => k_is)
  (case z_set => k_is)
  (case z_sorted => k_is)
  (case z_tuple => k_is)
