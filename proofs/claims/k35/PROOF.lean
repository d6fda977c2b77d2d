import PyProof.Rows.All
import Wide.All
import OpenK.AllK
import Wide.FinOn
import Lean
import PyProof.EqAt
import PyProof.EqKinds
import PyProof.TupleCall
import PyProof.FactsAll.dict
import PyProof.Rows.SeqMore
import PyProof.Rows.StrCase
import PyProof.ToksMono
import PyProof.AutoIntG2
import PyProof.Rows.StrCut
import PyProof.FactsAll.tuple_3
import PyProof.StrOps2
import PyProof.ListMulAny
import PySem.Challenge.RW_besidewords_k35_whole_any_tokens
set_option Elab.async false
set_option linter.all false
set_option maxRecDepth 100000
namespace L2
open PySem PySem.Spec PyProof.Rows
abbrev Key := Sum Int Str
def keyIs : Key -> Value -> Bool
 | .inl k, v => Value.isInt k v
 | .inr x, v => Value.isStrOf x v
def keyH (w : World) : Key -> Int
 | .inl k => hashInt k
 | .inr x => hashStr w x
theorem keyIs_shape : ∀ {k : Key} {v : Value}, keyIs k v = true -> (∃ i t, k = Sum.inl i ∧ v = Value.int i t) ∨ (∃ x t, k = Sum.inr x ∧ v = Value.str x t)
 | .inl i, v, h => by
  obtain ⟨t, e⟩ := Value.isInt_shape (k := i) (v := v) h
  exact .inl ⟨i, t, rfl, e⟩
 | .inr x, v, h => by
  obtain ⟨t, e⟩ := Value.isStrOf_shape (x := x) (v := v) h
  exact .inr ⟨x, t, rfl, e⟩
theorem keyIs_int (i : Int) (t : Tok) : keyIs (.inl i) (.int i t) = true := by simp [keyIs, Value.isInt]
theorem keyIs_str (x : Str) (t : Tok) : keyIs (.inr x) (.str x t) = true := by simp [keyIs, Value.isStrOf]
theorem key_ll (a b : Int) : decide ((Sum.inl a : Key) = Sum.inl b) = (a == b) := by
 by_cases e : a = b
 · subst e; simp
 · have h : ¬ (Sum.inl a : Key) = Sum.inl b := fun q => e (Sum.inl.inj q)
   rw [decide_eq_false h]
   exact (beq_eq_false_iff_ne.mpr e).symm
theorem key_rr (a b : Str) : decide ((Sum.inr a : Key) = Sum.inr b) = decide (a = b) := by
 by_cases e : a = b
 · subst e; simp
 · have h : ¬ (Sum.inr a : Key) = Sum.inr b := fun q => e (Sum.inr.inj q)
   rw [decide_eq_false h, decide_eq_false e]
theorem key_lr (a : Int) (b : Str) : decide ((Sum.inl a : Key) = Sum.inr b) = false := decide_eq_false (fun q => nomatch q)
theorem key_rl (a : Str) (b : Int) : decide ((Sum.inr a : Key) = Sum.inl b) = false := decide_eq_false (fun q => nomatch q)
def mixKind (prog : Program) (w : World) : PySem.KeyKind prog w Key where
 is := keyIs
 hash := keyH w
 inj := fun v a b ha hb => by
  rcases keyIs_shape ha with ⟨i, t, rfl, rfl⟩ | ⟨x, t, rfl, rfl⟩
  · rcases keyIs_shape hb with ⟨j, u, rfl, e⟩ | ⟨y, u, rfl, e⟩
    · injection e with e1 _; rw [e1]
    · exact nomatch e
  · rcases keyIs_shape hb with ⟨j, u, rfl, e⟩ | ⟨y, u, rfl, e⟩
    · exact nomatch e
    · injection e with e1 _; rw [e1]
 byValue := fun k v h => by
  rcases keyIs_shape h with ⟨i, t, rfl, rfl⟩ | ⟨x, t, rfl, rfl⟩ <;> rfl
 pyHash := fun hv h => by
  rcases keyIs_shape hv with ⟨i, t, rfl, rfl⟩ | ⟨x, t, rfl, rfl⟩
  · exact wpAny_pyHash_int h
  · exact wpAny_pyHash_str h
 eqBool := fun hu hv h => by
  rcases keyIs_shape hu with ⟨i, t, rfl, rfl⟩ | ⟨x, t, rfl, rfl⟩
  · rcases keyIs_shape hv with ⟨j, u, rfl, rfl⟩ | ⟨y, u, rfl, rfl⟩
    · rw [key_ll] at h; exact wpAny_eqBool_int h
    · rw [key_lr] at h; exact SeqAt.EqAt.int_str i t y u _ _ _ _ h
  · rcases keyIs_shape hv with ⟨j, u, rfl, rfl⟩ | ⟨y, u, rfl, rfl⟩
    · rw [key_rl] at h; exact SeqAt.EqAt.str_int x t j u _ _ _ _ h
    · rw [key_rr] at h; exact wpAny_eqBool_str h
 «strs» := fun k x t v h => by
  rcases keyIs_shape h with ⟨i, u, rfl, e⟩ | ⟨y, u, rfl, e⟩
  · exact nomatch e
  · injection e with e1 _
    subst e1
    cases v <;> rfl
theorem mixKind_int (prog : Program) (w : World) (i : Int) (t : Tok) : (mixKind prog w).is (.inl i) (.int i t) = true := keyIs_int i t
theorem mixKind_str (prog : Program) (w : World) (x : Str) (t : Tok) : (mixKind prog w).is (.inr x) (.str x t) = true := keyIs_str x t
end L2
namespace L2
open PySem PySem.Spec PyProof.Rows
inductive V where
 | non | bl (b : Bool) | int (i : Int) | str (x : Str) | byt (b : Array UInt8) | flt (b : UInt64) | ref (a : Addr) | ty (n : String)
 deriving DecidableEq
def RelV : V -> Value -> Prop
 | .non, u => u = Value.none
 | .bl b, u => u = Value.bool b
 | .int i, u => ∃ t, u = Value.int i t
 | .str x, u => ∃ t, u = Value.str x t
 | .byt b, u => ∃ t, u = Value.bytes b t
 | .flt b, u => ∃ t, u = Value.float b t
 | .ref a, u => u = Value.ref a
 | .ty n, u => u = Value.type n
abbrev Vals : List V -> List Value -> Prop := Paired RelV
theorem Vals.length {xs : List V} {us : List Value} (r : Vals xs us) : xs.length = us.length := Paired.length r
theorem Vals.get : ∀ {xs : List V} {us : List Value} {i : Nat} {x : V}, Vals xs us -> xs[i]? = some x -> ∃ u, us[i]? = some u ∧ RelV x u
 | _, _, _, _, .nil, e => by simp at e
 | _, _, 0, _, .cons r _, e => by simp at e; subst e; exact ⟨_, rfl, r⟩
 | _, _, i + 1, x, .cons _ t, e => by
  obtain ⟨u, h1, h2⟩ := Vals.get (i := i) (x := x) t (by simpa using e)
  exact ⟨u, by simpa using h1, h2⟩
theorem Vals.append : ∀ {xs ys : List V} {us ws : List Value}, Vals xs us -> Vals ys ws -> Vals (xs ++ ys) (us ++ ws)
 | _, _, _, _, .nil, s => s
 | _, _, _, _, .cons r t, s => .cons r (Vals.append t s)
theorem Vals.take : ∀ {xs : List V} {us : List Value} (n : Nat), Vals xs us -> Vals (xs.take n) (us.take n)
 | _, _, 0, _ => .nil
 | _, _, _ + 1, .nil => .nil
 | _, _, n + 1, .cons r t => .cons r (Vals.take n t)
theorem Vals.drop : ∀ {xs : List V} {us : List Value} (n : Nat), Vals xs us -> Vals (xs.drop n) (us.drop n)
 | _, _, 0, r => r
 | _, _, _ + 1, .nil => .nil
 | _, _, n + 1, .cons _ t => Vals.drop n t
def RelO : Option V -> Option Value -> Prop
 | some v, some u => RelV v u
 | none, none => True
 | _, _ => False
def KV {κ : Type} : List (κ × V) -> List (κ × Value) -> Prop := Paired fun (p : κ × V) (q : κ × Value) => p.1 = q.1 ∧ RelV p.2 q.2
def kV : Key -> V
 | .inl i => .int i
 | .inr x => .str x
inductive HO where
 | lst (xs : List V)
 | tup (xs : List V)
 | dK (kvs : List (Key × V)) | dT (kvs : List (List Key × V))
 | set (S : Int -> Bool) (n : Nat)
 | ins (C dx : Addr) (fs : List (Str × V))
 | own (x : Addr)
 | xd (fs : List (Str × V))
 | met (f x : Addr)
 | rng (lo hi : Int)
 | frz (o : Obj) (u : HO)
 | tbl (ps : Array Value)
 | ext (φ : Heap -> Prop)
abbrev Hp := Addr -> Option HO
def upd (H : Hp) (a : Addr) (o : HO) : Hp := fun b => if b = a then some o else H b
theorem upd_same {H : Hp} {a : Addr} {o : HO} : upd H a o a = some o := by unfold upd; rw [if_pos rfl]
theorem upd_ne {H : Hp} {a b : Addr} {o : HO} (h : b ≠ a) : upd H a o b = H b := by unfold upd; rw [if_neg h]
theorem ne_of {H : Hp} {a b : Addr} {o u : HO} (h : H a = some o) (h' : H b = some u) (d : o ≠ u) : a ≠ b := by
 intro e; subst e; rw [h] at h'; exact d (Option.some.inj h')
theorem ne_of_none {H : Hp} {a b : Addr} {o : HO} (h : H a = some o) (h' : H b = none) : a ≠ b := by
 intro e; subst e; rw [h] at h'; cases h'
section
variable (P : Program) (w : World)
def ObjOk (H : Hp) (h : Heap) (a : Addr) : HO -> Prop
 | .lst xs => xs.length <= sizeLine ∧ ∃ (its : List Value) (n : Nat), Vals xs its ∧ h.get? a = some { cls := .type "list", data := .seq its.toArray n }
 | .tup xs => xs.length <= sizeLine ∧ ∃ its : List Value, Vals xs its ∧ IsTup h a its.toArray
 | .dK kvs => kvs.length <= sizeLine ∧ (a == sysModules) = false ∧ ∃ vs, KV kvs vs ∧ h.DictOf (mixKind P w) a vs
 | .dT kvs => kvs.length <= sizeLine ∧ (a == sysModules) = false ∧ ∃ xs : List (List Key × Addr × Value),
  Paired (fun (p : List Key × V) (q : List Key × Addr × Value) => p.1 = q.1 ∧ H q.2.1 = some (.tup (p.1.map kV)) ∧ RelV p.2 q.2.2) kvs xs ∧
  ∃ o es ep, h.get? a = some o ∧ o.ExactDict ∧ o.data = .dict es ep ∧ es.toList = xs.map (entryOfKey (tupleKind (mixKind P w))) ∧ (xs.map (·.1)).Nodup
 | .set S n => h.SetOf (intKind P w) a S n
 | .ins C dx fs => H dx = some (.own a) ∧ fs.length <= 1000 ∧ dx ≠ a ∧ h.get? a = some (PySem.W.instObj C dx) ∧
  ∃ mA, h.Ns1 dx mA ∧ (∀ f, RelO (fs.lookup f) (mA f)) ∧ PySem.Within mA (fs.map (·.1))
 | .own _ => ∃ o, h.get? a = some o
 | .xd fs => ∃ mA, h.Ns1 a mA ∧ ∀ f, RelO (fs.lookup f) (mA f)
 | .rng lo hi => ∃ t u v, h.get? a = some { cls := .type "range", data := .fields #[.int lo t, .int hi u, .int 1 v] }
 | .frz o u => h.get? a = some o ∧ ObjOk H h a u
 | .tbl ps => h.get? a = some { cls := .none, data := .fields ps }
 | .met f x => h.get? a = some (PySem.W.methodObj (.ref f) (.ref x))
 | .ext φ => φ h ∧ (∃ o, h.get? a = some o) ∧ ∀ h1 h2 : Heap, φ h1 -> (∀ o, h1.get? a = some o -> h2.get? a = some o) -> φ h2
def HOk (H : Hp) (h : Heap) : Prop := ∀ a o, H a = some o -> ObjOk P w H h a o
end
section
variable {P : Program} {w : World} {H H' : Hp} {h h' : Heap} {a : Addr} {o : HO}
theorem ObjOk.lt (x : ObjOk P w H h a o) : a < h.objs.size := by
 cases o with
 | lst xs => obtain ⟨_, _, _, _, e⟩ := x; exact Heap.lt_size e
 | tup xs => obtain ⟨_, _, _, p⟩ := x; exact p.lt
 | dK kvs => obtain ⟨_, _, _, _, o, _, _, e, _⟩ := x; exact Heap.lt_size e
 | dT kvs => obtain ⟨_, _, _, _, o, _, _, e, _⟩ := x; exact Heap.lt_size e
 | set S n => obtain ⟨o, _, _, _, e, _⟩ := x; exact Heap.lt_size e
 | ins C dx fs => obtain ⟨_, _, _, e, _⟩ := x; exact Heap.lt_size e
 | own y => obtain ⟨_, e⟩ := x; exact Heap.lt_size e
 | xd fs => obtain ⟨_, ⟨_, _, _, e, _⟩, _⟩ := x; exact Heap.lt_size e
 | rng lo hi => obtain ⟨_, _, _, e⟩ := x; exact Heap.lt_size e
 | frz ob u => obtain ⟨e, _⟩ := x; exact Heap.lt_size e
 | tbl ps => exact Heap.lt_size (show h.get? a = some _ from x)
 | met f y => exact Heap.lt_size (show h.get? a = some _ from x)
 | ext φ => obtain ⟨_, ⟨_, e⟩, _⟩ := x; exact Heap.lt_size e
theorem Paired.mapP {α β : Type} {F G : α -> β -> Prop} : ∀ {l₁ : List α} {l₂ : List β}, Paired F l₁ l₂ -> (∀ a b, F a b -> G a b) -> Paired G l₁ l₂
 | _, _, .nil, _ => .nil
 | _, _, .cons r t, f => .cons (f _ _ r) (Paired.mapP t f)
theorem ObjOk.stay (x : ObjOk P w H h a o) (k : ∀ b u, (b = a ∨ H b = some (.own a)) -> h.get? b = some u -> h'.get? b = some u)
 (ho : ∀ b, H b = some (.own a) -> H' b = some (.own a)) (ht : ∀ b xs, H b = some (.tup xs) -> H' b = some (.tup xs)) : ObjOk P w H' h' a o := by
 induction o with
 | lst xs => obtain ⟨z, its, n, r, e⟩ := x; exact ⟨z, its, n, r, k _ _ (.inl rfl) e⟩
 | tup xs => obtain ⟨z, its, r, ob, e, c⟩ := x; exact ⟨z, its, r, ob, k _ _ (.inl rfl) e, c⟩
 | dK kvs => obtain ⟨z, y, vs, r, ob, es, ep, e, c⟩ := x; exact ⟨z, y, vs, r, ob, es, ep, k _ _ (.inl rfl) e, c⟩
 | dT kvs =>
  obtain ⟨z, y, xs, r, ob, es, ep, e, c⟩ := x
  exact ⟨z, y, xs, Paired.mapP r fun p q z => ⟨z.1, ht _ _ z.2.1, z.2.2⟩, ob, es, ep, k _ _ (.inl rfl) e, c⟩
 | set S n => obtain ⟨ob, es, ep, t, e, c⟩ := x; exact ⟨ob, es, ep, t, k _ _ (.inl rfl) e, c⟩
 | ins C dx fs =>
  obtain ⟨d, z, ne, e, mA, ⟨od, es, ep, e2, c⟩, r⟩ := x
  exact ⟨ho _ d, z, ne, k _ _ (.inl rfl) e, mA, ⟨od, es, ep, k _ _ (.inr d) e2, c⟩, r⟩
 | own y => obtain ⟨ob, e⟩ := x; exact ⟨ob, k _ _ (.inl rfl) e⟩
 | xd fs => obtain ⟨mA, ⟨od, es, ep, e, c⟩, r⟩ := x; exact ⟨mA, ⟨od, es, ep, k _ _ (.inl rfl) e, c⟩, r⟩
 | rng lo hi => obtain ⟨t, u, v, e⟩ := x; exact ⟨t, u, v, k _ _ (.inl rfl) e⟩
 | frz ob u ih => obtain ⟨e, q⟩ := x; exact ⟨k _ _ (.inl rfl) e, ih q⟩
 | tbl ps =>
  have e : h.get? a = some { cls := .none, data := .fields ps } := x
  show h'.get? a = some { cls := .none, data := .fields ps }
  exact k a _ (.inl rfl) e
 | met f y =>
  have e : h.get? a = some (PySem.W.methodObj (.ref f) (.ref y)) := x
  show h'.get? a = some (PySem.W.methodObj (.ref f) (.ref y))
  exact k a _ (.inl rfl) e
 | ext φ => obtain ⟨p, ⟨o, e⟩, st⟩ := x; exact ⟨st _ _ p fun o q => k _ _ (.inl rfl) q, ⟨o, k _ _ (.inl rfl) e⟩, st⟩
theorem HOk.lt (x : HOk P w H h) (e : H a = some o) : a < h.objs.size := (x a o e).lt
theorem HOk.fresh (x : HOk P w H h) (e : h.objs.size <= a) : H a = none := by
 cases q : H a with
 | none => rfl
 | some u => exact absurd (Nat.lt_of_lt_of_le (x.lt q) e) (Nat.lt_irrefl _)
theorem HOk.kept (x : HOk P w H h) (k : ∀ b u, h.get? b = some u -> h'.get? b = some u) : HOk P w H h' := fun a o e =>
 (x a o e).stay (fun b u _ q => k b u q) (fun _ q => q) fun _ _ q => q
theorem HOk.laid (x : HOk P w H h) (k : ∀ b u, h.get? b = some u -> h'.get? b = some u) (hp : h.objs.size <= a) (new : ObjOk P w (upd H a o) h' a o) : HOk P w (upd H a o) h' := fun b u e => by
 have hn := x.fresh hp
 by_cases hb : b = a
 · subst hb; rw [upd_same] at e; cases e; exact new
 · rw [upd_ne hb] at e
   exact (x b u e).stay (fun c v _ q => k c v q) (fun c q => by rw [upd_ne (ne_of_none q hn)]; exact q) fun c xs q => by rw [upd_ne (ne_of_none q hn)]; exact q
end
def Rd (H : Hp) (a : Addr) (u : HO) : Prop := H a = some u ∨ ∃ o, H a = some (.frz o u)
theorem Rd.ok {P : Program} {w : World} {H : Hp} {h : Heap} {a : Addr} {u : HO} (r : Rd H a u) (x : HOk P w H h) : ObjOk P w H h a u := by
 rcases r with r | ⟨o, r⟩
 · exact x a u r
 · obtain ⟨_, q⟩ := x a _ r
   exact q
def Mut : Option HO -> Prop
 | some (.lst _) => True
 | some (.dK _) => True
 | some (.dT _) => True
 | some (.set _ _) => True
 | some (.ins _ _ _) => True
 | some (.ext _) => True
 | _ => False
section
variable {P : Program} {w : World} {H : Hp} {h h' : Heap} {x e : Addr} {o' : HO}
theorem HOk.write (ok : HOk P w H h) (mu : Mut (H x)) (he : e = x ∨ H e = some (.own x)) (k : ∀ b u, b ≠ e -> h.get? b = some u -> h'.get? b = some u) (heo : ∃ u, h'.get? e = some u)
 (new : ObjOk P w (upd H x o') h' x o') : HOk P w (upd H x o') h' := fun b u q => by
 have nown : ∀ c y, H c = some (.own y) -> c ≠ x := fun c y r z => by subst z; rw [r] at mu; exact mu
 have ntup : ∀ c xs, H c = some (.tup xs) -> c ≠ x := fun c xs r z => by subst z; rw [r] at mu; exact mu
 by_cases hb : b = x
 · subst hb; rw [upd_same] at q; cases q; exact new
 · rw [upd_ne hb] at q
   by_cases hbe : b = e
   · have q' : H b = some (.own x) := by
      rcases he with z | z
      · exact absurd (hbe.trans z) hb
      · rw [hbe]; exact z
     rw [q] at q'; cases q'
     obtain ⟨v, hv⟩ := heo
     exact ⟨v, by rw [hbe]; exact hv⟩
   · refine (ok b u q).stay (fun c v hc r => k c v ?_ r) (fun c r => by rw [upd_ne (nown c b r)]; exact r) fun c xs r => by rw [upd_ne (ntup c xs r)]; exact r
     rcases hc with rfl | hc
     · exact hbe
     · rintro rfl
       rcases he with z | z
       · exact nown c b hc z
       · rw [hc] at z; cases z; exact hb rfl
end
structure Un (fs ex : List Addr) (H H' : Hp) (h h' : Heap) : Prop where
 keep : ∀ b o, h.get? b = some o -> H b = none -> b ∉ fs -> b ∉ ex -> h'.get? b = some o
 slot : ∀ b o, h.get? b = some o -> H b = none -> b ∈ fs -> b ∉ ex -> ∃ sl, h'.get? b = some { o with slots := sl }
 free : ∀ b o, h.get? b = some o -> H b = none -> b ∉ ex -> H' b = none
 there : ∀ b o, h.get? b = some o -> b ∉ ex -> ∃ o', h'.get? b = some o'
 tups : ∀ b xs, H b = some (.tup xs) -> H' b = some (.tup xs)
 frzs : ∀ b o u, H b = some (.frz o u) -> H' b = some (.frz o u)
 tbls : ∀ b ps, H b = some (.tbl ps) -> ∃ more, H' b = some (.tbl (ps ++ more))
section
variable {fs fs' ex ex' : List Addr} {H H1 H2 : Hp} {h h1 h2 h' : Heap} {a x e : Addr} {o : HO}
theorem Un.any (u : Un fs ex H H1 h h1) {b : Addr} {ob : Obj} (q : h.get? b = some ob) (n : H b = none) (hx : b ∉ ex) : ∃ sl, h1.get? b = some { ob with slots := sl } := by
 by_cases hb : b ∈ fs
 · exact u.slot b ob q n hb hx
 · exact ⟨ob.slots, u.keep b ob q n hb hx⟩
theorem Un.kept (k : ∀ b u, h.get? b = some u -> h'.get? b = some u) : Un fs ex H H h h' :=
 ⟨fun b ob q _ _ _ => k b ob q, fun b ob q _ _ _ => ⟨ob.slots, k b ob q⟩, fun _ _ _ n _ => n, fun b ob q _ => ⟨ob, k b ob q⟩, fun _ _ q => q, fun _ _ _ q => q, fun _ ps q => ⟨#[], by rw [q]; simp⟩⟩
theorem Un.refl : Un fs ex H H h h := Un.kept fun _ _ q => q
theorem Un.laid (k : ∀ b u, h.get? b = some u -> h'.get? b = some u) (hp : h.objs.size <= a) (hn : H a = none) : Un fs ex H (upd H a o) h h' where
 keep := fun b u q _ _ _ => k b u q
 slot := fun b u q _ _ _ => ⟨u.slots, k b u q⟩
 free := fun b u q n _ => by rw [upd_ne (Nat.ne_of_lt (Nat.lt_of_lt_of_le (Heap.lt_size q) hp))]; exact n
 there := fun b u q _ => ⟨u, k b u q⟩
 tups := fun b xs q => by rw [upd_ne (ne_of_none q hn)]; exact q
 frzs := fun b u xs q => by rw [upd_ne (ne_of_none q hn)]; exact q
 tbls := fun b ps q => ⟨#[], by rw [upd_ne (ne_of_none q hn), q]; simp⟩
theorem Un.write (mu : Mut (H x)) (he : e = x ∨ H e = some (.own x)) (k : ∀ b u, b ≠ e -> h.get? b = some u -> h'.get? b = some u) (heo : ∃ u, h'.get? e = some u) : Un fs ex H (upd H x o) h h' := by
 have hx : ∀ b, H b = none -> b ≠ x := fun b n z => by subst z; rw [n] at mu; exact mu
 have hb : ∀ b, H b = none -> b ≠ e := fun b n z => by
  subst z
  rcases he with r | r
  · exact hx b n r
  · rw [n] at r; cases r
 have hm : ∀ b u, H b = some u -> ¬ Mut (some u) -> b ≠ x := fun b u q nm z => by subst z; rw [q] at mu; exact nm mu
 refine ⟨fun b u q n _ _ => k b u (hb b n) q, fun b u q n _ _ => ⟨u.slots, k b u (hb b n) q⟩, fun b u q n _ => by rw [upd_ne (hx b n)]; exact n, fun b u q _ => ?_,
  fun b xs q => by rw [upd_ne (hm b _ q fun z => z)]; exact q, fun b u xs q => by rw [upd_ne (hm b _ q fun z => z)]; exact q, fun b ps q => ⟨#[], by rw [upd_ne (hm b _ q fun z => z), q]; simp⟩⟩
 by_cases hbe : b = e
 · subst hbe; exact heo
 · exact ⟨u, k b u hbe q⟩
end
def trk (h : Heap) (H : Hp) : List Addr := (List.range h.objs.size).filter fun a => (H a).isSome
def hidT (h : Heap) (H : Hp) : Heap := PySem.W.hideAll h (trk h H)
theorem hidT_size (h : Heap) (H : Hp) : (hidT h H).objs.size = h.objs.size := PySem.W.hideAll_size _ _
theorem hidT_get {h : Heap} {H : Hp} {b : Addr} {o : Obj} (e : h.get? b = some o) (n : H b = none) : (hidT h H).get? b = some o :=
 PySem.W.hideAll_get _ e fun hm => by
  have q : (H b).isSome = true := (List.mem_filter.mp hm).2
  rw [n] at q; simp at q
theorem of_hidT {h : Heap} {H : Hp} {b : Addr} {o : Obj} (e : (hidT h H).get? b = some o) : h.get? b = some o ∧ H b = none := by
 have e' : h.get? b = some o := PySem.W.of_hideAll (trk h H) e
 refine ⟨e', ?_⟩
 cases q : H b with
 | none => rfl
 | some x =>
  have hm : b ∈ trk h H := List.mem_filter.mpr ⟨List.mem_range.mpr (Heap.lt_size e'), by simp [q]⟩
  have z : (hidT h H).get? b = none := PySem.W.hideAll_none (trk h H) hm
  rw [z] at e; cases e
def allNews (g h : Heap) (L : Addr) : List (Addr × Obj) := (List.range h.objs.size).filterMap fun a => if a = L ∨ (g.get? a).isSome = true then none else (h.get? a).map fun o => (a, o)
def rest (g h : Heap) (L d : Addr) : List (Addr × Obj) := (allNews g h L).filter fun p => decide (p.1 ≠ d)
end L2
namespace L2
open PySem PySem.Spec PyProof.Rows
structure Mod (K : PySem.W.Frag) (mg : Str -> Option Value) (base : Heap) : Prop where
 kin : K.In base
 glob : base.Ns mainGlobals mg
 blt : ∃ mb, base.Ns builtinsNs mb ∧ ∀ x : Str, x ≠ "__name__" -> mb x = bootBuiltins x
 nolimit : base.NoLimit
structure Cx where
 prog : Program
 w : World
 K : PySem.W.Frag
 mg : Str -> Option Value
 base : Heap
 A : Around
 N : List Str
 s₀ : Shared
 H₀ : Hp
 env : Env
 outer : List Env
 stack : List Env
 ex : List Addr
 fn : Str -> Bool
 calm : Bool
 pn : List (Addr × Obj)
 xe : Value -> Shared -> Prop
def frs (l : List Env) : List Addr := l.filterMap (·.frame)
abbrev Cx.fs (X : Cx) : List Addr := frs X.outer
def Vis (sc : Scope) (x : Str) : Prop := sc.names.lookup x = some .local ∨ sc.names.lookup x = some .cell ∨ sc.names.lookup x = some .free
def Loc (sc : Scope) (x : Str) : Prop := sc.names.lookup x = some .local ∨ sc.names.lookup x = some .cell
def Look (env : Env) (h : Heap) (m : Str -> Option Value) (x : Str) (u : Value) : Prop :=
 (env.kindOf x = some .local ∧ m x = some u) ∨ ((env.kindOf x = some .cell ∨ env.kindOf x = some .free) ∧ ∃ c, env.cells.lookup x = some c ∧ h.IsCell c (some u))
structure Cx.Ok (X : Cx) : Prop where
 mod : Mod X.K X.mg X.base
 kind : X.env.scope.kind = .function
 glob : X.env.globals = mainGlobals
 blt : X.env.builtins = builtinsNs
 above : X.s₀.heap.objs.size <= X.env.locals
 inj : ∀ x y c, X.env.cells.lookup x = some c -> X.env.cells.lookup y = some c -> x = y
 has : ∀ x, (X.env.kindOf x = some .cell ∨ X.env.kindOf x = some .free) -> ∃ c, X.env.cells.lookup x = some c
 cab : ∀ x c, X.fn x = true -> X.env.cells.lookup x = some c -> X.s₀.heap.objs.size <= c
 hd : X.calm = true -> X.A.handled = none
 frames : X.A.frames = some X.stack
 stk : X.stack = X.outer ∨ (X.stack = X.env :: X.outer ∧ X.env.frame = some X.env.locals)
 exf : ∀ b ∈ X.ex, b ≠ X.env.locals ∧ ∀ x c, X.env.cells.lookup x = some c -> c ≠ b
 bs : ∀ b o, X.base.get? b = some o -> X.s₀.heap.get? b = some o ∧ X.H₀ b = none
 bsz : X.base.objs.size <= X.s₀.heap.objs.size
 noex : ∀ b o, X.base.get? b = some o -> b ∉ X.ex
 exfs : ∀ b ∈ X.ex, b ∉ X.fs
 funs : X.s₀.heap.FunFrames X.base X.outer
 frf : ∀ b ∈ X.fs, X.H₀ b = none
structure Inv (X : Cx) (pins : List (Addr × Obj)) (σ : List (Option V)) (H : Hp) (s : Shared) : Prop where
 ok : X.Ok
 os : s.os = X.s₀.os
 bare : AllBare s.gens
 base : Un X.fs X.ex X.H₀ H X.s₀.heap s.heap
 loc : ∃ m, s.heap.Ns X.env.locals m ∧ ∀ (i : Nat) (x : Str) (v : V), X.N[i]? = some x -> σ[i]? = some (some v) -> Vis X.env.scope x -> ∃ u, RelV v u ∧ Look X.env s.heap m x u
 cell : ∀ x c, X.env.cells.lookup x = some c -> ∃ v, s.heap.IsCell c v
 free : H X.env.locals = none
 freeC : ∀ x c, X.env.cells.lookup x = some c -> H c = none
 pin : ∀ p ∈ X.pn ++ pins, s.heap.get? p.1 = some p.2 ∧ H p.1 = none ∧ p.1 ≠ X.env.locals ∧ p.1 ∉ X.fs ∧ ∀ v, p.2.data ≠ .cell v
 hok : HOk X.prog X.w H s.heap
 len : σ.length = X.N.length
section
variable {X : Cx} {pins : List (Addr × Obj)} {σ : List (Option V)} {H H' : Hp} {s : Shared} {h' : Heap}
theorem Cx.Ok.nofr (ok : X.Ok) {b : Addr} {o : Obj} (e : X.base.get? b = some o) : b ∉ X.fs := fun hb => by
 have := (ok.funs.mem hb).1
 rw [e] at this; cases this
theorem Inv.bs (I : Inv X pins σ H s) : ∀ b o, X.base.get? b = some o -> s.heap.get? b = some o ∧ H b = none := fun b o e =>
 ⟨I.base.keep b o (I.ok.bs b o e).1 (I.ok.bs b o e).2 (I.ok.nofr e) (I.ok.noex b o e), I.base.free b o (I.ok.bs b o e).1 (I.ok.bs b o e).2 (I.ok.noex b o e)⟩
theorem Inv.bk (I : Inv X pins σ H s) : ∀ b o, X.base.get? b = some o -> s.heap.get? b = some o := fun b o e => (I.bs b o e).1
theorem Inv.mod (I : Inv X pins σ H s) : Mod X.K X.mg X.base := I.ok.mod
theorem Inv.kIn (I : Inv X pins σ H s) : X.K.In s.heap := I.ok.mod.kin.keeps I.bk
theorem Inv.lt (I : Inv X pins σ H s) : X.env.locals < s.heap.objs.size := let ⟨_, hn, _⟩ := I.loc; hn.lt
theorem Inv.sz (I : Inv X pins σ H s) : X.s₀.heap.objs.size <= s.heap.objs.size := Nat.le_trans I.ok.above (Nat.le_of_lt I.lt)
theorem Inv.nofs (I : Inv X pins σ H s) {a : Addr} (h : s.heap.objs.size <= a) : a ∉ X.fs := fun hb => by
 obtain ⟨_, o, ho, _⟩ := I.ok.funs.mem hb
 exact absurd (Nat.lt_of_lt_of_le (Heap.lt_size ho) (Nat.le_trans I.sz h)) (Nat.lt_irrefl _)
theorem Inv.cne (I : Inv X pins σ H s) : ∀ x c, X.env.cells.lookup x = some c -> c ≠ X.env.locals := fun x c e z => by
 obtain ⟨v, o, ho, hd⟩ := I.cell x c e
 obtain ⟨m, ⟨o', es, ep, ho', hd', _⟩, _⟩ := I.loc
 rw [z, ho'] at ho; cases ho; rw [hd'] at hd; cases hd
theorem Inv.funs (I : Inv X pins σ H s) : s.heap.FunFrames X.base X.outer := by
 have all : ∀ (l : List Env), (∀ b ∈ frs l, b ∈ X.fs) -> X.s₀.heap.FunFrames X.base l -> s.heap.FunFrames X.base l := by
  intro l
  induction l with
  | nil => intro _ _; trivial
  | cons env r ih =>
   intro hs hl
   obtain ⟨hk, ⟨L, o, hf, hn, ho, hd⟩, hr⟩ := hl
   have hL : L ∈ X.fs := hs L (by unfold frs; rw [List.filterMap_cons, hf]; exact List.mem_cons_self)
   obtain ⟨sl, e⟩ := I.base.slot L o ho (I.ok.frf L hL) hL fun z => I.ok.exfs L z hL
   exact ⟨hk, ⟨L, _, hf, hn, e, hd⟩, ih (fun b hb => hs b (by unfold frs; rw [List.filterMap_cons, hf]; exact List.mem_cons_of_mem _ hb)) hr⟩
 exact all X.outer (fun _ hb => hb) I.ok.funs
theorem Inv.stack (I : Inv X pins σ H s) : s.heap.FunFrames X.base X.stack := by
 rcases I.ok.stk with e | ⟨e, hf⟩
 · rw [e]; exact I.funs
 · rw [e]
   obtain ⟨m, hn, _⟩ := I.loc
   refine .cons (by rw [I.ok.kind]; decide) hf hn ?_ I.funs
   exact Heap.get?_none_of_le (Nat.le_trans I.ok.bsz I.ok.above)
theorem Inv.stkSub (I : Inv X pins σ H s) : ∀ b ∈ frs X.stack, b ∈ X.env.locals :: X.fs := fun b hb => by
 rcases I.ok.stk with e | ⟨e, hf⟩
 · rw [e] at hb; exact List.mem_cons_of_mem _ hb
 · rw [e] at hb
   unfold frs at hb
   rw [List.filterMap_cons, hf] at hb
   exact hb
theorem Inv.stkFree (I : Inv X pins σ H s) : ∀ b ∈ frs X.stack, H b = none := fun b hb => by
 rcases List.mem_cons.mp (I.stkSub b hb) with e | hb
 · rw [e]; exact I.free
 · obtain ⟨_, o, ho, _⟩ := I.ok.funs.mem hb
   exact I.base.free b o ho (I.ok.frf b hb) fun z => I.ok.exfs b z hb
theorem Inv.step {g' : Array GenState} {t' : Nat} {d' : Drawn} {ch : List Addr} (I : Inv X pins σ H s)
 (hch : ∀ b ∈ ch, (b ∈ X.ex ∨ X.s₀.heap.objs.size <= b) ∧ b ≠ X.env.locals ∧ (∀ x c, X.env.cells.lookup x = some c -> c ≠ b) ∧ ∀ p ∈ X.pn ++ pins, p.1 ≠ b)
 (keep : ∀ b o, b ≠ X.env.locals -> b ∉ X.fs -> b ∉ ch -> s.heap.get? b = some o -> H b = none -> h'.get? b = some o)
 (slot : ∀ b o, b ≠ X.env.locals -> b ∈ X.fs -> b ∉ ch -> s.heap.get? b = some o -> H b = none -> ∃ sl, h'.get? b = some { o with slots := sl }) (free : ∀ b o, b ∉ ch -> s.heap.get? b = some o -> H b = none -> H' b = none)
 (there : ∀ b o, b ∉ ch -> s.heap.get? b = some o -> ∃ o', h'.get? b = some o')
 (tups : ∀ b xs, H b = some (.tup xs) -> H' b = some (.tup xs)) (frzs : ∀ b o u, H b = some (.frz o u) -> H' b = some (.frz o u)) (tbls : ∀ b ps, H b = some (.tbl ps) -> ∃ more, H' b = some (.tbl (ps ++ more)))
 (ns : ∀ m, s.heap.Ns X.env.locals m -> h'.Ns X.env.locals m) (hok : HOk X.prog X.w H' h') (hg : AllBare g') :
 Inv X pins σ H' { s with heap := h', gens := g', drawn := d', toks := t' } := by
 have neL : ∀ b o, X.s₀.heap.get? b = some o -> b ≠ X.env.locals := fun b o e => Nat.ne_of_lt (Nat.lt_of_lt_of_le (Heap.lt_size e) I.ok.above)
 have neC : ∀ b o, X.s₀.heap.get? b = some o -> b ∉ X.ex -> b ∉ ch := fun b o e hx hb => by
  rcases (hch b hb).1 with z | z
  · exact hx z
  · exact absurd (Nat.lt_of_lt_of_le (Heap.lt_size e) z) (Nat.lt_irrefl _)
 have cellK : ∀ x c, X.env.cells.lookup x = some c -> ∀ v, s.heap.IsCell c v -> h'.IsCell c v := fun x c e v ⟨o, ho, hd⟩ => by
  have nch : c ∉ ch := fun z => (hch c z).2.2.1 x c e rfl
  by_cases hc : c ∈ X.fs
  · obtain ⟨sl, q⟩ := slot c o (I.cne x c e) hc nch ho (I.freeC x c e)
    exact ⟨_, q, hd⟩
  · exact ⟨o, keep c o (I.cne x c e) hc nch ho (I.freeC x c e), hd⟩
 refine ⟨I.ok, I.os, hg, ⟨fun b o e n hb hx => ?_, fun b o e n hb hx => ?_, fun b o e n hx => ?_, fun b o e hx => ?_, fun b xs e => tups b xs (I.base.tups b xs e), fun b o xs e => frzs b o xs (I.base.frzs b o xs e), fun b ps e => ?_⟩, ?_, fun x c e => ?_, ?_, fun x c e => ?_, fun p hp => ?_, hok, I.len⟩
 · exact keep b o (neL b o e) hb (neC b o e hx) (I.base.keep b o e n hb hx) (I.base.free b o e n hx)
 · obtain ⟨sl, e1⟩ := I.base.slot b o e n hb hx
   obtain ⟨sl', e2⟩ := slot b _ (neL b o e) hb (neC b o e hx) e1 (I.base.free b o e n hx)
   exact ⟨sl', e2⟩
 · obtain ⟨o', e1⟩ := I.base.there b o e hx
   exact free b o' (neC b o e hx) e1 (I.base.free b o e n hx)
 · obtain ⟨o', e1⟩ := I.base.there b o e hx
   exact there b o' (neC b o e hx) e1
 · obtain ⟨m1, e1⟩ := I.base.tbls b ps e
   obtain ⟨m2, e2⟩ := tbls b _ e1
   exact ⟨m1 ++ m2, by rw [e2, Array.append_assoc]⟩
 · obtain ⟨m, hn, hl⟩ := I.loc
   refine ⟨m, ns m hn, fun i x v e1 e2 e3 => ?_⟩
   obtain ⟨u, r, l⟩ := hl i x v e1 e2 e3
   refine ⟨u, r, ?_⟩
   rcases l with l | ⟨k, c, e, z⟩
   · exact .inl l
   · exact .inr ⟨k, c, e, cellK x c e _ z⟩
 · obtain ⟨v, z⟩ := I.cell x c e
   exact ⟨v, cellK x c e v z⟩
 · obtain ⟨m, ⟨o, _, _, ho, _⟩, _⟩ := I.loc
   exact free _ o (fun z => (hch _ z).2.1 rfl) ho I.free
 · obtain ⟨v, o, ho, hd⟩ := I.cell x c e
   exact free c o (fun z => (hch c z).2.2.1 x c e rfl) ho (I.freeC x c e)
 · obtain ⟨e, n, ne, nf, d⟩ := I.pin p hp
   have nch : p.1 ∉ ch := fun z => (hch p.1 z).2.2.2 p hp rfl
   exact ⟨keep p.1 p.2 ne nf nch e n, free p.1 p.2 nch e n, ne, nf, d⟩
theorem Inv.un {t' : Nat} (I : Inv X pins σ H s) (u : Un X.fs [] H H' s.heap h') (hok : HOk X.prog X.w H' h') : Inv X pins σ H' { s with heap := h', toks := t' } := by
 obtain ⟨m, ⟨o, es, ep, ho, r⟩, _⟩ := id I.loc
 obtain ⟨sl, hL⟩ := u.any ho I.free (by simp)
 exact I.step (g' := s.gens) (d' := s.drawn) (ch := []) (fun _ z => nomatch z) (fun b o _ hb _ e n => u.keep b o e n hb (by simp)) (fun b o _ hb _ e n => u.slot b o e n hb (by simp)) (fun b o _ e n => u.free b o e n (by simp)) (fun b o _ e => u.there b o e (by simp)) u.tups u.frzs u.tbls (fun m' hm => by
  obtain ⟨o', es', ep', ho', r'⟩ := hm
  rw [ho] at ho'; cases ho'
  exact ⟨_, es', ep', hL, r'⟩) hok I.bare
theorem Inv.call {g' : Array GenState} {t' : Nat} {d' : Drawn} {ch : List Addr} (I : Inv X pins σ H s) (u : Un (frs X.stack) ch H H' s.heap h') (hok : HOk X.prog X.w H' h') (hg : AllBare g')
 (hch : ∀ b ∈ ch, (b ∈ X.ex ∨ X.s₀.heap.objs.size <= b) ∧ b ≠ X.env.locals ∧ (∀ x c, X.env.cells.lookup x = some c -> c ≠ b) ∧ ∀ p ∈ X.pn ++ pins, p.1 ≠ b) :
 Inv X pins σ H' { s with heap := h', gens := g', drawn := d', toks := t' } := by
 obtain ⟨m, ⟨o, es, ep, ho, r⟩, _⟩ := id I.loc
 obtain ⟨sl, hL⟩ := u.any ho I.free fun z => (hch _ z).2.1 rfl
 exact I.step (ch := ch) hch (fun b o hL hb hc e n => u.keep b o e n (fun z => (List.mem_cons.mp (I.stkSub b z)).elim hL hb) hc) (fun b o _ _ hc e n => u.any e n hc) (fun b o hc e n => u.free b o e n hc) (fun b o hc e => u.there b o e hc) u.tups u.frzs u.tbls (fun m' hm => by
  obtain ⟨o', es', ep', ho', r'⟩ := hm
  rw [ho] at ho'; cases ho'
  exact ⟨_, es', ep', hL, r'⟩) hok hg
theorem Inv.turned {t' : Nat} {it : Addr} (I : Inv X pins σ H s) (k : ∀ b o, b ≠ it -> s.heap.get? b = some o -> h'.get? b = some o) (hn : H it = none) (hL : it ≠ X.env.locals)
 (h1 : it ∈ X.ex ∨ X.s₀.heap.objs.size <= it) (h2 : ∀ x c, X.env.cells.lookup x = some c -> c ≠ it) (h3 : ∀ p ∈ X.pn ++ pins, p.1 ≠ it) : Inv X pins σ H { s with heap := h', toks := t' } := by
 have nit : ∀ b u, H b = some u -> b ≠ it := fun b u e z => by rw [z, hn] at e; cases e
 refine I.step (g' := s.gens) (d' := s.drawn) (ch := [it]) (fun b hb => ?_) (fun b o _ _ hc e _ => k b o (fun z => hc (by simp [z])) e) (fun b o _ _ hc e _ => ⟨o.slots, k b o (fun z => hc (by simp [z])) e⟩) (fun _ _ _ _ n => n)
  (fun b o hc e => ⟨o, k b o (fun z => hc (by simp [z])) e⟩) (fun _ _ e => e) (fun _ _ _ e => e) (fun b ps e => ⟨#[], by rw [e]; simp⟩) (fun m hm => ?_) (fun b u e => ?_) I.bare
 · have e : b = it := by simpa using hb
   subst e
   exact ⟨h1, hL, h2, h3⟩
 · obtain ⟨o, es, ep, ho, r⟩ := hm
   exact ⟨o, es, ep, k _ o (Ne.symm hL) ho, r⟩
 · refine (I.hok b u e).stay (fun c v hc q => k c v ?_ q) (fun _ q => q) fun _ _ q => q
   rcases hc with z | z
   · rw [z]; exact nit b u e
   · exact nit c _ z
theorem Inv.tok (I : Inv X pins σ H s) (t : Nat) : Inv X pins σ H { s with toks := t } := I.un (h' := s.heap) (t' := t) Un.refl I.hok
theorem Inv.kept {t' : Nat} (I : Inv X pins σ H s) (k : ∀ b u, s.heap.get? b = some u -> h'.get? b = some u) : Inv X pins σ H { s with heap := h', toks := t' } := I.un (Un.kept k) (I.hok.kept k)
theorem Inv.laid {a : Addr} {o : HO} {t' : Nat} (I : Inv X pins σ H s) (k : ∀ b u, s.heap.get? b = some u -> h'.get? b = some u) (hp : s.heap.objs.size <= a) (new : ObjOk X.prog X.w (upd H a o) h' a o) :
 Inv X pins σ (upd H a o) { s with heap := h', toks := t' } := I.un (Un.laid k hp (I.hok.fresh hp)) (I.hok.laid k hp new)
theorem Inv.write {x e : Addr} {o : HO} {t' : Nat} (I : Inv X pins σ H s) (mu : Mut (H x)) (he : e = x ∨ H e = some (.own x)) (k : ∀ b u, b ≠ e -> s.heap.get? b = some u -> h'.get? b = some u) (heo : ∃ u, h'.get? e = some u)
 (new : ObjOk X.prog X.w (upd H x o) h' x o) : Inv X pins σ (upd H x o) { s with heap := h', toks := t' } := I.un (Un.write mu he k heo) (I.hok.write mu he k heo new)
theorem Inv.pins_of {pins' : List (Addr × Obj)} (I : Inv X pins σ H s) (h : ∀ p ∈ pins', s.heap.get? p.1 = some p.2 ∧ H p.1 = none ∧ p.1 ≠ X.env.locals ∧ p.1 ∉ X.fs ∧ ∀ v, p.2.data ≠ .cell v) : Inv X pins' σ H s :=
 ⟨I.ok, I.os, I.bare, I.base, I.loc, I.cell, I.free, I.freeC, fun p hp => (List.mem_append.mp hp).elim (fun z => I.pin p (List.mem_append_left _ z)) (h p), I.hok, I.len⟩
theorem nodup_ix {N : List Str} (hN : N.Nodup) {i j : Nat} {x : Str} (a : N[i]? = some x) (b : N[j]? = some x) : i = j := by
 obtain ⟨h1, e1⟩ := List.getElem?_eq_some_iff.mp a
 obtain ⟨h2, e2⟩ := List.getElem?_eq_some_iff.mp b
 exact (List.getElem_inj hN).mp (e1.trans e2.symm)
theorem store_ok2 {M : Model} {A : Around} {E : Value -> Shared -> Prop} {i : Nat} {x : Str} {v : V} {u : Value} {Q : Unit -> Shared -> Prop} (I : Inv X pins σ H s) (hN : X.N.Nodup) (hi : X.N[i]? = some x) (hx : Loc X.env.scope x) (r : RelV v u)
 (h : ∀ s', Inv X pins (σ.set i (some v)) H s' -> (∃ a, Heap.SameBut a s.heap s'.heap ∧ (a = X.env.locals ∨ X.env.cells.lookup x = some a)) -> Q () s') (hf : X.fn x = true ∨ X.env.scope.names.lookup x = some .local := by first | exact .inl rfl | exact .inr rfl | assumption) : wpAny M A (storeName X.env x u) Q E s := by
 obtain ⟨m, hn, hl⟩ := id I.loc
 have hcls : (X.env.scope.kind == .class || (X.env.scope.kind == .module && X.env.locals != X.env.globals)) = false := by rw [I.ok.kind]; rfl
 have hiσ : i < σ.length := by rw [I.len]; exact (List.getElem?_eq_some_iff.mp hi).1
 have cne := I.cne
 have tracked : ∀ {a : Addr} {h' : Heap}, (∃ o, s.heap.get? a = some o ∧ H a = none) -> Heap.SameBut a s.heap h' -> HOk X.prog X.w H h' := fun {a h'} ha hs b ob e => by
  obtain ⟨_, _, hfree⟩ := ha
  refine (I.hok b ob e).stay (fun c w' hc q => (hs.2 c ?_).trans q) (fun _ q => q) fun _ _ q => q
  rintro rfl
  rcases hc with rfl | hc
  · rw [hfree] at e; cases e
  · rw [hfree] at hc; cases hc
 rcases hx with hk | hk
 · refine wpAny_storeName_local hk hn (fun h' hn' hs => ?_) hcls
   obtain ⟨oL, _, _, hoL, _⟩ := id hn
   refine h _ ⟨I.ok, I.os, I.bare, ⟨fun b o e n hb hx => ?_, fun b o e n hb hx => ?_, I.base.free, fun b o e hx => ?_, I.base.tups, I.base.frzs, I.base.tbls⟩, ⟨_, hn', fun j y v' e1 e2 e3 => ?_⟩, fun y c e => ?_, I.free, I.freeC, fun p hp => ?_, tracked ⟨oL, hoL, I.free⟩ hs, by simpa using I.len⟩ ⟨_, hs, .inl rfl⟩
   · exact (hs.2 b (Nat.ne_of_lt (Nat.lt_of_lt_of_le (Heap.lt_size e) I.ok.above))).trans (I.base.keep b o e n hb hx)
   · obtain ⟨sl, e1⟩ := I.base.slot b o e n hb hx
     exact ⟨sl, (hs.2 b (Nat.ne_of_lt (Nat.lt_of_lt_of_le (Heap.lt_size e) I.ok.above))).trans e1⟩
   · obtain ⟨o', e1⟩ := I.base.there b o e hx
     exact ⟨o', (hs.2 b (Nat.ne_of_lt (Nat.lt_of_lt_of_le (Heap.lt_size e) I.ok.above))).trans e1⟩
   · by_cases hj : j = i
     · subst hj
       rw [hi] at e1; cases e1
       rw [List.getElem?_set_self hiσ] at e2
       cases e2
       exact ⟨u, r, .inl ⟨hk, by simp⟩⟩
     · rw [List.getElem?_set_ne (Ne.symm hj)] at e2
       obtain ⟨u', r', q⟩ := hl j y v' e1 e2 e3
       refine ⟨u', r', ?_⟩
       rcases q with ⟨k, e⟩ | ⟨k, c, e, z⟩
       · refine .inl ⟨k, ?_⟩
         have : y ≠ x := fun e => hj (nodup_ix hN e1 (e ▸ hi))
         simp [this, e]
       · exact .inr ⟨k, c, e, z.sameBut hs (cne y c e)⟩
   · obtain ⟨w', z⟩ := I.cell y c e
     exact ⟨w', z.sameBut hs (cne y c e)⟩
   · obtain ⟨e, n, ne, nf, d⟩ := I.pin p hp
     exact ⟨(hs.2 p.1 ne).trans e, n, ne, nf, d⟩
 · have hfn : X.fn x = true := by
    rcases hf with z | z
    · exact z
    · rw [z] at hk; cases hk
   obtain ⟨c, hc⟩ := I.ok.has x (.inl hk)
   obtain ⟨w', z⟩ := I.cell x c hc
   refine wpAny_storeName_cell I.ok.kind hk hc z (fun h' hc' hs => ?_)
   obtain ⟨oc, hoc, hocd⟩ := id z
   refine h { s with heap := h' } ⟨I.ok, I.os, I.bare, ⟨fun b o e n hb hx => ?_, fun b o e n hb hx => ?_, I.base.free, fun b o e hx => ?_, I.base.tups, I.base.frzs, I.base.tbls⟩, ⟨m, hn.sameBut hs (Ne.symm (cne x c hc)), fun j y v' e1 e2 e3 => ?_⟩, fun y c' e => ?_, I.free, I.freeC, fun p hp => ?_, tracked ⟨oc, hoc, I.freeC x c hc⟩ hs, by simpa using I.len⟩ ⟨c, hs, .inr hc⟩
   · exact (hs.2 b (Nat.ne_of_lt (Nat.lt_of_lt_of_le (Heap.lt_size e) (I.ok.cab x c hfn hc)))).trans (I.base.keep b o e n hb hx)
   · obtain ⟨sl, e1⟩ := I.base.slot b o e n hb hx
     exact ⟨sl, (hs.2 b (Nat.ne_of_lt (Nat.lt_of_lt_of_le (Heap.lt_size e) (I.ok.cab x c hfn hc)))).trans e1⟩
   · obtain ⟨o', e1⟩ := I.base.there b o e hx
     exact ⟨o', (hs.2 b (Nat.ne_of_lt (Nat.lt_of_lt_of_le (Heap.lt_size e) (I.ok.cab x c hfn hc)))).trans e1⟩
   · by_cases hj : j = i
     · subst hj
       rw [hi] at e1; cases e1
       rw [List.getElem?_set_self hiσ] at e2
       cases e2
       exact ⟨u, r, .inr ⟨.inl hk, c, hc, hc'⟩⟩
     · rw [List.getElem?_set_ne (Ne.symm hj)] at e2
       obtain ⟨u', r', q⟩ := hl j y v' e1 e2 e3
       refine ⟨u', r', ?_⟩
       rcases q with q | ⟨k, c', e, z'⟩
       · exact .inl q
       · refine .inr ⟨k, c', e, z'.sameBut hs ?_⟩
         rintro rfl
         exact hj (nodup_ix hN e1 (I.ok.inj _ _ _ e hc ▸ hi))
   · by_cases hcc : c' = c
     · subst hcc; exact ⟨_, hc'⟩
     · obtain ⟨w2, z2⟩ := I.cell y c' e
       exact ⟨w2, z2.sameBut hs hcc⟩
   · obtain ⟨e, n, ne, nf, d⟩ := I.pin p hp
     refine ⟨(hs.2 p.1 ?_).trans e, n, ne, nf, d⟩
     intro q
     rw [q, hoc] at e
     have q' : oc = p.2 := Option.some.inj e
     exact d w' (by rw [<- q']; exact hocd)
theorem store_ok {M : Model} {A : Around} {E : Value -> Shared -> Prop} {i : Nat} {x : Str} {v : V} {u : Value} {Q : Unit -> Shared -> Prop} (I : Inv X pins σ H s) (hN : X.N.Nodup) (hi : X.N[i]? = some x) (hx : Loc X.env.scope x) (r : RelV v u)
 (h : ∀ s', Inv X pins (σ.set i (some v)) H s' -> Q () s') (hf : X.fn x = true ∨ X.env.scope.names.lookup x = some .local := by first | exact .inl rfl | exact .inr rfl | assumption) : wpAny M A (storeName X.env x u) Q E s :=
 store_ok2 I hN hi hx r (fun s' I' _ => h s' I') hf
theorem Inv.call' {s' : Shared} {ch : List Addr} (I : Inv X pins σ H s) (ho : s'.os = s.os) (u : Un (frs X.stack) ch H H' s.heap s'.heap) (hok : HOk X.prog X.w H' s'.heap) (hg : AllBare s'.gens)
 (hch : ∀ b ∈ ch, (b ∈ X.ex ∨ X.s₀.heap.objs.size <= b) ∧ b ≠ X.env.locals ∧ (∀ x c, X.env.cells.lookup x = some c -> c ≠ b) ∧ ∀ p ∈ X.pn ++ pins, p.1 ≠ b) : Inv X pins σ H' s' := by
 obtain ⟨h', g', d', t', o'⟩ := s'
 have e : o' = s.os := ho
 subst e
 exact I.call (g' := g') (t' := t') (d' := d') u hok hg hch
end
abbrev XK := Value -> Option Addr -> Hp -> Prop
abbrev St := List (Option V)
abbrev VK := V -> Hp -> Prop
abbrev TE := St -> Hp -> VK -> Prop
abbrev TT := St -> Hp -> (Bool -> Hp -> Prop) -> Prop
abbrev TA := St -> Hp -> (List V -> Hp -> Prop) -> Prop
structure Ends where
 nx : St -> Hp -> Prop
 rt : VK
 bk : St -> Hp -> Prop := fun _ _ => False
 ct : St -> Hp -> Prop := fun _ _ => False
abbrev TS := Ends -> St -> Hp -> Prop
def EP (X : Cx) (pins : List (Addr × Obj)) (σ : St) (Q : VK) (u : Value) (s' : Shared) : Prop := ∃ v H', Inv X pins σ H' s' ∧ RelV v u ∧ Q v H'
def TP (X : Cx) (pins : List (Addr × Obj)) (σ : St) (Q : Bool -> Hp -> Prop) (b : Bool) (s' : Shared) : Prop := ∃ H', Inv X pins σ H' s' ∧ Q b H'
def AP (X : Cx) (pins : List (Addr × Obj)) (σ : St) (Q : List V -> Hp -> Prop) (us : List Value) (s' : Shared) : Prop := ∃ vs H', Inv X pins σ H' s' ∧ Vals vs us ∧ Q vs H'
def SP (X : Cx) (pins : List (Addr × Obj)) (D : Ends) (f : Flow) (s' : Shared) : Prop :=
 match f with
 | .next => ∃ σ' H', Inv X pins σ' H' s' ∧ D.nx σ' H'
 | .brk => ∃ σ' H', Inv X pins σ' H' s' ∧ D.bk σ' H'
 | .cont => ∃ σ' H', Inv X pins σ' H' s' ∧ D.ct σ' H'
 | .ret u => ∃ v σ' H', Inv X pins σ' H' s' ∧ RelV v u ∧ D.rt v H'
def PE (X : Cx) (e : Expr) (t : TE) : Prop :=
 ∀ (pins : List (Addr × Obj)) (s : Shared) (σ : St) (H : Hp) (Q : VK), Inv X pins σ H s -> t σ H Q -> wpAny (model X.prog X.w) X.A (eval e X.env) (EP X pins σ Q) X.xe s
def PT (X : Cx) (e : Expr) (t : TT) : Prop :=
 ∀ (pins : List (Addr × Obj)) (s : Shared) (σ : St) (H : Hp) (Q : Bool -> Hp -> Prop), Inv X pins σ H s -> t σ H Q -> wpAny (model X.prog X.w) X.A (isTrue e X.env (eval e X.env)) (TP X pins σ Q) X.xe s
def PW (X : Cx) (e : Expr) (t : TT) : Prop :=
 ∀ (whole : Sem Value) (pins : List (Addr × Obj)) (s : Shared) (σ : St) (H : Hp) (Q : Bool -> Hp -> Prop), Inv X pins σ H s -> t σ H Q -> wpAny (model X.prog X.w) X.A (isTrue e X.env whole) (TP X pins σ Q) X.xe s
theorem PW.pt {X : Cx} {e : Expr} {t : TT} (h : PW X e t) : PT X e t := h _
def PA (X : Cx) (es : List Expr) (t : TA) : Prop :=
 ∀ (pos : Pos) (pins : List (Addr × Obj)) (s : Shared) (σ : St) (H : Hp) (Q : List V -> Hp -> Prop), Inv X pins σ H s -> t σ H Q -> wpAny (model X.prog X.w) X.A (spliced (backTo pos (starEach es X.env))) (AP X pins σ Q) X.xe s
def PS (X : Cx) (st : Stmt) (t : TS) : Prop :=
 ∀ (pins : List (Addr × Obj)) (s : Shared) (σ : St) (H : Hp) (D : Ends), Inv X pins σ H s -> t D σ H -> wpAny (model X.prog X.w) X.A (exec st X.env) (SP X pins D) X.xe s
def PSs (X : Cx) (st : List Stmt) (t : TS) : Prop :=
 ∀ (pins : List (Addr × Obj)) (s : Shared) (σ : St) (H : Hp) (D : Ends), Inv X pins σ H s -> t D σ H -> wpAny (model X.prog X.w) X.A (execs st X.env) (SP X pins D) X.xe s
theorem thn {α : Type} {t : Sem α} {Q Q' : α -> Shared -> Prop} {M : Model} {A : Around} {E : Value -> Shared -> Prop} {s : Shared} (h : wpAny M A t Q E s) (hQ : ∀ a s, Q a s -> Q' a s) : wpAny M A t Q' E s := wpAny_mono h hQ fun _ _ x => x
end L2
namespace L2
open PySem PySem.Spec PyProof.Rows
section
variable {X : Cx}
def tVar (i : Nat) : TE := fun σ H Q => ∃ v, σ[i]? = some (some v) ∧ Q v H
def tC (v : V) : TE := fun _ H Q => Q v H
theorem pe_var {i : Nat} {x : Str} {pos : Pos} (hN : X.N[i]? = some x) (hv : Vis X.env.scope x) (hd : (x == ("__debug__" : Str)) = false := by decide) (hcd : (x == ("__classdict__" : Str)) = false := by decide) : PE X (.Name x pos) (tVar i) := by
 intro pins s σ H Q I h
 obtain ⟨v, e, h⟩ := h
 obtain ⟨m, hn, hl⟩ := I.loc
 obtain ⟨u, r, l⟩ := hl i x v hN e hv
 have fin : EP X pins σ Q u s := ⟨v, H, I, r, h⟩
 rcases l with ⟨hk, hm⟩ | ⟨hk, c, hc, hcell⟩
 · exact wpAny_Name (wpAny_loadName_local I.ok.kind hk hn hm fin) hd
 · rcases hk with hk | hk
   · exact wpAny_Name (wpAny_loadName_cell I.ok.kind hk hc hcell fin) hd
   · exact wpAny_Name (wpAny_loadName_free I.ok.kind hk hc hcell fin hcd) hd
theorem pe_int {i j pos} : PE X (.Constant (.int i) j pos) (tC (.int i)) := fun _ _ _ H _ I h => wpAny_Constant_int ⟨.int i, H, I.tok _, ⟨_, rfl⟩, h⟩
theorem pe_non {j pos} : PE X (.Constant .none j pos) (tC .non) := fun _ _ _ H _ I h => Constant_none ⟨.non, H, I, rfl, h⟩
theorem pe_str {x j pos} : PE X (.Constant (.str x) j pos) (tC (.str x)) := fun _ _ _ H _ I h => Calls.Constant_str ⟨.str x, H, I.tok _, ⟨_, rfl⟩, h⟩
def Gl (X : Cx) (x : Str) : Prop := X.env.kindOf x = some .globalImplicit
theorem ld_glob {E : Value -> Shared -> Prop} {pins : List (Addr × Obj)} {s : Shared} {σ : St} {H : Hp} {x : Str} {u : Value} {pos : Pos} {Q : Value -> Shared -> Prop} (I : Inv X pins σ H s) (hg : Gl X x) (hm : X.mg x = some u) (h : Q u s)
 (hd : (x == ("__debug__" : Str)) = false := by decide) : wpAny (model X.prog X.w) X.A (eval (.Name x pos) X.env) Q E s :=
 Calls.Name_function_global I.ok.kind hg (Calls.loadGlobal_global (by rw [I.ok.glob]; exact I.mod.glob.keeps I.bk) hm h) hd
theorem ld_blt {E : Value -> Shared -> Prop} {pins : List (Addr × Obj)} {s : Shared} {σ : St} {H : Hp} {x : Str} {u : Value} {pos : Pos} {Q : Value -> Shared -> Prop} (I : Inv X pins σ H s) (hg : Gl X x) (hm : X.mg x = none) (hv : bootBuiltins x = some u) (h : Q u s)
 (hn : x ≠ "__name__" := by decide) (hd : (x == ("__debug__" : Str)) = false := by decide) : wpAny (model X.prog X.w) X.A (eval (.Name x pos) X.env) Q E s := by
 obtain ⟨mb, h1, h2⟩ := I.mod.blt
 exact Calls.Name_function_global I.ok.kind hg (Calls.loadGlobal_builtin (by rw [I.ok.glob]; exact I.mod.glob.keeps I.bk) hm (by rw [I.ok.blt]; exact h1.keeps I.bk) ((h2 x hn).trans hv) h) hd
theorem pe_glob {x : Str} {v : V} {u : Value} {pos : Pos} (hg : Gl X x) (hm : X.mg x = some u) (r : RelV v u) (hd : (x == ("__debug__" : Str)) = false := by decide) : PE X (.Name x pos) (tC v) :=
 fun _ _ _ H _ I h => ld_glob I hg hm ⟨v, H, I, r, h⟩ hd
theorem pe_bltn {x : Str} {v : V} {u : Value} {pos : Pos} (hg : Gl X x) (hm : X.mg x = none) (hv : bootBuiltins x = some u) (r : RelV v u) (hn : x ≠ "__name__" := by decide) (hd : (x == ("__debug__" : Str)) = false := by decide) : PE X (.Name x pos) (tC v) :=
 fun _ _ _ H _ I h => ld_blt I hg hm hv ⟨v, H, I, r, h⟩ hn hd
variable {a b : Expr} {ta tb : TE} {pos : Pos}
def PC (X : Cx) (op : CmpOp) (a b : Expr) (t : TE) : Prop :=
 ∀ (pins : List (Addr × Obj)) (s : Shared) (σ : St) (H : Hp) (Q : VK), Inv X pins σ H s -> t σ H Q ->
  wpAny (model X.prog X.w) X.A (eval a X.env) (fun v s₁ => wpAny (model X.prog X.w) X.A (eval b X.env) (fun u s₂ => wpAny (model X.prog X.w) X.A (compareOp op v u) (EP X pins σ Q) X.xe s₂) X.xe s₁) X.xe s
theorem nobehind (b : Expr) {op : CmpOp} (h : op ≠ .In) (h2 : op ≠ .NotIn) : behindInMarks op b = false := by
 have e1 : (op == CmpOp.In) = false := by cases op <;> first | rfl | exact absurd rfl h
 have e2 : (op == CmpOp.NotIn) = false := by cases op <;> first | rfl | exact absurd rfl h2
 cases b <;> simp [behindInMarks, e1, e2]
def tB (t : TE) : TT := fun σ H Q => t σ H fun x H1 => ∃ c, x = .bl c ∧ Q c H1
theorem pt_val {e : Expr} {t : TE} (h : PE X e t) (he : ∀ whole, isTrue e X.env whole = (do let v <- whole; standAt e.pos; holding [v] (truthy v)) := by intro _; rfl) : PT X e (tB t) := by
 intro pins s σ H Q I hw
 refine isTrue_plain (thn (h pins s σ H _ I hw) fun v s1 ⟨x, H1, I1, r1, q1⟩ => ?_) (he _)
 obtain ⟨d, rfl, q⟩ := q1
 cases r1
 exact wpAny_truthy_bool ⟨H1, I1, q⟩
variable {tA tB' : TT} {rest : List Expr}
def tAnd (t u : TT) : TT := fun σ H Q => t σ H fun c H1 => if c = true then u σ H1 Q else Q false H1
def tOr (t u : TT) : TT := fun σ H Q => t σ H fun c H1 => if c = true then Q true H1 else u σ H1 Q
def tNot (t : TT) : TT := fun σ H Q => t σ H fun c H1 => Q (!c) H1
theorem pw_and1 (ha : PT X a tA) : PW X (.BoolOp .And [a] pos) tA := by
 intro wh pins s σ H Q I h
 refine isTrue_and (thn (ha pins s σ H Q I h) fun c s1 e => ?_)
 cases c with
 | true => exact isTrue_and_nil e
 | false => exact e
theorem pw_or1 (ha : PT X a tA) : PW X (.BoolOp .Or [a] pos) tA := by
 intro wh pins s σ H Q I h
 refine isTrue_or (thn (ha pins s σ H Q I h) fun c s1 e => ?_)
 cases c with
 | false => exact isTrue_or_nil e
 | true => exact e
theorem pw_and (ha : PT X a tA) (hb : PW X (.BoolOp .And (b :: rest) pos) tB') : PW X (.BoolOp .And (a :: b :: rest) pos) (tAnd tA tB') := by
 intro wh pins s σ H Q I h
 refine isTrue_and (thn (ha pins s σ H _ I h) fun c s1 ⟨H1, I1, q1⟩ => ?_)
 cases c with
 | true => exact hb wh pins s1 σ H1 Q I1 q1
 | false => exact ⟨H1, I1, q1⟩
theorem pw_or (ha : PT X a tA) (hb : PW X (.BoolOp .Or (b :: rest) pos) tB') : PW X (.BoolOp .Or (a :: b :: rest) pos) (tOr tA tB') := by
 intro wh pins s σ H Q I h
 refine isTrue_or (thn (ha pins s σ H _ I h) fun c s1 ⟨H1, I1, q1⟩ => ?_)
 cases c with
 | true => exact ⟨H1, I1, q1⟩
 | false => exact hb wh pins s1 σ H1 Q I1 q1
theorem pt_not (ha : PT X a tA) : PT X (.UnaryOp .Not a pos) (tNot tA) := by
 intro pins s σ H Q I h
 exact isTrue_not (ha pins s σ H (fun c H1 => Q (!c) H1) I h)
def tAndV (ta tb : TE) : TE := fun σ H Q => ta σ H fun x H1 => ∃ c, x = .bl c ∧ if c = true then tb σ H1 Q else Q (.bl false) H1
def tNotV (ta : TE) : TE := fun σ H Q => ta σ H fun x H1 => ∃ c, x = .bl c ∧ Q (.bl (!c)) H1
theorem pe_one {op} {t : TE} (h : PE X a t) : PE X (.BoolOp op [a] pos) t := fun pins s σ H Q I hw => BoolOp_one (h pins s σ H Q I hw)
theorem pe_and (ha : PE X a ta) (hb : PE X (.BoolOp .And (b :: rest) pos) tb) : PE X (.BoolOp .And (a :: b :: rest) pos) (tAndV ta tb) := by
 intro pins s σ H Q I h
 refine BoolOp_and (thn (ha pins s σ H _ I h) fun v s1 ⟨x, H1, I1, r1, q1⟩ => ?_)
 obtain ⟨c, rfl, q1⟩ := q1
 cases r1
 refine wpAny_truthy_bool ?_
 cases c with
 | true => exact hb pins s1 σ H1 Q I1 q1
 | false => exact ⟨.bl false, H1, I1, rfl, q1⟩
theorem pe_not (ha : PE X a ta) : PE X (.UnaryOp .Not a pos) (tNotV ta) := by
 intro pins s σ H Q I h
 refine UnaryOp_ (thn (ha pins s σ H _ I h) fun v s1 ⟨x, H1, I1, r1, q1⟩ => ?_)
 obtain ⟨c, rfl, q1⟩ := q1
 cases r1
 exact not_of (wpAny_truthy_bool ⟨.bl (!c), H1, I1, rfl, q1⟩)
end
end L2
namespace L2
open PySem PySem.Spec PyProof.Rows
def SqL (K : PySem.W.Frag) (H : Hp) (a : Addr) (xs : List V) : Prop :=
 Rd H a (.lst xs) ∨
  ∃ (o : Obj) (its : Array Value) (n : Nat), K.lookup a = some o ∧ o.cls = .type "list" ∧ o.dict = none ∧ o.data = .seq its n ∧ its.size <= sizeLine ∧ Vals xs its.toList
def SqT (K : PySem.W.Frag) (H : Hp) (a : Addr) (xs : List V) : Prop :=
 Rd H a (.tup xs) ∨
  ∃ (o : Obj) (its : Array Value) (n : Nat), K.lookup a = some o ∧ o.cls = .type "tuple" ∧ o.data = .seq its n ∧ its.size <= sizeLine ∧ Vals xs its.toList
def absV : Value -> Option V
 | .none => some .non
 | .bool b => some (.bl b)
 | .int i _ => some (.int i)
 | .str x _ => some (.str x)
 | .bytes b _ => some (.byt b)
 | .float b _ => some (.flt b)
 | .ref a => some (.ref a)
 | .type n => some (.ty n)
 | _ => none
theorem RelV.abs {x : V} {u : Value} (r : RelV x u) : absV u = some x := by
 cases x with
 | non => cases r; rfl
 | bl _ => cases r; rfl
 | int _ => obtain ⟨t, rfl⟩ := r; rfl
 | str _ => obtain ⟨t, rfl⟩ := r; rfl
 | byt _ => obtain ⟨t, rfl⟩ := r; rfl
 | flt _ => obtain ⟨t, rfl⟩ := r; rfl
 | ref _ => cases r; rfl
 | ty _ => cases r; rfl
theorem RelV.inj {x y : V} {u : Value} (r : RelV x u) (q : RelV y u) : x = y := Option.some.inj (r.abs.symm.trans q.abs)
theorem Vals.inj : ∀ {xs ys : List V} {us : List Value}, Vals xs us -> Vals ys us -> xs = ys
 | _, _, _, .nil, .nil => rfl
 | _, _, _, .cons r t, .cons r' t' => by rw [r.inj r', Vals.inj t t']
section
variable {X : Cx} {pins : List (Addr × Obj)} {σ : St} {H : Hp} {s : Shared} {a : Addr} {xs ys : List V}
theorem SqL.of {K : PySem.W.Frag} (h : H a = some (.lst xs)) : SqL K H a xs := .inl (.inl h)
theorem Inv.list (I : Inv X pins σ H s) (h : SqL X.K H a xs) : ∃ its : List Value, Vals xs its ∧ PlainL s.heap a its.toArray ∧ xs.length <= sizeLine := by
 rcases h with h | ⟨o, its, n, hk, hc, hd, hs, hz, r⟩
 · obtain ⟨z, its, n, r, e⟩ := h.ok I.hok
   exact ⟨its, r, ⟨_, n, e, rfl, rfl, rfl⟩, z⟩
 · refine ⟨its.toList, r, ⟨o, n, I.kIn a o hk, hc, hd, by simpa using hs⟩, ?_⟩
   have e := r.length
   simp only [Array.length_toList] at e
   omega
theorem Inv.tuple (I : Inv X pins σ H s) (h : SqT X.K H a xs) : ∃ its : List Value, Vals xs its ∧ IsTup s.heap a its.toArray ∧ xs.length <= sizeLine := by
 rcases h with h | ⟨o, its, n, hk, hc, hs, hz, r⟩
 · obtain ⟨z, its, r, p⟩ := h.ok I.hok
   exact ⟨its, r, p, z⟩
 · refine ⟨its.toList, r, ⟨o, I.kIn a o hk, hc, n, by simpa using hs⟩, ?_⟩
   have e := r.length
   simp only [Array.length_toList] at e
   omega
theorem Inv.list_inj (I : Inv X pins σ H s) (h : SqL X.K H a xs) (h' : SqL X.K H a ys) : xs = ys := by
 obtain ⟨its, r, ⟨o, n, e, _, _, d⟩, _⟩ := I.list h
 obtain ⟨its', r', ⟨o', n', e', _, _, d'⟩, _⟩ := I.list h'
 rw [e] at e'; cases e'
 rw [d] at d'
 injection d' with d1 _
 have : its = its' := by simpa using congrArg Array.toList d1
 subst this
 exact r.inj r'
theorem Inv.tuple_inj (I : Inv X pins σ H s) (h : SqT X.K H a xs) (h' : SqT X.K H a ys) : xs = ys := by
 obtain ⟨its, r, ⟨o, e, _, n, d⟩, _⟩ := I.tuple h
 obtain ⟨its', r', ⟨o', e', _, n', d'⟩, _⟩ := I.tuple h'
 rw [e] at e'; cases e'
 rw [d] at d'
 injection d' with d1 _
 have : its = its' := by simpa using congrArg Array.toList d1
 subst this
 exact r.inj r'
end
abbrev Cx.wish (X : Cx) (E : Value -> Shared -> Prop) : Cx := { X with xe := E }
abbrev Cx.nox (X : Cx) : Cx := X.wish fun _ _ => False
theorem Cx.Ok.wish {X : Cx} (ok : X.Ok) (E : Value -> Shared -> Prop) : (X.wish E).Ok :=
 ⟨ok.mod, ok.kind, ok.glob, ok.blt, ok.above, ok.inj, ok.has, ok.cab, ok.hd, ok.frames, ok.stk, ok.exf, ok.bs, ok.bsz, ok.noex, ok.exfs, ok.funs, ok.frf⟩
theorem Cx.Ok.unwish {X : Cx} {E : Value -> Shared -> Prop} (ok : (X.wish E).Ok) : X.Ok :=
 ⟨ok.mod, ok.kind, ok.glob, ok.blt, ok.above, ok.inj, ok.has, ok.cab, ok.hd, ok.frames, ok.stk, ok.exf, ok.bs, ok.bsz, ok.noex, ok.exfs, ok.funs, ok.frf⟩
section
variable {X : Cx} {pins : List (Addr × Obj)} {σ : St} {H : Hp} {s : Shared} {E : Value -> Shared -> Prop}
theorem Inv.wish (I : Inv X pins σ H s) (E : Value -> Shared -> Prop) : Inv (X.wish E) pins σ H s := ⟨I.ok.wish E, I.os, I.bare, I.base, I.loc, I.cell, I.free, I.freeC, I.pin, I.hok, I.len⟩
theorem Inv.unwish (I : Inv (X.wish E) pins σ H s) : Inv X pins σ H s := ⟨I.ok.unwish, I.os, I.bare, I.base, I.loc, I.cell, I.free, I.freeC, I.pin, I.hok, I.len⟩
theorem SP.unwish {D : Ends} {f : Flow} {s' : Shared} (h : SP (X.wish E) pins D f s') : SP X pins D f s' := by
 cases f with
 | next => obtain ⟨σ', H', I, q⟩ := h; exact ⟨σ', H', I.unwish, q⟩
 | brk => obtain ⟨σ', H', I, q⟩ := h; exact ⟨σ', H', I.unwish, q⟩
 | cont => obtain ⟨σ', H', I, q⟩ := h; exact ⟨σ', H', I.unwish, q⟩
 | ret u => obtain ⟨v, σ', H', I, r, q⟩ := h; exact ⟨v, σ', H', I.unwish, r, q⟩
theorem PSs.nox {st : List Stmt} {t : TS} (h : PSs X.nox st t) : PSs X st t := fun pins s σ H D I hw =>
 wpAny_mono (h pins s σ H D (I.wish _) hw) (fun _ _ q => q.unwish) fun _ _ z => False.elim z
end
section
variable {X : Cx} {st : Stmt} {rest : List Stmt} {t u : TS} {e : Expr} {te : TE} {pos : Pos}
def tNext : TS := fun D σ H => D.nx σ H
def tSeq (t u : TS) : TS := fun D σ H => t { D with nx := u D } σ H
theorem pss_nil : PSs X [] tNext := fun _ _ σ H _ I h => wpAny_execs_nil ⟨σ, H, I, h⟩
theorem pss_cons (h1 : PS X st t) (h2 : PSs X rest u) : PSs X (st :: rest) (tSeq t u) := by
 intro pins s σ H D I h
 refine wpAny_execs_cons (thn (h1 pins s σ H { D with nx := u D } I h) fun f s1 q => ?_)
 cases f with
 | next =>
  obtain ⟨σ', H', I', q⟩ := q
  exact h2 pins s1 σ' H' D I' q
 | ret v => exact q
 | brk => exact q
 | cont => exact q
theorem Inv.quiet {pins : List (Addr × Obj)} {σ : St} {H : Hp} {s : Shared} (I : Inv X pins σ H s) : interactive X.env = false := by simp [interactive, I.ok.kind]
def tDrop (te : TE) : TS := fun D σ H => te σ H fun _ H1 => D.nx σ H1
theorem ps_expr (he : PE X e te) (hs : swapsWith e none pos.line X.env = pure false := by rfl) : PS X (.Expr e pos) (tDrop te) := by
 intro pins s σ H D I h
 exact wpAny_Expr_any (thn (he pins s σ H _ I h) fun v s1 ⟨x, H1, I1, r1, q1⟩ => ⟨σ, H1, I1, q1⟩) I.quiet hs
def tRet (te : TE) : TS := fun D σ H => te σ H D.rt
theorem ps_ret (he : PE X e te) : PS X (.Return (some e) pos) (tRet te) := by
 intro pins s σ H D I h
 exact wpAny_Return_some (thn (he pins s σ H _ I h) fun v s1 ⟨x, H1, I1, r1, q1⟩ => ⟨x, σ, H1, I1, r1, q1⟩)
def tIfS (c : TT) (t u : TS) : TS := fun D σ H => c σ H fun b H1 => if b = true then t D σ H1 else u D σ H1
theorem ps_if {c : Expr} {a b : List Stmt} {tc : TT} (hc : PT X c tc) (ha : PSs X a t) (hb : PSs X b u) : PS X (.If c a b pos) (tIfS tc t u) := by
 intro pins s σ H D I h
 refine wpAny_If (thn (hc pins s σ H _ I h) fun d s1 ⟨H1, I1, q1⟩ => ?_)
 cases d with
 | true => exact ha pins s1 σ H1 D I1 q1
 | false => exact hb pins s1 σ H1 D I1 q1
def tNever : TS := fun _ _ _ => False
theorem pss_never {sts : List Stmt} : PSs X sts tNever := fun _ _ _ _ _ _ h => h.elim
end
abbrev TG := V -> St -> Hp -> (St -> Hp -> Prop) -> Prop
abbrev TGs := List V -> St -> Hp -> (St -> Hp -> Prop) -> Prop
def PG (X : Cx) (target : Expr) (t : TG) : Prop :=
 ∀ (pins : List (Addr × Obj)) (s : Shared) (σ : St) (H : Hp) (v : V) (u : Value) (Q : St -> Hp -> Prop), Inv X pins σ H s -> RelV v u -> t v σ H Q ->
  wpAny (model X.prog X.w) X.A (assign target X.env u) (fun _ s' => ∃ σ' H', Inv X pins σ' H' s' ∧ Q σ' H') X.xe s
def PGs (X : Cx) (ts : List Expr) (t : TGs) : Prop :=
 ∀ (pins : List (Addr × Obj)) (s : Shared) (σ : St) (H : Hp) (vs : List V) (us : List Value) (Q : St -> Hp -> Prop), Inv X pins σ H s -> Vals vs us -> t vs σ H Q ->
  wpAny (model X.prog X.w) X.A (assignInOrder ((assignEach ts X.env).map (·.2)) us) (fun _ s' => ∃ σ' H', Inv X pins σ' H' s' ∧ Q σ' H') X.xe s
section
variable {X : Cx} {pos : Pos}
def gName (i : Nat) : TG := fun v σ H Q => Q (σ.set i (some v)) H
theorem pg_name {i : Nat} {x : Str} (hN : X.N.Nodup) (hi : X.N[i]? = some x) (hx : Loc X.env.scope x) (hf : X.fn x = true ∨ X.env.scope.names.lookup x = some .local := by first | exact .inl rfl | exact .inr rfl | assumption) : PG X (.Name x pos) (gName i) := by
 intro pins s σ H v u Q I r h
 exact wpAny_assign_Name (store_ok I hN hi hx r (fun s' I' => ⟨_, H, I', h⟩) hf)
def gNil : TGs := fun vs σ H Q => vs = [] ∧ Q σ H
def gCons (t : TG) (u : TGs) : TGs := fun vs σ H Q => ∃ v r, vs = v :: r ∧ t v σ H fun σ' H' => u r σ' H' Q
theorem pgs_nil : PGs X [] gNil := by
 intro pins s σ H vs us Q I r h
 obtain ⟨e, h⟩ := h
 subst e
 cases r
 exact assignInOrder_nil ⟨σ, H, I, h⟩
theorem pgs_cons {e : Expr} {es : List Expr} {t : TG} {u : TGs} (h1 : PG X e t) (h2 : PGs X es u)
 (hs : (assignEach (e :: es) X.env).map (·.2) = assign e X.env :: (assignEach es X.env).map (·.2) := by rfl) : PGs X (e :: es) (gCons t u) := by
 intro pins s σ H vs us Q I r h
 obtain ⟨v, vr, e1, h⟩ := h
 subst e1
 cases r with
 | cons r rr =>
  rw [hs]
  refine assignInOrder_cons (thn (h1 pins s σ H _ _ _ I r h) fun _ s1 ⟨σ1, H1, I1, q1⟩ => ?_)
  exact h2 pins s1 σ1 H1 _ _ Q I1 rr q1
def gTup (K : PySem.W.Frag) (n : Nat) (t : TGs) : TG := fun v σ H Q => ∃ a xs, v = .ref a ∧ SqT K H a xs ∧ xs.length = n ∧ t xs σ H Q
theorem pg_tup {es : List Expr} {k : Nat} {t : TGs} {n : Nat} (hc : X.calm = true) (h : PGs X es t)
 (hn : (assignEach es X.env).length = n := by rfl) (hst : (assignEach es X.env).findIdx? (·.1) = none := by rfl) : PG X (.Tuple es k pos) (gTup X.K n t) := by
 intro pins s σ H v u Q I r hw
 obtain ⟨a, xs, e1, hq, hl, hw⟩ := hw
 subst e1
 cases r
 obtain ⟨its, rv, ht, hz⟩ := I.tuple hq
 refine assign_Tuple_tuple (I.ok.hd hc) ht (by simp [hn, <- hl, rv.length]) hst fun h' hx => ?_
 have I1 : Inv X pins σ H { s with heap := h' } := I.kept (t' := s.toks) fun b o e => hx b o (Nat.ne_of_lt (Heap.lt_size e)) e
 exact h pins _ σ H xs _ Q I1 (by simpa using rv) hw
def tAsg (te : TE) (g : TG) : TS := fun D σ H => te σ H fun x H1 => g x σ H1 D.nx
theorem ps_asg {tg e : Expr} {te : TE} {g : TG} (he : PE X e te) (hg : PG X tg g) (hs : swapsWithSole [tg] e pos.line X.env = pure false := by rfl) (hw : swappedStores [tg] e X.env = pure none := by rfl)
 (h1 : (assignEach [tg] X.env).map (·.2) = [assign tg X.env] := by rfl) : PS X (.Assign [tg] e pos) (tAsg te g) := by
 intro pins s σ H D I h
 refine wpAny_Assign_stores (thn (he pins s σ H _ I h) fun v s1 ⟨x, H1, I1, r1, q1⟩ => ?_) hs hw
 rw [h1]
 exact thn (hg pins s1 σ H1 x v _ I1 r1 q1) fun _ s2 q => q
theorem ps_set {i : Nat} {x : Str} {e : Expr} {te : TE} {pos' : Pos} (hN : X.N.Nodup) (hi : X.N[i]? = some x) (hx : Loc X.env.scope x) (he : PE X e te) (hs : swapsWith e (some (.Name x pos')) pos.line X.env = pure false := by rfl) (hf : X.fn x = true ∨ X.env.scope.names.lookup x = some .local := by first | exact .inl rfl | exact .inr rfl | assumption) :
 PS X (.Assign [.Name x pos'] e pos) (tAsg te (gName i)) := by
 intro pins s σ H D I h
 refine wpAny_Assign_Name (thn (he pins s σ H _ I h) fun v s1 ⟨y, H1, I1, r1, q1⟩ => ?_) hs
 exact store_ok I1 hN hi hx r1 (fun s2 I2 => ⟨_, H1, I2, q1⟩) hf
end
structure It where
 go : Nat -> Hp -> Prop
 yld : Nat -> Hp -> V -> Hp -> Prop
 stop : Nat -> Hp -> Prop
def FpOk (X : Cx) (pins : List (Addr × Obj)) (H : Hp) (b : Addr) : Prop :=
 H b = none ∧ b ≠ X.env.locals ∧ b ∉ X.fs ∧ (b ∈ X.ex ∨ X.s₀.heap.objs.size <= b) ∧ (∀ x c, X.env.cells.lookup x = some c -> c ≠ b) ∧ ∀ p ∈ X.pn ++ pins, p.1 ≠ b
theorem Inv.fpOk {X : Cx} {pins : List (Addr × Obj)} {σ : St} {H H' : Hp} {s : Shared} {b : Addr} (I : Inv X pins σ H s) (hb : s.heap.objs.size <= b) (hn : H' b = none) : FpOk X pins H' b := by
 refine ⟨hn, Nat.ne_of_gt (Nat.lt_of_lt_of_le I.lt hb), I.nofs hb, .inr (Nat.le_trans I.sz hb), fun x c e z => ?_, fun p hp z => ?_⟩
 · obtain ⟨v, q⟩ := I.cell x c e
   exact absurd (Nat.lt_of_lt_of_le q.lt (by rw [z]; exact hb)) (Nat.lt_irrefl _)
 · exact absurd (Nat.lt_of_lt_of_le (Heap.lt_size (I.pin p hp).1) (by rw [z]; exact hb)) (Nat.lt_irrefl _)
structure Turn (P : Program) (w : World) (K : PySem.W.Frag) (tg : Expr) (J : It) (fp : List Addr) (it : Addr) (tn : Nat -> Heap -> Prop) : Prop where
 mem : it ∈ fp
 obj : ∀ i h, tn i h -> ∀ b ∈ fp, ∃ o, h.get? b = some o ∧ ∀ v, o.data ≠ .cell v
 keep : ∀ i h h', tn i h -> (∀ b ∈ fp, ∀ o, h.get? b = some o -> h'.get? b = some o) -> tn i h'
 item : ∀ (X : Cx), X.prog = P -> X.w = w -> X.K = K -> X.calm = true -> ∀ (i : Nat) (pins : List (Addr × Obj)) (s : Shared) (σ : St) (H : Hp) (E : Value -> Shared -> Prop), Inv X pins σ H s -> (∀ b ∈ fp, FpOk X pins H b) -> tn i s.heap -> J.go i H ->
  wpAny (model P w) X.A (pyNext (.ref it)) (fun r s1 => ∃ u, r = some u ∧
   wpAny (model P w) X.A (letOwnedTupleGo tg (.ref it) u) (fun _ s2 => ∃ x H', Inv X pins σ H' s2 ∧ RelV x u ∧ J.yld i H x H' ∧ tn (i + 1) s2.heap ∧ ∀ b ∈ fp, H' b = none) E s1) E s
 done : ∀ (X : Cx), X.prog = P -> X.w = w -> X.K = K -> X.calm = true -> ∀ (i : Nat) (pins : List (Addr × Obj)) (s : Shared) (σ : St) (H : Hp) (E : Value -> Shared -> Prop), Inv X pins σ H s -> (∀ b ∈ fp, FpOk X pins H b) -> tn i s.heap -> J.stop i H ->
  wpAny (model P w) X.A (pyNext (.ref it)) (fun r s1 => r = none ∧ Inv X pins σ H s1) E s
 self : ∀ (A : Around) (i : Nat) (s : Shared) (Q : Value -> Shared -> Prop) (E : Value -> Shared -> Prop), tn i s.heap -> Q (.ref it) s -> wpAny (model P w) A (pyIter (.ref it)) Q E s
abbrev TI := St -> Hp -> (It -> Hp -> Prop) -> Prop
def PIE (X : Cx) (pins : List (Addr × Obj)) (σ : St) (tg : Expr) (R : It -> Hp -> Prop) (itv : Value) (s2 : Shared) : Prop :=
 ∃ (it : Addr) (fp : List Addr) (tn : Nat -> Heap -> Prop) (J : It) (H' : Hp), itv = .ref it ∧ Inv X pins σ H' s2 ∧ Turn X.prog X.w X.K tg J fp it tn ∧ tn 0 s2.heap ∧ (∀ b ∈ fp, FpOk X pins H' b) ∧ R J H'
def PI (X : Cx) (tg iter : Expr) (wi : TI) : Prop :=
 ∀ (pins : List (Addr × Obj)) (s : Shared) (σ : St) (H : Hp) (R : It -> Hp -> Prop), Inv X pins σ H s -> wi σ H R ->
  wpAny (model X.prog X.w) X.A (eval iter X.env) (fun v s1 => wpAny (model X.prog X.w) X.A (pyIter v) (PIE X pins σ tg R) X.xe s1) X.xe s
theorem go_of {M : Model} {A : Around} {E : Value -> Shared -> Prop} {s : Shared} {tg : Expr} {it : Addr} {u : Value} {o : Obj} {n : String} {vs : Array Value} {Q : Unit -> Shared -> Prop} (ho : s.heap.get? it = some o) (hc : o.cls = .type n) (hd : o.data = .fields vs)
    (hn : ["enumerate", "zip", "dict_itemiterator", "dict_reverseitemiterator", "odict_iterator", "itertools.zip_longest", "itertools.pairwise"].contains n = false) (hQ : Q () s) : wpAny M A (letOwnedTupleGo tg (.ref it) u) Q E s := by
  unfold letOwnedTupleGo
  cases tg <;> first
    | exact wpAny_pure hQ
    | (cases u <;> first
        | exact wpAny_pure hQ
        | (refine wpAny_bind (wpAny_load ho ?_)
           rw [hc, hd]
           show wpAny M A (if (["enumerate", "zip", "dict_itemiterator", "dict_reverseitemiterator", "odict_iterator", "itertools.zip_longest", "itertools.pairwise"].contains n && vs[0]? == some (rawInt _)) = true then _ else _) Q E s
           rw [if_neg (by intro h; rw [hn, Bool.false_and] at h; cases h)]
           exact wpAny_pure hQ))
def Itl (K : PySem.W.Frag) (a : Addr) : It :=
 ⟨fun i H => ∃ xs x, SqL K H a xs ∧ xs[i]? = some x, fun i H x H' => H' = H ∧ ∀ xs, SqL K H a xs -> xs[i]? = some x, fun i H => ∃ xs, SqL K H a xs ∧ xs.length <= i⟩
def Itr (lo : Int) (n : Nat) : It := ⟨fun i _ => i < n, fun i H x H' => H' = H ∧ x = .int (lo + i), fun i _ => n <= i⟩
theorem turn_list {P : Program} {w : World} {K : PySem.W.Frag} {tg : Expr} (a it : Addr) : Turn P w K tg (Itl K a) [it] it (fun i h => h.IsListIter it a i) where
 mem := by simp
 obj := fun i h st b hb => by
  have e : b = it := by simpa using hb
  subst e
  obtain ⟨o, e, c, d⟩ := st
  exact ⟨o, e, fun v z => by rw [d] at z; cases z⟩
 keep := fun i h h' st k => st.at fun o e => k it (by simp) o e
 item := by
  intro X hP hw hK hc i pins s σ H E I hf st hg
  subst hP hw hK
  obtain ⟨xs, x, hq, hx⟩ := hg
  obtain ⟨its, rv, p, hz⟩ := I.list hq
  obtain ⟨u, hu, ru⟩ := rv.get hx
  obtain ⟨f0, f1, f2, f3, f4, f5⟩ := hf it (by simp)
  refine wpAny_pyNext_list_item st p.isList (x := u) (by simpa using hu) fun h' st' sb => ?_
  have I1 : Inv X pins σ H { s with heap := h' } := I.turned (t' := s.toks) (fun b o hb e => (sb.2 b hb).trans e) f0 f1 f3 f4 f5
  obtain ⟨o, e, c, d⟩ := id st'
  exact ⟨u, rfl, go_of (s := { s with heap := h' }) e c d (by decide) ⟨x, H, I1, ru, ⟨rfl, fun ys hy => by rw [I.list_inj hy hq]; exact hx⟩, st', fun b hb => (hf b hb).1⟩⟩
 done := by
  intro X hP hw hK hc i pins s σ H E I hf st hg
  subst hP hw hK
  obtain ⟨xs, hq, hx⟩ := hg
  obtain ⟨its, rv, p, hz⟩ := I.list hq
  obtain ⟨f0, f1, f2, f3, f4, f5⟩ := hf it (by simp)
  have hl := rv.length
  exact wpAny_pyNext_list_end (I.ok.hd hc) st p.isList (by simp; omega) fun h' eb => ⟨rfl, I.turned (t' := s.toks) (fun b o hb e => eb b o hb e) f0 f1 f3 f4 f5⟩
 self := fun _ _ _ _ _ st h => wpAny_pyIter_listiter st h
theorem turn_range {P : Program} {w : World} {K : PySem.W.Frag} {tg : Expr} (it : Addr) (lo : Int) (n : Nat) : Turn P w K tg (Itr lo n) [it] it (fun i h => IsRangeIter h it (lo + (i : Nat) * 1) ((n : Int) - (i : Nat)) 1) where
 mem := by simp
 obj := fun i h st b hb => by
  have e : b = it := by simpa using hb
  subst e
  exact ⟨_, st, fun v z => by
   have z' : Data.fields _ = Data.cell v := z
   cases z'⟩
 keep := fun i h h' st k => k it (by simp) _ st
 item := by
  intro X hP hw hK hc i pins s σ H E I hf st hg
  subst hP hw hK
  obtain ⟨f0, f1, f2, f3, f4, f5⟩ := hf it (by simp)
  have W := Walks.range (prog := X.prog) (w := X.w) (I.ok.hd hc) it lo 1 n
  refine W.item i s _ _ hg st fun v h' tk hv st' kk => ?_
  obtain ⟨t, rfl⟩ := hv
  have I1 : Inv X pins σ H { s with heap := h', toks := tk } := I.turned (fun b o hb e => kk b o (by simpa using hb) e) f0 f1 f3 f4 f5
  refine ⟨_, rfl, go_of (s := { s with heap := h', toks := tk }) (n := "range_iterator") st' rfl rfl (by decide) ⟨.int (lo + i), H, I1, ⟨t, ?_⟩, ⟨rfl, rfl⟩, st', fun b hb => (hf b hb).1⟩⟩
  rw [Int.mul_one]
 done := by
  intro X hP hw hK hc i pins s σ H E I hf st hg
  subst hP hw hK
  obtain ⟨f0, f1, f2, f3, f4, f5⟩ := hf it (by simp)
  exact wpAny_pyNext_range_end (I.ok.hd hc) st (by have : n <= i := hg; omega) fun h' eb => ⟨rfl, I.turned (t' := s.toks) (fun b o hb e => eb b o hb e) f0 f1 f3 f4 f5⟩
 self := fun _ _ _ _ _ st h => wpAny_pyIter_rangeiter st h
end L2
namespace L2
open PySem PySem.Spec PyProof.Rows
section
variable {X : Cx} {tg : Expr}
def iList (K : PySem.W.Frag) (tl : TE) : TI := fun σ H R => tl σ H fun x H1 => ∃ a, x = .ref a ∧ (∃ xs, SqL K H1 a xs) ∧ R (Itl K a) H1
theorem pi_list {l : Expr} {tl : TE} (hl : PE X l tl) : PI X tg l (iList X.K tl) := by
 intro pins s σ H R I h
 refine thn (hl pins s σ H _ I h) fun v s1 ⟨x, H1, I1, r1, q1⟩ => ?_
 obtain ⟨a, e, ⟨xs, hq⟩, q⟩ := q1
 subst e
 cases r1
 obtain ⟨its, rv, p, hz⟩ := I1.list hq
 refine wpAny_pyIter_list p.isList ?_
 refine ⟨s1.heap.objs.size, [s1.heap.objs.size], _, _, H1, rfl, I1.kept (t' := s1.toks) fun b o e => Heap.get?_push_of_some _ e, turn_list a _, ⟨_, Heap.get?_push_size _ rfl, rfl, rfl⟩, fun b hb => ?_, q⟩
 have e : b = s1.heap.objs.size := by simpa using hb
 subst e
 exact I1.fpOk (Nat.le_refl _) (I1.hok.fresh (Nat.le_refl _))
theorem range_it {pins : List (Addr × Obj)} {σ : St} {H : Hp} {s : Shared} {R : It -> Hp -> Prop} {E : Value -> Shared -> Prop} {lo hi : Int} {t u v : Tok} {tk : Nat} (I : Inv X pins σ H s) (h1 : -(2 ^ 62) <= lo) (h2 : lo < 2 ^ 62) (h3 : -(2 ^ 62) <= hi) (h4 : hi < 2 ^ 62)
 (q : R (Itr lo (hi - lo).toNat) H) : wpAny (model X.prog X.w) X.A (pyIter (.ref s.heap.objs.size)) (PIE X pins σ tg R) E { s with heap := s.heap.push { cls := .type "range", data := .fields #[.int lo t, .int hi u, .int 1 v] }, toks := tk } := by
 refine wpAny_pyIter_range (IsRange.new ..) (small_one h1 h2 h3 h4) ?_
 have I1 : Inv X pins σ H { s with heap := s.heap.push { cls := .type "range", data := .fields #[.int lo t, .int hi u, .int 1 v] }, toks := tk } := I.kept fun b o e => Heap.get?_push_of_some _ e
 refine ⟨(s.heap.push { cls := .type "range", data := .fields #[.int lo t, .int hi u, .int 1 v] }).objs.size, [(s.heap.push { cls := .type "range", data := .fields #[.int lo t, .int hi u, .int 1 v] }).objs.size], _, _, H, rfl,
  I1.kept (t' := tk) fun b o e => Heap.get?_push_of_some _ e, turn_range _ lo (hi - lo).toNat, ?_, fun b hb => ?_, q⟩
 · have e1 : lo + ((0 : Nat) : Int) * 1 = lo := by simp
   have e2 : (((hi - lo).toNat : Nat) : Int) - ((0 : Nat) : Int) = Builtin.Range.rangeSize lo hi 1 := by rw [rangeSize_one]; split <;> omega
   show IsRangeIter _ _ (lo + ((0 : Nat) : Int) * 1) ((((hi - lo).toNat : Nat) : Int) - ((0 : Nat) : Int)) 1
   rw [e1, e2]
   exact Heap.get?_push_size _ rfl
 · have e : b = (s.heap.push { cls := .type "range", data := .fields #[.int lo t, .int hi u, .int 1 v] }).objs.size := by simpa using hb
   subst e
   exact I1.fpOk (Nat.le_refl _) (I1.hok.fresh (Nat.le_refl _))
def iRng1 (ta : TA) : TI := fun σ H R => ta σ H fun vs H1 => ∃ j : Int, vs = [.int j] ∧ -(2 ^ 62) <= j ∧ j < 2 ^ 62 ∧ R (Itr 0 j.toNat) H1
theorem pi_range1 {a : Expr} {ta : TA} {p pos : Pos} (hg : Gl X "range") (hm : X.mg "range" = none) (ha : PA X [a] ta) (hs : starEach [a] X.env = [(false, eval a X.env)] := by rfl) : PI X tg (.Call (.Name "range" p) [a] [] pos) (iRng1 ta) := by
 intro pins s σ H R I h
 refine Call_ (ld_blt I hg hm boot_range (PyProof.Rows.callWith_type1 (thn (ha pos pins s σ H _ I h) fun us s1 ⟨vs, H1, I1, r1, q1⟩ => ?_) hs rfl))
 obtain ⟨j, e, q1, q2, q⟩ := q1
 subst e
 cases r1 with
 | cons r rr =>
  cases rr
  obtain ⟨t, rfl⟩ := r
  exact call_range_1 (range_it I1 (by omega) (by omega) q1 q2 (by simpa using q))
def tFor (wi : TI) (g : TG) (tb : TS) : TS := fun D σ H => wi σ H fun J H1 => ∃ W : Nat -> Nat -> St -> Hp -> Prop, (∃ m, W 0 m σ H1) ∧ ∀ i m σ H, W i m σ H ->
 (J.stop i H ∧ D.nx σ H) ∨ (J.go i H ∧ ∃ N : St -> Hp -> Prop, (∀ σ' H', N σ' H' -> ∃ m', m' < m ∧ W (i + 1) m' σ' H') ∧ ∀ x H', J.yld i H x H' -> g x σ H' fun σ2 H2 => tb { D with nx := N, ct := N, bk := D.nx } σ2 H2)
def pinsAt (fp : List Addr) (h : Heap) : List (Addr × Obj) := fp.filterMap fun b => (h.get? b).map fun o => (b, o)
theorem mem_pinsAt {fp : List Addr} {h : Heap} {b : Addr} {o : Obj} (hb : b ∈ fp) (e : h.get? b = some o) : (b, o) ∈ pinsAt fp h := List.mem_filterMap.mpr ⟨b, hb, by rw [e]; rfl⟩
theorem of_pinsAt {fp : List Addr} {h : Heap} {p : Addr × Obj} (hp : p ∈ pinsAt fp h) : p.1 ∈ fp ∧ h.get? p.1 = some p.2 := by
 obtain ⟨b, hb, e⟩ := List.mem_filterMap.mp hp
 cases q : h.get? b with
 | none => rw [q] at e; cases e
 | some o =>
  rw [q] at e
  have e' : (b, o) = p := Option.some.inj e
  subst e'
  exact ⟨hb, q⟩
theorem Inv.pinned {pins : List (Addr × Obj)} {σ : St} {H : Hp} {s : Shared} {fp : List Addr} (I : Inv X pins σ H s) (hf : ∀ b ∈ fp, FpOk X pins H b) (ho : ∀ b ∈ fp, ∃ o, s.heap.get? b = some o ∧ ∀ v, o.data ≠ .cell v) : Inv X (pins ++ pinsAt fp s.heap) σ H s :=
 I.pins_of fun p hp => (List.mem_append.mp hp).elim (fun z => I.pin p (List.mem_append_right _ z)) fun z => by
  obtain ⟨hb, e⟩ := of_pinsAt z
  obtain ⟨f0, f1, f2, _⟩ := hf p.1 hb
  obtain ⟨o, e', d⟩ := ho p.1 hb
  rw [e] at e'; cases e'
  exact ⟨e, f0, f1, f2, d⟩
theorem Inv.unpinned {pins pl : List (Addr × Obj)} {σ : St} {H : Hp} {s : Shared} (I : Inv X (pins ++ pl) σ H s) : Inv X pins σ H s := I.pins_of fun p hp => I.pin p (List.mem_append_right _ (List.mem_append_left _ hp))
theorem ps_for {iter : Expr} {body : List Stmt} {wi : TI} {g : TG} {tb : TS} {pos : Pos} (hp : PassesOwn (model X.prog X.w) X.A X.env X.xe) (hc : X.calm = true) (hi : PI X tg iter wi) (hg : PG X tg g) (hb : PSs X body tb)
 (hs : ∀ x, foldedSetIterable iter X.env x = pure x := by intro _; rfl) : PS X (.For tg iter body [] pos) (tFor wi g tb) := by
 intro pins s σ H D I h
 refine wpAny_For (thn (hi pins s σ H _ I h) fun v s1 h1 => thn h1 fun itv s2 h2 => ?_) hs
 obtain ⟨it, fp, tn, J, H2, e, I2, T, st2, f2, W, ⟨m0, w0⟩, turn⟩ := h2
 subst e
 -- what stays true of the iterator's objects through the loop
 have stat : ∀ {H' : Hp}, (∀ b ∈ fp, H' b = none) -> ∀ b ∈ fp, FpOk X pins H' b := fun hn b hb => ⟨hn b hb, (f2 b hb).2⟩
 refine codeAny_forLoop_any (fun n s' => ∃ i σ' H', Inv X pins σ' H' s' ∧ tn i s'.heap ∧ (∀ b ∈ fp, H' b = none) ∧ W i n σ' H') ?_ m0 ⟨0, σ, H2, I2, st2, fun b hb => (f2 b hb).1, w0⟩
 rintro n s3 ⟨i, σ3, H3, I3, st3, fr3, w3⟩
 rcases turn i n σ3 H3 w3 with ⟨stop, qn⟩ | ⟨go, N, hN, step⟩
 · refine wpAny_passesOwn hp (thn (T.done X rfl rfl rfl hc i pins s3 σ3 H3 X.xe I3 (stat fr3) st3 stop) fun r s4 ⟨hr, I4⟩ => ?_)
   subst hr
   exact wpAny_execs_nil ⟨σ3, H3, I4, qn⟩
 · refine wpAny_passesOwn hp (thn (T.item X rfl rfl rfl hc i pins s3 σ3 H3 X.xe I3 (stat fr3) st3 go) fun r s4 ⟨u, hr, h4⟩ => ?_)
   subst hr
   refine wpAny_passesOwn hp (thn h4 fun _ s5 ⟨x, H5, I5, r5, y5, st5, fr5⟩ => ?_)
   have I5' := I5.pinned (stat fr5) (T.obj _ _ st5)
   refine wpAny_passesOwn hp (thn (hg _ s5 σ3 H5 x u _ I5' r5 (step x H5 y5)) fun _ s6 ⟨σ6, H6, I6, q6⟩ => ?_)
   refine wpAny_passesOwn hp (thn (hb _ s6 σ6 H6 _ I6 q6) fun f s7 q7 => ?_)
   have again : ∀ {σ7 : St} {H7 : Hp}, Inv X (pins ++ pinsAt fp s5.heap) σ7 H7 s7 -> N σ7 H7 -> ∃ m, m < n ∧ ∃ i σ' H', Inv X pins σ' H' s7 ∧ tn i s7.heap ∧ (∀ b ∈ fp, H' b = none) ∧ W i m σ' H' := fun {σ7 H7} I7 n7 => by
    obtain ⟨m', hm, w7⟩ := hN σ7 H7 n7
    refine ⟨m', hm, i + 1, σ7, H7, I7.unpinned, T.keep _ _ _ st5 fun b hb o e => (I7.pin (b, o) (List.mem_append_right _ (List.mem_append_right _ (mem_pinsAt hb e)))).1, fun b hb => ?_, w7⟩
    obtain ⟨o, e, d⟩ := T.obj _ _ st5 b hb
    exact (I7.pin (b, o) (List.mem_append_right _ (List.mem_append_right _ (mem_pinsAt hb e)))).2.1
   cases f with
   | next => obtain ⟨σ7, H7, I7, n7⟩ := q7; exact again I7 n7
   | cont => obtain ⟨σ7, H7, I7, n7⟩ := q7; exact again I7 n7
   | brk => obtain ⟨σ7, H7, I7, q7⟩ := q7; exact ⟨σ7, H7, I7.unpinned, q7⟩
   | ret v => obtain ⟨x7, σ7, H7, I7, r7, q7⟩ := q7; exact ⟨x7, σ7, H7, I7.unpinned, r7, q7⟩
end
end L2
namespace L2
open PySem PySem.Spec PyProof.Rows
abbrev R2 := V -> V -> Hp -> VK -> Prop
def OpR (X : Cx) (f : Value -> Value -> Sem Value) (r : R2) : Prop :=
 ∀ (pins : List (Addr × Obj)) (s : Shared) (σ : St) (H : Hp) (x y : V) (v u : Value) (Q : VK), Inv X pins σ H s -> RelV x v -> RelV y u -> r x y H Q ->
  wpAny (model X.prog X.w) X.A (f v u) (EP X pins σ Q) X.xe s
def UnR (X : Cx) (f : Value -> Sem Value) (r : V -> Hp -> VK -> Prop) : Prop :=
 ∀ (pins : List (Addr × Obj)) (s : Shared) (σ : St) (H : Hp) (x : V) (v : Value) (Q : VK), Inv X pins σ H s -> RelV x v -> r x H Q ->
  wpAny (model X.prog X.w) X.A (f v) (EP X pins σ Q) X.xe s
def CallR (X : Cx) (f : Value) (r : List V -> Hp -> VK -> Prop) : Prop :=
 ∀ (pins : List (Addr × Obj)) (s : Shared) (σ : St) (H : Hp) (xs : List V) (us : List Value) (Q : VK), Inv X pins σ H s -> Vals xs us -> r xs H Q ->
  wpAny (model X.prog X.w) X.A (call f us) (EP X pins σ Q) X.xe s
def tOp (r : R2) (ta tb : TE) : TE := fun σ H Q => ta σ H fun x H1 => tb σ H1 fun y H2 => r x y H2 Q
def tUn (r : V -> Hp -> VK -> Prop) (ta : TE) : TE := fun σ H Q => ta σ H fun x H1 => r x H1 Q
def rI (C : Int -> Int -> Prop) (g : Int -> Int -> V) : R2 := fun x y H Q => ∃ i j, x = .int i ∧ y = .int j ∧ C i j ∧ Q (g i j) H
def rI0 (g : Int -> Int -> V) : R2 := fun x y H Q => ∃ i j, x = .int i ∧ y = .int j ∧ Q (g i j) H
def rU (g : Int -> V) : V -> Hp -> VK -> Prop := fun x H Q => ∃ i, x = .int i ∧ Q (g i) H
section
variable {X : Cx} {a b c : Expr} {ta tb tc : TE} {pos : Pos}
theorem binT (ha : PE X a ta) (hb : PE X b tb) {pins : List (Addr × Obj)} {s : Shared} {σ : St} {H : Hp} {R : V -> V -> Hp -> Prop} (I : Inv X pins σ H s)
 (h : ta σ H fun x H1 => tb σ H1 fun y H2 => R x y H2) {Q : Value -> Shared -> Prop} {f : Value -> Value -> Sem Value}
 (hf : ∀ v u s2 x y H2, Inv X pins σ H2 s2 -> RelV x v -> RelV y u -> R x y H2 -> wpAny (model X.prog X.w) X.A (f v u) Q X.xe s2) :
 wpAny (model X.prog X.w) X.A (eval a X.env) (fun v s₁ => wpAny (model X.prog X.w) X.A (eval b X.env) (fun u s₂ => wpAny (model X.prog X.w) X.A (f v u) Q X.xe s₂) X.xe s₁) X.xe s := by
 refine thn (ha pins s σ H _ I h) fun v s1 ⟨x, H1, I1, r1, q1⟩ => ?_
 refine thn (hb pins s1 σ H1 _ I1 q1) fun u s2 ⟨y, H2, I2, r2, q2⟩ => ?_
 exact hf v u s2 x y H2 I2 r1 r2 q2
theorem pe_op {op : Operator} {r : R2} (ho : OpR X (binaryOp op) r) (ha : PE X a ta) (hb : PE X b tb) : PE X (.BinOp a op b pos) (tOp r ta tb) := by
 intro pins s σ H Q I h
 exact wpAny_BinOp (binT ha hb I h fun v u s2 x y H2 I2 rx ry q => ho pins s2 σ H2 x y v u Q I2 rx ry q)
theorem pe_un {op : UnaryOp} {r : V -> Hp -> VK -> Prop} (ho : UnR X (unaryOp op) r) (ha : PE X a ta) : PE X (.UnaryOp op a pos) (tUn r ta) := by
 intro pins s σ H Q I h
 exact UnaryOp_ (thn (ha pins s σ H _ I h) fun v s1 ⟨x, H1, I1, r1, q1⟩ => ho pins s1 σ H1 x v Q I1 r1 q1)
theorem opI {f : Value -> Value -> Sem Value} {C : Int -> Int -> Prop} {g : Int -> Int -> Int}
 (rule : ∀ (i j : Int) (t u : Tok) (s : Shared) (Q : Value -> Shared -> Prop) (E : Value -> Shared -> Prop), C i j -> Q (.int (g i j) s.toks) { s with toks := s.toks + 1 } -> wpAny (model X.prog X.w) X.A (f (.int i t) (.int j u)) Q E s) :
 OpR X f (rI C fun i j => .int (g i j)) := by
 intro pins s σ H x y v u Q I rx ry h
 obtain ⟨i, j, rfl, rfl, hc, q⟩ := h
 obtain ⟨t, rfl⟩ := rx
 obtain ⟨t', rfl⟩ := ry
 exact rule i j t t' s _ _ hc ⟨.int (g i j), H, I.tok _, ⟨_, rfl⟩, q⟩
theorem opI0 {f : Value -> Value -> Sem Value} {g : Int -> Int -> Int}
 (rule : ∀ (i j : Int) (t u : Tok) (s : Shared) (Q : Value -> Shared -> Prop) (E : Value -> Shared -> Prop), Q (.int (g i j) s.toks) { s with toks := s.toks + 1 } -> wpAny (model X.prog X.w) X.A (f (.int i t) (.int j u)) Q E s) :
 OpR X f (rI0 fun i j => .int (g i j)) := by
 intro pins s σ H x y v u Q I rx ry h
 obtain ⟨i, j, rfl, rfl, q⟩ := h
 obtain ⟨t, rfl⟩ := rx
 obtain ⟨t', rfl⟩ := ry
 exact rule i j t t' s _ _ ⟨.int (g i j), H, I.tok _, ⟨_, rfl⟩, q⟩
theorem opB0 {f : Value -> Value -> Sem Value} {g : Int -> Int -> Bool}
 (rule : ∀ (i j : Int) (t u : Tok) (s : Shared) (Q : Value -> Shared -> Prop) (E : Value -> Shared -> Prop), Q (.bool (g i j)) s -> wpAny (model X.prog X.w) X.A (f (.int i t) (.int j u)) Q E s) :
 OpR X f (rI0 fun i j => .bl (g i j)) := by
 intro pins s σ H x y v u Q I rx ry h
 obtain ⟨i, j, rfl, rfl, q⟩ := h
 obtain ⟨t, rfl⟩ := rx
 obtain ⟨t', rfl⟩ := ry
 exact rule i j t t' s _ _ ⟨.bl (g i j), H, I, rfl, q⟩
def CMul (i j : Int) : Prop := (-(2 ^ 64) < i ∧ i < 2 ^ 64) ∨ (-(2 ^ 64) < j ∧ j < 2 ^ 64)
theorem CMul.ok {i j : Int} (h : CMul i j) : IntMulOk i j := by
 rcases h with ⟨h1, h2⟩ | ⟨h1, h2⟩
 · exact .of_left (intBits_le_64 h1 h2)
 · exact .of_right (intBits_le_64 h1 h2)
theorem op_add : OpR X (binaryOp .Add) (rI0 fun i j => .int (i + j)) := opI0 fun _ _ _ _ _ _ _ q => add_int q
theorem op_sub : OpR X (binaryOp .Sub) (rI0 fun i j => .int (i - j)) := opI0 fun _ _ _ _ _ _ _ q => sub_int q
theorem op_mul : OpR X (binaryOp .Mult) (rI CMul fun i j => .int (i * j)) := opI fun _ _ _ _ _ _ _ hc q => mul_int q hc.ok
theorem op_mod : OpR X (binaryOp .Mod) (rI (fun _ j => 0 < j) fun i j => .int (i % j)) := opI fun i j _ _ _ _ _ hc q => by
 have h1 : (0 : Int) < j := hc
 exact mod_int' (by omega) (by rw [Int.fmod_eq_emod_of_nonneg i (by omega)]; exact q)
theorem unI {f : Value -> Sem Value} {g : Int -> Int}
 (rule : ∀ (i : Int) (t : Tok) (s : Shared) (Q : Value -> Shared -> Prop) (E : Value -> Shared -> Prop), Q (.int (g i) s.toks) { s with toks := s.toks + 1 } -> wpAny (model X.prog X.w) X.A (f (.int i t)) Q E s) :
 UnR X f (rU fun i => .int (g i)) := by
 intro pins s σ H x v Q I rx h
 obtain ⟨i, rfl, q⟩ := h
 obtain ⟨t, rfl⟩ := rx
 exact rule i t s _ _ ⟨.int (g i), H, I.tok _, ⟨_, rfl⟩, q⟩
theorem un_neg : UnR X (unaryOp .USub) (rU fun i => .int (-i)) := unI fun _ _ _ _ _ q => neg_int q
end
def scal : V -> V -> Bool
 | .non, .non => true | .non, .int _ => true | .int _, .non => true | .non, .bl _ => true | .bl _, .non => true | .non, .str _ => true | .str _, .non => true
 | .int _, .int _ => true | .bl _, .bl _ => true | .str _, .str _ => true | .byt _, .byt _ => true
 | .int _, .str _ => true | .str _, .int _ => true | .bl _, .str _ => true | .str _, .bl _ => true
 | _, _ => false
def rEq : R2 := fun x y H Q => scal x y = true ∧ Q (.bl (decide (x = y))) H
def rNe : R2 := fun x y H Q => scal x y = true ∧ Q (.bl (!decide (x = y))) H
theorem dec_int {i j : Int} : decide (V.int i = V.int j) = (i == j) := by
 rw [Bool.eq_iff_iff]
 simp
theorem dec_bl {i j : Bool} : decide (V.bl i = V.bl j) = (i == j) := by
 rw [Bool.eq_iff_iff]
 simp
theorem dec_str {i j : Str} : decide (V.str i = V.str j) = (i == j) := by
 rw [Bool.eq_iff_iff]
 simp
theorem dec_byt {i j : Array UInt8} : decide (V.byt i = V.byt j) = (i.toList == j.toList) := by
 rw [Bool.eq_iff_iff]
 cases i
 cases j
 simp
section
variable {X : Cx} {a b c : Expr} {ta tb tc : TE} {pos : Pos}
theorem fin_bl {pins : List (Addr × Obj)} {σ : St} {H : Hp} {s : Shared} {Q : VK} {k k' : Bool} (I : Inv X pins σ H s) (q : Q (.bl k) H) (e : k = k') : EP X pins σ Q (.bool k') s := by
 subst e
 exact ⟨.bl k, H, I, rfl, q⟩
theorem op_eq : OpR X (compareOp .Eq) rEq := by
 intro pins s σ H x y v u Q I rx ry h
 obtain ⟨hs, q⟩ := h
 cases x with
 | non =>
  cases rx
  cases y with
  | non => cases ry; exact PySem.EqNone.eq_none_none (fin_bl I q (by simp))
  | bl j => cases ry; exact PySem.EqNone.eq_none_bool (fin_bl I q (by simp))
  | int j => obtain ⟨t', rfl⟩ := ry; exact PySem.EqNone.eq_none_int (fin_bl I q (by simp))
  | str j => obtain ⟨t', rfl⟩ := ry; exact PySem.EqNone.eq_none_str (fin_bl I q (by simp))
  | _ => exact absurd (show false = true from hs) Bool.false_ne_true
 | bl i =>
  cases rx
  cases y with
  | non => cases ry; exact PySem.EqNone.eq_bool_none (fin_bl I q (by simp))
  | bl j => cases ry; exact eq_bool (fin_bl I q dec_bl)
  | str j => obtain ⟨t', rfl⟩ := ry; exact PySem.EqMixed.eq_bool_str (fin_bl I q (by simp))
  | _ => exact absurd (show false = true from hs) Bool.false_ne_true
 | int i =>
  obtain ⟨t, rfl⟩ := rx
  cases y with
  | non => cases ry; exact PySem.EqNone.eq_int_none (fin_bl I q (by simp))
  | int j => obtain ⟨t', rfl⟩ := ry; exact eq_int (fin_bl I q dec_int)
  | str j => obtain ⟨t', rfl⟩ := ry; exact PySem.EqMixed.eq_int_str (fin_bl I q (by simp))
  | _ => exact absurd (show false = true from hs) Bool.false_ne_true
 | str i =>
  obtain ⟨t, rfl⟩ := rx
  cases y with
  | non => cases ry; exact PySem.EqNone.eq_str_none (fin_bl I q (by simp))
  | bl j => cases ry; exact PySem.EqMixed.eq_str_bool (fin_bl I q (by simp))
  | int j => obtain ⟨t', rfl⟩ := ry; exact PySem.EqMixed.eq_str_int (fin_bl I q (by simp))
  | str j => obtain ⟨t', rfl⟩ := ry; exact eq_str (fin_bl I q dec_str)
  | _ => exact absurd (show false = true from hs) Bool.false_ne_true
 | byt i =>
  obtain ⟨t, rfl⟩ := rx
  cases y with
  | byt j => obtain ⟨t', rfl⟩ := ry; exact PySem.W.eq_bytes (fin_bl I q dec_byt)
  | _ => exact absurd (show false = true from hs) Bool.false_ne_true
 | _ => cases y <;> exact absurd (show false = true from hs) Bool.false_ne_true
theorem op_ne : OpR X (compareOp .NotEq) rNe := by
 intro pins s σ H x y v u Q I rx ry h
 obtain ⟨hs, q⟩ := h
 cases x with
 | non =>
  cases rx
  cases y with
  | non => cases ry; exact PySem.EqNone.ne_none_none (fin_bl I q (by simp))
  | bl j => cases ry; exact PySem.EqNone.ne_none_bool (fin_bl I q (by simp))
  | int j => obtain ⟨t', rfl⟩ := ry; exact PySem.EqNone.ne_none_int (fin_bl I q (by simp))
  | str j => obtain ⟨t', rfl⟩ := ry; exact PySem.EqNone.ne_none_str (fin_bl I q (by simp))
  | _ => exact absurd (show false = true from hs) Bool.false_ne_true
 | bl i =>
  cases rx
  cases y with
  | non => cases ry; exact PySem.EqNone.ne_bool_none (fin_bl I q (by simp))
  | bl j => cases ry; exact ne_bool (fin_bl I q (congrArg not dec_bl))
  | str j => obtain ⟨t', rfl⟩ := ry; exact PySem.EqMixed.ne_bool_str (fin_bl I q (by simp))
  | _ => exact absurd (show false = true from hs) Bool.false_ne_true
 | int i =>
  obtain ⟨t, rfl⟩ := rx
  cases y with
  | non => cases ry; exact PySem.EqNone.ne_int_none (fin_bl I q (by simp))
  | int j => obtain ⟨t', rfl⟩ := ry; exact ne_int (fin_bl I q (congrArg not dec_int))
  | str j => obtain ⟨t', rfl⟩ := ry; exact PySem.EqMixed.ne_int_str (fin_bl I q (by simp))
  | _ => exact absurd (show false = true from hs) Bool.false_ne_true
 | str i =>
  obtain ⟨t, rfl⟩ := rx
  cases y with
  | non => cases ry; exact PySem.EqNone.ne_str_none (fin_bl I q (by simp))
  | bl j => cases ry; exact PySem.EqMixed.ne_str_bool (fin_bl I q (by simp))
  | int j => obtain ⟨t', rfl⟩ := ry; exact PySem.EqMixed.ne_str_int (fin_bl I q (by simp))
  | str j => obtain ⟨t', rfl⟩ := ry; exact ne_str (fin_bl I q (congrArg not dec_str))
  | _ => exact absurd (show false = true from hs) Bool.false_ne_true
 | byt i =>
  obtain ⟨t, rfl⟩ := rx
  cases y with
  | byt j => obtain ⟨t', rfl⟩ := ry; exact PySem.W.ne_bytes (fin_bl I q (congrArg not dec_byt))
  | _ => exact absurd (show false = true from hs) Bool.false_ne_true
 | _ => cases y <;> exact absurd (show false = true from hs) Bool.false_ne_true
theorem op_lt : OpR X (compareOp .Lt) (rI0 fun i j => .bl (decide (i < j))) := opB0 fun _ _ _ _ _ _ _ q => lt_int q
theorem op_gt : OpR X (compareOp .Gt) (rI0 fun i j => .bl (decide (j < i))) := opB0 fun _ _ _ _ _ _ _ q => gt_int q
theorem op_in_str : OpR X (compareOp .In) (fun x y H Q => ∃ i j, x = .str i ∧ y = .str j ∧ Q (.bl (!(Builtin.Str.occurrences j i 0 j.length 1).isEmpty)) H) := by
 intro pins s σ H x y v u Q I rx ry h
 obtain ⟨i, j, rfl, rfl, q⟩ := h
 obtain ⟨t, rfl⟩ := rx
 obtain ⟨t', rfl⟩ := ry
 exact in_str (fin_bl I q rfl)
theorem op_isN : OpR X (compareOp .Is) (fun x y H Q => y = .non ∧ Q (.bl (decide (x = .non))) H) := by
 intro pins s σ H x y v u Q I rx ry h
 obtain ⟨rfl, q⟩ := h
 cases ry
 refine is_none_gen (fin_bl I q ?_)
 cases x <;> first
  | (cases rx; rfl)
  | (obtain ⟨t, rfl⟩ := rx; rfl)
theorem op_notN : OpR X (compareOp .IsNot) (fun x y H Q => y = .non ∧ Q (.bl (!decide (x = .non))) H) := by
 intro pins s σ H x y v u Q I rx ry h
 obtain ⟨rfl, q⟩ := h
 cases ry
 refine isnot_none_gen (fin_bl I q ?_)
 cases x <;> first
  | (cases rx; rfl)
  | (obtain ⟨t, rfl⟩ := rx; rfl)
theorem nomark (b : Expr) {op : CmpOp} (h : op ≠ .In := by decide) (h2 : op ≠ .NotIn := by decide) : behindInMarks op b = false := by
 have e1 : (op == CmpOp.In) = false := by cases op <;> first | rfl | exact absurd rfl h
 have e2 : (op == CmpOp.NotIn) = false := by cases op <;> first | rfl | exact absurd rfl h2
 cases b <;> simp [behindInMarks, e1, e2]
theorem pe_cmpR {op : CmpOp} {r : R2} (ho : OpR X (compareOp op) r) (ha : PE X a ta) (hb : PE X b tb) (hm : behindInMarks op b = false) : PE X (.Compare a [op] [b] pos) (tOp r ta tb) := by
 intro pins s σ H Q I h
 exact wpAny_Compare1 (binT ha hb I h fun v u s2 x y H2 I2 rx ry q => ho pins s2 σ H2 x y v u Q I2 rx ry q) hm
def tTest (t : TE) : TT := fun σ H Q => t σ H fun x H' => ∃ k, x = .bl k ∧ Q k H'
theorem pt_cmpR {op : CmpOp} {r : R2} (ho : OpR X (compareOp op) r) (ha : PE X a ta) (hb : PE X b tb) (hm : behindInMarks op b = false) : PT X (.Compare a [op] [b] pos) (tTest (tOp r ta tb)) := by
 intro pins s σ H Q I h
 refine wpAny_isTrue_Compare1 (thn (ha pins s σ H _ I h) fun v s1 ⟨x, H1, I1, r1, q1⟩ => thn (hb pins s1 σ H1 _ I1 q1) fun u s2 ⟨y, H2, I2, r2, q2⟩ =>
  thn (ho pins s2 σ H2 x y v u _ I2 r1 r2 q2) fun c s3 ⟨z, H3, I3, r3, k, e, q3⟩ => ?_) hm
 subst e
 cases r3
 exact wpAny_truthy_bool ⟨H3, I3, q3⟩
theorem line63 : (sizeLine : Nat) < 2 ^ 63 := by rw [sizeLine_eq]; decide
theorem op_add_str : OpR X (binaryOp .Add) (fun x y H Q => ∃ i j, x = .str i ∧ y = .str j ∧ i.length + j.length <= sizeLine ∧ Q (.str (i ++ j)) H) := by
 intro pins s σ H x y v u Q I rx ry h
 obtain ⟨i, j, rfl, rfl, hz, q⟩ := h
 obtain ⟨t, rfl⟩ := rx
 obtain ⟨t', rfl⟩ := ry
 exact add_str (fun t' tk => ⟨.str (i ++ j), H, I.tok _, ⟨_, rfl⟩, q⟩) hz
theorem vals1 {x : V} {us : List Value} (r : Vals [x] us) : ∃ u, us = [u] ∧ RelV x u := by
 cases r with
 | cons r1 r2 => cases r2; exact ⟨_, rfl, r1⟩
theorem vals2 {x y : V} {us : List Value} (r : Vals [x, y] us) : ∃ u w', us = [u, w'] ∧ RelV x u ∧ RelV y w' := by
 cases r with
 | cons r1 r2 =>
  cases r2 with
  | cons r3 r4 => cases r4; exact ⟨_, _, rfl, r1, r3⟩
theorem call_max2 (hc : X.calm = true) : CallR X (.builtin "max") (fun xs H Q => ∃ i j, xs = [.int i, .int j] ∧ Q (.int (if j > i then j else i)) H) := by
 intro pins s σ H xs us Q I r h
 obtain ⟨i, j, rfl, q⟩ := h
 obtain ⟨u, w', rfl, ⟨t, rfl⟩, ⟨t', rfl⟩⟩ := vals2 r
 refine max_two_ints (I.ok.hd hc) fun h' tk k => ⟨_, H, I.kept k, ?_, q⟩
 by_cases hj : j > i
 · rw [if_pos hj, if_pos hj]; exact ⟨_, rfl⟩
 · rw [if_neg hj, if_neg hj]; exact ⟨_, rfl⟩
theorem call_int1 : CallR X (.type "int") (fun xs H Q => (∃ i, xs = [.int i] ∧ Q (.int i) H) ∨ ∃ k, xs = [.bl k] ∧ Q (.int (if k then 1 else 0)) H) := by
 intro pins s σ H xs us Q I r h
 rcases h with ⟨i, rfl, q⟩ | ⟨k, rfl, q⟩
 · obtain ⟨u, rfl, t, rfl⟩ := vals1 r
   exact call_int_int ⟨.int i, H, I, ⟨_, rfl⟩, q⟩
 · obtain ⟨u, rfl, r1⟩ := vals1 r
   cases r1
   exact call_int_bool ⟨.int (if k then 1 else 0), H, I.tok _, ⟨_, rfl⟩, q⟩
theorem call_str_int : CallR X (.type "str") (fun xs H Q => ∃ i, xs = [.int i] ∧ i.natAbs.log2 < 1920 ∧ Q (.str (toString i)) H) := by
 intro pins s σ H xs us Q I r h
 obtain ⟨i, rfl, hz, q⟩ := h
 obtain ⟨u, rfl, t, rfl⟩ := vals1 r
 exact PySem.P.str_of_int hz ⟨.str _, H, I.tok _, ⟨_, rfl⟩, q⟩
end
end L2
namespace L2
open PySem PySem.Spec PyProof.Rows
theorem RelO.some_of {v : V} {o : Option Value} (r : RelO (some v) o) : ∃ u, o = some u ∧ RelV v u := by
 cases o with
 | none => exact (show False from r).elim
 | some u => exact ⟨u, rfl, r⟩
section
variable {X : Cx} {pins : List (Addr × Obj)} {σ : St} {H : Hp} {s : Shared} {a C dx : Addr} {fs : List (Str × V)} {f : Str} {v : V} {A : Around} {E : Value -> Shared -> Prop}
theorem attr_of {prog : Program} {w : World} {env : Env} {e : Expr} {f : Str} {pos : Pos} {s : Shared} {Q : Value -> Shared -> Prop} (hb : attributeBase e f env (eval e env) = eval e env)
 (h : wpAny (model prog w) A (eval e env) (fun o s₁ => wpAny (model prog w) A (getAttr o f true) Q E s₁) E s) : wpAny (model prog w) A (eval (.Attribute e f pos) env) Q E s :=
 Attribute_any_ h (by rw [arm_eval_Attribute, hb])
end
end L2
namespace L2
open PySem PySem.Spec PyProof.Rows
structure Room (k : Nat) (A : Around) : Prop where
 hd : A.handled = none
 dp : A.depth + 3 * k + 5 < recursionLimit
 un : A.units + 16 * k + 200 < cLine
theorem Room.mono {j k : Nat} {A : Around} (r : Room k A) (h : j <= k) : Room j A := ⟨r.hd, by have := r.dp; omega, by have := r.un; omega⟩
theorem Room.deeper {k : Nat} {A : Around} (r : Room (k + 1) A) (env : Env) : Room k (A.deeper env) :=
 ⟨r.hd, by have := r.dp; show A.depth + 1 + 3 * k + 5 < _; omega, by have := r.un; show A.units + 3 + 16 * k + 200 < _; omega⟩
theorem make_depth {A : Around} {C : Addr} {us : List Value} {kw : List (Str × Value)} : (A.under (.builtin "type.__call__" ⟨.ref C :: us, kw⟩)).depth = A.depth + 1 := by
 first | rfl | simp [Around.under, Code.weight, Code.isCreation, Code.isGuard, Code.isCaller, Code.frames, Code.isFrame, guardIds]
theorem make_units {A : Around} {C : Addr} {us : List Value} {kw : List (Str × Value)} : (A.under (.builtin "type.__call__" ⟨.ref C :: us, kw⟩)).units = A.units + 1 := by
 first | rfl | simp [Around.under, Code.cUnits, Code.frames, Code.isFrame]
theorem Room.make {k : Nat} {A : Around} (r : Room (k + 1) A) (C : Addr) (us : List Value) (kw : List (Str × Value)) : Room k (A.under (.builtin "type.__call__" ⟨.ref C :: us, kw⟩)) :=
 ⟨r.hd, by have := r.dp; rw [make_depth]; omega, by have := r.un; rw [make_units]; omega⟩
theorem Room.depth {k : Nat} {A : Around} (r : Room k A) : A.depth < recursionLimit := by have := r.dp; omega
theorem Room.units {k : Nat} {A : Around} (r : Room k A) : A.units + 64 < cLine := by have := r.un; omega
def tNil : TA := fun _ H Q => Q [] H
def tCons (ta : TE) (tr : TA) : TA := fun σ H Q => ta σ H fun x H1 => tr σ H1 fun xs H2 => Q (x :: xs) H2
section
variable {X : Cx} {e : Expr} {es : List Expr} {te : TE} {t : TA} {pos : Pos}
theorem pa_nil : PA X [] tNil := fun _ _ _ _ H Q I h => Calls.spliced_nil ⟨[], H, I, .nil, h⟩
theorem pa_cons (ha : PE X e te) (hr : PA X es t) (hs : starEach (e :: es) X.env = (false, eval e X.env) :: starEach es X.env := by rfl) : PA X (e :: es) (tCons te t) := by
 intro pos pins s σ H Q I h
 rw [hs]
 show wpAny _ _ (spliced ((false, eval e X.env) :: backTo pos (starEach es X.env))) _ _ s
 refine Calls.spliced_cons (thn (ha pins s σ H _ I h) fun u s1 ⟨x, H1, I1, r1, q1⟩ => ?_)
 exact thn (hr pos pins s1 σ H1 _ I1 q1) fun us s2 ⟨xs, H2, I2, r2, q2⟩ => ⟨x :: xs, H2, I2, .cons r1 r2, q2⟩
def tTup (t : TA) : TE := fun σ H Q => t σ H fun xs H1 => xs.length <= sizeLine ∧ ∀ p, H1 p = none -> Q (.ref p) (upd H1 p (.tup xs))
def tLst (t : TA) : TE := fun σ H Q => t σ H fun xs H1 => xs.length <= sizeLine ∧ ∀ p, H1 p = none -> Q (.ref p) (upd H1 p (.lst xs))
theorem pe_tup {x1} (h : PA X es t) : PE X (.Tuple es x1 pos) (tTup t) := by
 intro pins s σ H Q I hq
 refine wpAny_Tuple_spliced (thn (h pos pins s σ H _ I hq) fun us s1 ⟨xs, H1, I1, r, z, q⟩ => ⟨by rw [<- r.length]; exact z, ?_⟩)
 have hf : H1 s1.heap.objs.size = none := I1.hok.fresh (Nat.le_refl _)
 refine ⟨.ref s1.heap.objs.size, upd H1 s1.heap.objs.size (.tup xs), I1.laid (t' := s1.toks) (fun b u e => Heap.get?_push_of_some _ e) (Nat.le_refl _) ?_, rfl, q _ hf⟩
 exact ⟨z, us, r, ⟨_, Heap.get?_push_size _ rfl, rfl, _, rfl⟩⟩
theorem pe_lst (h : PA X es t) : PE X (.List es pos) (tLst t) := by
 intro pins s σ H Q I hq
 refine wpAny_List_spliced (thn (h pos pins s σ H _ I hq) fun us s1 ⟨xs, H1, I1, r, z, q⟩ => ⟨by rw [<- r.length]; exact z, ?_⟩)
 have hf : H1 s1.heap.objs.size = none := I1.hok.fresh (Nat.le_refl _)
 refine ⟨.ref s1.heap.objs.size, upd H1 s1.heap.objs.size (.lst xs), I1.laid (t' := s1.toks) (fun b u e => Heap.get?_push_of_some _ e) (Nat.le_refl _) ?_, rfl, q _ hf⟩
 exact ⟨z, us, 0, r, Heap.get?_push_size _ rfl⟩
end
abbrev Sp := List V -> Hp -> VK -> XK -> Prop
abbrev CXT := List Env -> Hp -> Shared -> XK -> Value -> Shared -> Prop
structure Env0 (P : Program) (w : World) (K : PySem.W.Frag) (mg : Str -> Option Value) (base : Heap) (A : Around) (outer : List Env) (s : Shared) (H : Hp) : Prop where
 frames : A.frames = some outer
 mod : Mod K mg base
 bs : ∀ b o, base.get? b = some o -> s.heap.get? b = some o ∧ H b = none
 bsz : base.objs.size <= s.heap.objs.size
 funs : s.heap.FunFrames base outer
 frf : ∀ b ∈ frs outer, H b = none
 hok : HOk P w H s.heap
 bare : AllBare s.gens
def CE (outer : List Env) (P : Program) (w : World) (H : Hp) (s : Shared) (Q : VK) (u : Value) (s' : Shared) : Prop :=
 ∃ v H', s'.os = s.os ∧ AllBare s'.gens ∧ Un (frs outer) [] H H' s.heap s'.heap ∧ HOk P w H' s'.heap ∧ RelV v u ∧ Q v H'
def CR (CX : CXT) (outer : List Env) (P : Program) (w : World) (H : Hp) (s : Shared) (Q : VK) (E : XK) (r : Result) (s' : Shared) : Prop :=
 match r with
 | .ok (.ret u) => CE outer P w H s Q u s'
 | .ok _ => False
 | .error e => CX outer H s E e s'
structure FnOk (P : Program) (w : World) (K : PySem.W.Frag) (mg : Str -> Option Value) (base : Heap) (CX : CXT) (k : Nat) (f : Addr) (fd : FuncData) (ps : List Str) (sp : Sp) : Prop where
 len : ∀ vs H Q E, sp vs H Q E -> vs.length = ps.length
 run : ∀ (A : Around) (outer : List Env) (s : Shared) (H : Hp) (args : Args) (us : List Value) (vs : List V) (Q : VK) (E : XK), Room k A -> Env0 P w K mg base A outer s H -> BindsTo s fd args (ps.zip us) -> Vals vs us -> sp vs H Q E ->
  codeAny (model P w) A (.call (.ref f) args) (CR CX outer P w H s Q E) s
theorem FnOk.imp {P : Program} {w : World} {K : PySem.W.Frag} {mg : Str -> Option Value} {base : Heap} {CX : CXT} {k : Nat} {f : Addr} {fd : FuncData} {ps : List Str} {sp sp' : Sp} (F : FnOk P w K mg base CX k f fd ps sp)
 (h : ∀ vs H Q E, sp' vs H Q E -> sp vs H Q E) : FnOk P w K mg base CX k f fd ps sp' :=
 ⟨fun vs H Q E q => F.len vs H Q E (h _ _ _ _ q), fun A outer s H args us vs Q E hr he hb hv hs => F.run A outer s H args us vs Q E hr he hb hv (h _ _ _ _ hs)⟩
section
variable {X : Cx} {pins : List (Addr × Obj)} {σ : St} {H : Hp} {s s' : Shared}
theorem Inv.env0 (I : Inv X pins σ H s) : Env0 X.prog X.w X.K X.mg X.base X.A X.stack s H :=
 ⟨I.ok.frames, I.ok.mod, I.bs, Nat.le_trans I.ok.bsz I.sz, I.stack, I.stkFree, I.hok, I.bare⟩
theorem Inv.after {Q : VK} {u : Value} (I : Inv X pins σ H s) (h : CE X.stack X.prog X.w H s Q u s') : EP X pins σ Q u s' := by
 obtain ⟨v, H', os, bare, un, hok, r, q⟩ := h
 obtain ⟨hh, g, d, t, os'⟩ := s'
 obtain rfl : os' = s.os := os
 exact ⟨v, H', I.call (h' := hh) (g' := g) (d' := d) (t' := t) (ch := []) un hok bare (fun b z => absurd z (by simp)), r, q⟩
end
def tCall (sp : Sp) (dvs : List V) (E : XK) (t : TA) : TE := fun σ H Q => t σ H fun vs H1 => sp (vs ++ dvs) H1 Q E
def Binds (K : PySem.W.Frag) (fd : FuncData) (ps : List Str) (ds : List Value) : Prop :=
 ∀ (s : Shared) (us : List Value), K.In s.heap -> (us ++ ds).length = ps.length -> BindsTo s fd ⟨us, []⟩ (ps.zip (us ++ ds))
theorem Binds.all {K : PySem.W.Frag} {fd : FuncData} {ps : List Str} (h : ∀ us : List Value, us.length = ps.length -> bindArgs fd ⟨us, []⟩ = pure (ps.zip us)) : Binds K fd ps [] := fun s us _ hl => by
 rw [List.append_nil] at hl ⊢
 exact .of_eq (h us hl)
def Passes (CX : CXT) (X : Cx) (E : XK) : Prop := ∀ (pins : List (Addr × Obj)) (σ : St) (H : Hp) (s : Shared) (e : Value) (s' : Shared), Inv X pins σ H s -> CX X.stack H s E e s' -> X.xe e s'
section
variable {X : Cx} {CX : CXT} {k : Nat} {f C : Addr} {fd : FuncData} {ps : List Str} {sp : Sp} {dvs : List V} {ds : List Value} {E : XK} {x m : Str} {p pos apos : Pos} {e o : Expr} {es : List Expr} {ta : TE} {t : TA}
theorem run_fn {pins : List (Addr × Obj)} {σ : St} {H : Hp} {s : Shared} {Q : VK} {us : List Value} {vs : List V} (F : FnOk X.prog X.w X.K X.mg X.base CX k f fd ps sp) (hr : Room k X.A) (hb : Binds X.K fd ps ds) (hd : Vals dvs ds) (hx : Passes CX X E)
 (I : Inv X pins σ H s) (r : Vals vs us) (h : sp (vs ++ dvs) H Q E) : wpAny (model X.prog X.w) X.A (call (.ref f) us) (EP X pins σ Q) X.xe s := by
 have r2 : Vals (vs ++ dvs) (us ++ ds) := r.append hd
 have hl : (us ++ ds).length = ps.length := by rw [<- r2.length]; exact F.len _ _ _ _ h
 refine wpAny_call (codeAny_mono (F.run X.A X.stack s H ⟨us, []⟩ (us ++ ds) (vs ++ dvs) Q E hr I.env0 (hb s us I.kIn hl) r2 h) fun r s' hq => ?_)
 cases r with
 | error e => exact hx pins σ H s e s' I hq
 | ok fl =>
  cases fl with
  | ret u => exact I.after hq
  | next => exact False.elim hq
  | brk => exact False.elim hq
  | cont => exact False.elim hq
theorem pe_call (F : FnOk X.prog X.w X.K X.mg X.base CX k f fd ps sp) (hr : Room k X.A) (hg : Gl X x) (hm : X.mg x = some (.ref f)) (hk : PySem.W.keepIn X.K (.ref f) = true) (hb : Binds X.K fd ps ds) (hd : Vals dvs ds) (hx : Passes CX X E)
 (ha : PA X (e :: es) t) (hdb : (x == ("__debug__" : Str)) = false := by decide) (he : starEach (e :: es) X.env = (false, eval e X.env) :: starEach es X.env := by rfl) (hpl : (backTo pos (starEach es X.env)).any (·.1) = false := by rfl) :
 PE X (.Call (.Name x p) (e :: es) [] pos) (tCall sp dvs E t) := by
 intro pins s σ H Q I h
 refine wpAny_Call_Name_kw (ld_glob I hg hm ?_ hdb)
 refine PySem.W.callWith_K (h₀ := X.base) I.ok.mod.kin hk (thn (ha pos pins s σ H _ I h) fun us s1 ⟨vs, H1, I1, r, q⟩ => ⟨I1.kIn, ?_⟩) he hpl
 exact run_fn F hr hb hd hx I1 r q
end
structure FnScope (N P : List Str) (sc : Scope) : Prop where
 kind : sc.kind = .function
 co : sc.isCoroutine = false
 gen : sc.isGenerator = false
 nd : N.Nodup
 pre : N.take P.length = P
 par : ∀ x ∈ P, sc.names.lookup x = some .local ∨ sc.names.lookup x = some .cell
 nofree : ∀ y ∈ sc.names, y.2 ≠ .free
theorem bindL_out {kindOf : Str -> Option NameKind} {x : Str} : ∀ {binds : List (Str × Value)} {m : Str -> Option Value}, (∀ v, (x, v) ∉ binds) -> bindL kindOf binds m x = m x
 | [], _, _ => rfl
 | (n, v) :: r, m, h => by
  unfold bindL
  rw [bindL_out fun w hw => h w (List.mem_cons_of_mem _ hw)]
  split
  · have : x ≠ n := by rintro rfl; exact h v List.mem_cons_self
    simp [this]
  · rfl
theorem bindC_out {kindOf : Str -> Option NameKind} {x : Str} : ∀ {binds : List (Str × Value)} {m : Str -> Option Value}, (∀ v, (x, v) ∉ binds) -> bindC kindOf binds m x = m x
 | [], _, _ => rfl
 | (n, v) :: r, m, h => by
  unfold bindC
  rw [bindC_out fun w hw => h w (List.mem_cons_of_mem _ hw)]
  split
  · rfl
  · have : x ≠ n := by rintro rfl; exact h v List.mem_cons_self
    simp [this]
theorem bindL_get {kindOf : Str -> Option NameKind} {x : Str} {v : Value} : ∀ {P : List Str} {vs : List Value} {i : Nat} {m : Str -> Option Value}, P.Nodup -> P[i]? = some x -> vs[i]? = some v -> kindOf x = some .local ->
 bindL kindOf (P.zip vs) m x = some v
 | [], _, _, _, _, h, _, _ => by simp at h
 | _ :: _, [], _, _, _, _, h, _ => by simp at h
 | p :: P, w :: vs, 0, m, nd, h1, h2, hk => by
  simp at h1 h2; subst h1; subst h2
  show bindL kindOf ((p, w) :: P.zip vs) m p = _
  unfold bindL
  rw [bindL_out fun v hv => (List.nodup_cons.mp nd).1 (List.of_mem_zip hv).1, if_pos hk]
  simp
 | p :: P, w :: vs, i + 1, m, nd, h1, h2, hk => by
  show bindL kindOf ((p, w) :: P.zip vs) m x = _
  unfold bindL
  exact bindL_get (i := i) (List.nodup_cons.mp nd).2 (by simpa using h1) (by simpa using h2) hk
theorem bindC_get {kindOf : Str -> Option NameKind} {x : Str} {v : Value} : ∀ {P : List Str} {vs : List Value} {i : Nat} {m : Str -> Option Value}, P.Nodup -> P[i]? = some x -> vs[i]? = some v -> kindOf x ≠ some .local ->
 bindC kindOf (P.zip vs) m x = some v
 | [], _, _, _, _, h, _, _ => by simp at h
 | _ :: _, [], _, _, _, _, h, _ => by simp at h
 | p :: P, w :: vs, 0, m, nd, h1, h2, hk => by
  simp at h1 h2; subst h1; subst h2
  show bindC kindOf ((p, w) :: P.zip vs) m p = _
  unfold bindC
  rw [bindC_out fun v hv => (List.nodup_cons.mp nd).1 (List.of_mem_zip hv).1, if_neg hk]
  simp
 | p :: P, w :: vs, i + 1, m, nd, h1, h2, hk => by
  show bindC kindOf ((p, w) :: P.zip vs) m x = _
  unfold bindC
  exact bindC_get (i := i) (List.nodup_cons.mp nd).2 (by simpa using h1) (by simpa using h2) hk
def start (N : List Str) (vs : List V) : St := vs.map some ++ List.replicate (N.length - vs.length) none
def cxOf (CX : CXT) (P : Program) (w : World) (K : PySem.W.Frag) (mg : Str -> Option Value) (base : Heap) (N : List Str) (qual : Str) (scope : Scope) (f : Addr) (cd : Value) (A : Around) (outer : List Env) (s : Shared) (H : Hp) (E : XK) : Cx where
 prog := P
 w := w
 K := K
 mg := mg
 base := base
 A := A.deeper (envOfC qual scope s.heap.objs.size f cd)
 N := N
 s₀ := s
 H₀ := H
 env := envOfC qual scope s.heap.objs.size f cd
 outer := outer
 stack := envOfC qual scope s.heap.objs.size f cd :: outer
 ex := []
 calm := true
 fn := fun _ => true
 pn := []
 xe := fun e s' => wpAny (model P w) (A.deeper (envOfC qual scope s.heap.objs.size f cd)) (leaving (envOfC qual scope s.heap.objs.size f cd) e) (fun _ s'' => CX outer H s E e s'') (fun e' s'' => CX outer H s E e' s'') s'
theorem cell_has {sc : Scope} {n : Nat} {x : Str} (h : sc.names.lookup x = some .cell) : ∃ c, (cellsFrom n sc.names []).lookup x = some c := by
 have q := PySem.W.cellsFrom_some sc.names n [] (.inl h)
 exact Option.isSome_iff_exists.mp q
theorem inv_start {CX : CXT} {P : Program} {w : World} {K : PySem.W.Frag} {mg : Str -> Option Value} {base : Heap} {N ps : List Str} {qual : Str} {scope : Scope} {f : Addr} {cd : Value} {A : Around} {outer : List Env} {s s1 : Shared} {H : Hp} {E : XK} {us : List Value} {vs : List V}
 (S : FnScope N ps scope) (hd : A.handled = none) (e0 : Env0 P w K mg base A outer s H) (hl : vs.length = ps.length) (r : Vals vs us)
 (x : InCallC s s.heap.objs.size (bindL (envOfC qual scope s.heap.objs.size f cd).kindOf (ps.zip us) fun _ => none) (cellsFrom (s.heap.objs.size + 1) scope.names []) (bindC (envOfC qual scope s.heap.objs.size f cd).kindOf (ps.zip us) fun _ => none) s1) :
 Inv (cxOf CX P w K mg base N qual scope f cd A outer s H E) [] (start N vs) H s1 := by
 have hpl : ps.length <= N.length := by have := congrArg List.length S.pre; rw [List.length_take] at this; omega
 obtain ⟨h1, tk, rfl, hk⟩ := x.done
 have noA : ∀ b : Addr, b ∉ (cxOf CX P w K mg base N qual scope f cd A outer s H E).ex := fun b z => absurd (show b ∈ ([] : List Addr) from z) (by simp)
 refine ⟨⟨e0.mod, S.kind, rfl, rfl, Nat.le_refl _, fun y z c h1 h2 => ?_, fun y hy => ?_, fun y c _ h => ?_, fun _ => hd, Around.frames_deeper e0.frames, .inr ⟨rfl, rfl⟩, fun b z => absurd z (noA b), e0.bs, e0.bsz, fun b _ _ => noA b, fun b z => absurd z (noA b), e0.funs, e0.frf⟩,
  rfl, e0.bare, Un.kept hk, ⟨_, x.toInCall.ns, fun i y v h1 h2 h3 => ?_⟩, fun y c h => ⟨_, x.cell y c h⟩, e0.hok.fresh (Nat.le_refl _), fun y c h => ?_, fun p hp => absurd (show p ∈ ([] : List (Addr × Obj)) from hp) (by simp), e0.hok.kept hk, ?_⟩
 · exact name_of_addr x.apart (PySem.mem_of_lookup h1) (PySem.mem_of_lookup h2)
 · have hy : scope.names.lookup y = some .cell ∨ scope.names.lookup y = some .free := hy
   rcases hy with hy | hy
   · exact cell_has hy
   · exact absurd rfl (S.nofree _ (PySem.mem_of_lookup hy))
 · exact Nat.le_of_lt (x.above y c (PySem.mem_of_lookup h))
 · have hi : i < vs.length := by
    unfold start at h2
    by_cases hi : i < vs.length
    · exact hi
    · rw [List.getElem?_append_right (by simpa using hi)] at h2
      rw [List.getElem?_replicate] at h2
      split at h2 <;> cases h2
   have ha : vs[i]? = some v := by
    unfold start at h2
    rw [List.getElem?_append_left (by simpa using hi), List.getElem?_map] at h2
    cases e : vs[i]? with
    | none => rw [e] at h2; cases h2
    | some a => rw [e] at h2; cases h2; rfl
   obtain ⟨u, hu, rv⟩ := r.get ha
   have hp : ps[i]? = some y := by
    rw [<- S.pre, List.getElem?_take_of_lt (by omega)]; exact h1
   have ndP : ps.Nodup := by rw [<- S.pre]; exact S.nd.sublist (List.take_sublist _ _)
   refine ⟨u, rv, ?_⟩
   rcases S.par y (List.mem_of_getElem? hp) with k | k
   · exact .inl ⟨k, bindL_get ndP hp hu k⟩
   · obtain ⟨c, e⟩ := cell_has (n := s.heap.objs.size + 1) k
     refine .inr ⟨.inl k, c, e, ?_⟩
     have q := x.cell y c e
     rw [bindC_get ndP hp hu (by show scope.names.lookup y ≠ _; rw [k]; decide)] at q
     exact q
 · exact e0.hok.fresh (Nat.le_of_lt (x.above y c (PySem.mem_of_lookup h)))
 · unfold start
   show _ = N.length
   rw [List.length_append, List.length_map, List.length_replicate]
   omega
theorem fn_of {CX : CXT} {P : Program} {w : World} {K : PySem.W.Frag} {mg : Str -> Option Value} {base : Heap} {k : Nat} {f : Addr} {name qual : Str} {params : Arguments} {body : List Stmt} {scope : Scope} {dV kV doc pm cdv ct oc : Value} {an od : Option Addr}
 {osl : Array (Option Value)} {N ps : List Str} {sp : Sp} (lk : K.lookup f = some ⟨oc, od, .func (PySem.W.fnOf name qual params body scope dV kV doc pm an cdv ct), osl⟩) (hcd : PySem.W.codeIn K cdv qual = true) (S : FnScope N ps scope)
 (len : ∀ vs H Q E, sp vs H Q E -> vs.length = ps.length)
 (hbody : ∀ (A : Around) (outer : List Env) (s : Shared) (H : Hp) (vs : List V) (Q : VK) (E : XK), Room k (A.deeper (envOfC qual scope s.heap.objs.size f cdv)) -> sp vs H Q E ->
  ∃ t, PSs (cxOf CX P w K mg base N qual scope f cdv A outer s H E) body t ∧ t { nx := fun _ H' => Q .non H', rt := Q } (start N vs) H) :
 FnOk P w K mg base CX (k + 1) f (PySem.W.fnOf name qual params body scope dV kV doc pm an cdv ct) ps sp := by
 refine ⟨len, fun A outer s H args us vs Q E hr e0 hb r hsp => ?_⟩
 have hl := len _ _ _ _ hsp
 have KX : K.In s.heap := e0.mod.kin.keeps fun b o e => (e0.bs b o e).1
 have lim : s.heap.NoLimit := e0.mod.nolimit.keeps fun b o e => (e0.bs b o e).1
 have hkind : ∀ y ∈ ps.zip us, scope.names.lookup y.1 = some .local ∨ (scope.names.lookup y.1 = some .cell ∧ ((cellsFrom (s.heap.objs.size + 1) scope.names []).lookup y.1).isSome = true) := fun ⟨n, v⟩ hy => by
  rcases S.par n (List.of_mem_zip hy).1 with q | q
  · exact .inl q
  · exact .inr ⟨q, PySem.W.cellsFrom_some _ _ _ (.inl q)⟩
 refine codeAny_call_function hr.depth (KX _ _ lk) rfl S.co S.gen rfl (PySem.W.codeRec_of KX hcd) (hb _ _ _ _ ?_)
 refine wpAny_newFunctionEnv_cells S.kind hkind fun env he s1 x => ?_
 subst he
 refine ⟨lim.keeps x.toInCall.keep, codeAny_func ?_⟩
 obtain ⟨t, ht, hq⟩ := hbody A outer s H vs Q E (hr.deeper _) hsp
 have I : Inv (cxOf CX P w K mg base N qual scope f cdv A outer s H E) [] (start N vs) H s1 := inv_start S hr.hd e0 hl r x
 refine wpAny_mono (ht [] s1 (start N vs) H _ I hq) (fun fl s' hs => ?_) fun e s' hs => hs
 have fin : ∀ {σ' : St} {H' : Hp} {v : V} {u : Value}, Inv (cxOf CX P w K mg base N qual scope f cdv A outer s H E) [] σ' H' s' -> RelV v u -> Q v H' -> CE outer P w H s Q u s' :=
  fun {σ' H' v u} J rv q => ⟨v, H', J.os, J.bare, J.base, J.hok, rv, q⟩
 cases fl with
 | ret u =>
  obtain ⟨v, σ', H', J, rv, q⟩ := hs
  exact fin J rv q
 | next =>
  obtain ⟨σ', H', J, q⟩ := hs
  exact fin (v := V.non) (u := Value.none) J rfl q
 | brk =>
  obtain ⟨_, _, _, q⟩ := hs
  exact False.elim q
 | cont =>
  obtain ⟨_, _, _, q⟩ := hs
  exact False.elim q
end L2
namespace L2
open PySem PySem.Spec PyProof.Rows
section
variable {X : Cx} {x : Str} {p pos : Pos} {e : Expr} {es : List Expr} {t : TA} {id T : String} {r : List V -> Hp -> VK -> Prop}
def tCB (r : List V -> Hp -> VK -> Prop) (t : TA) : TE := fun σ H Q => t σ H fun vs H1 => r vs H1 Q
theorem pe_callB (hc : CallR X (.builtin id) r) (hg : Gl X x) (hm : X.mg x = none) (hv : bootBuiltins x = some (.builtin id)) (ha : PA X (e :: es) t) (hn : x ≠ "__name__" := by decide) (hdb : (x == ("__debug__" : Str)) = false := by decide)
 (he : starEach (e :: es) X.env = (false, eval e X.env) :: starEach es X.env := by rfl) (hpl : (backTo pos (starEach es X.env)).any (·.1) = false := by rfl) : PE X (.Call (.Name x p) (e :: es) [] pos) (tCB r t) := by
 intro pins s σ H Q I h
 refine wpAny_Call_Name_kw (ld_blt I hg hm hv ?_ hn hdb)
 exact PyProof.Rows.callWith_builtin1 (thn (ha pos pins s σ H _ I h) fun us s1 ⟨vs, H1, I1, r1, q1⟩ => hc pins s1 σ H1 vs us Q I1 r1 q1) he hpl
theorem pe_callTy (hc : CallR X (.type T) r) (hg : Gl X x) (hm : X.mg x = none) (hv : bootBuiltins x = some (.type T)) (ha : PA X (e :: es) t) (hn : x ≠ "__name__" := by decide) (hdb : (x == ("__debug__" : Str)) = false := by decide)
 (he : starEach (e :: es) X.env = (false, eval e X.env) :: starEach es X.env := by rfl) (hpl : (backTo pos (starEach es X.env)).any (·.1) = false := by rfl) : PE X (.Call (.Name x p) (e :: es) [] pos) (tCB r t) := by
 intro pins s σ H Q I h
 refine wpAny_Call_Name_kw (ld_blt I hg hm hv ?_ hn hdb)
 exact PyProof.Rows.callWith_type1 (thn (ha pos pins s σ H _ I h) fun us s1 ⟨vs, H1, I1, r1, q1⟩ => hc pins s1 σ H1 vs us Q I1 r1 q1) he hpl
end
end L2
namespace HT
open PySem PyProof.Rows
section
variable {prog : Program} {w : World} {A : Around} {E : Value -> Shared -> Prop} {s : Shared}
def sIx (n d : Nat) : Option Int -> Nat
 | none => d
 | some v => if v < 0 then (v + (n : Int)).toNat else min v.toNat n
theorem sIx_none (n d : Nat) : sIx n d none = d := rfl
end
end HT
namespace L2
open PySem PySem.Spec PyProof.Rows
abbrev TO := St -> Hp -> (Option Int -> Hp -> Prop) -> Prop
def PO (X : Cx) (e : Option Expr) (t : TO) : Prop :=
 ∀ (pins : List (Addr × Obj)) (s : Shared) (σ : St) (H : Hp) (Q : Option Int -> Hp -> Prop), Inv X pins σ H s -> t σ H Q ->
  wpAny (model X.prog X.w) X.A (evalPart e X.env) (fun u s' => ∃ o H', Inv X pins σ H' s' ∧ IsPart u o ∧ Q o H') X.xe s
def tNoPart : TO := fun _ H Q => Q none H
def tPart (t : TE) : TO := fun σ H Q => t σ H fun x H1 => ∃ i, x = .int i ∧ Q (some i) H1
section
variable {X : Cx} {e : Expr} {te : TE} {lo hi : Option Expr} {tl th : TO} {pos p2 : Pos}
theorem po_none : PO X none tNoPart := by
 intro pins s σ H Q I h
 rw [evalPart_none]
 exact wpAny_pure ⟨none, H, I, .none, h⟩
theorem po_some (h : PE X e te) : PO X (some e) (tPart te) := by
 intro pins s σ H Q I hw
 rw [evalPart_some]
 refine thn (h pins s σ H _ I hw) fun u s1 ⟨x, H1, I1, r1, q1⟩ => ?_
 obtain ⟨i, rfl, q⟩ := q1
 obtain ⟨t, rfl⟩ := r1
 exact ⟨some i, H1, I1, .int i t, q⟩
def SlR (X : Cx) (r : V -> Option Int -> Option Int -> Hp -> VK -> Prop) : Prop :=
 ∀ (pins : List (Addr × Obj)) (s : Shared) (σ : St) (H : Hp) (x : V) (v vl vu : Value) (lo hi : Option Int) (sl : Addr) (Q : VK), Inv X pins σ H s -> RelV x v -> s.heap.IsSliceOf sl vl vu .none -> IsPart vl lo -> IsPart vu hi -> r x lo hi H Q ->
  ∃ T id, typeLookup (.type T) "__getitem__" = pure (some (.builtin id)) ∧ s.TypeIs v T ∧ wpAny (model X.prog X.w) X.A (getItem v (.ref sl)) (EP X pins σ Q) X.xe s
def tSl (r : V -> Option Int -> Option Int -> Hp -> VK -> Prop) (te : TE) (tl th : TO) : TE := fun σ H Q => te σ H fun x H1 => tl σ H1 fun l H2 => th σ H2 fun u H3 => r x l u H3 Q
theorem pe_slice {r : V -> Option Int -> Option Int -> Hp -> VK -> Prop} (hr : SlR X r) (he : PE X e te) (hl : PO X lo tl) (hu : PO X hi th) : PE X (.Subscript e (.Slice lo hi none p2) pos) (tSl r te tl th) := by
 intro pins s σ H Q I h
 refine Subscript_ (thn (he pins s σ H _ I h) fun v s1 ⟨x, H1, I1, r1, q1⟩ => ?_)
 refine wpAny_Slice (thn (hl pins s1 σ H1 _ I1 q1) fun vl s2 ⟨l, H2, I2, pl, q2⟩ => thn (hu pins s2 σ H2 _ I2 q2) fun vu s3 ⟨u, H3, I3, pu, q3⟩ => ?_)
 rw [evalPart_none]
 refine wpAny_pure ?_
 have I4 : Inv X pins σ H3 { s3 with heap := s3.heap.push { cls := .type "slice", data := .fields #[vl, vu, .none] } } := I3.kept (t' := s3.toks) fun b ob q => Heap.get?_push_of_some _ q
 obtain ⟨T, id, hT, ht, hg⟩ := hr pins { s3 with heap := s3.heap.push { cls := .type "slice", data := .fields #[vl, vu, .none] } } σ H3 x v vl vu l u s3.heap.objs.size Q I4 r1 (Heap.IsSliceOf.new ..) pl pu q3
 show wpAny (model X.prog X.w) X.A (subscriptTail e (.Slice lo hi none p2) v (.ref s3.heap.objs.size)) (EP X pins σ Q) X.xe { s3 with heap := s3.heap.push { cls := .type "slice", data := .fields #[vl, vu, .none] } }
 exact tail_any (ops := [.ref s3.heap.objs.size, v]) ht hT hg (by with_unfolding_all rfl)
def cutV (xs : List V) (lo hi : Option Int) : List V := (xs.drop (HT.sIx xs.length 0 lo)).take (HT.sIx xs.length xs.length hi - HT.sIx xs.length 0 lo)
theorem cutV_length (xs : List V) (lo hi : Option Int) : (cutV xs lo hi).length <= xs.length := by
 unfold cutV
 rw [List.length_take, List.length_drop]
 omega
end
end L2
namespace L2
open PySem PySem.Spec PyProof.Rows
def ixN (n : Nat) (i : Int) : Option Nat := if 0 <= i then (if i < n then some i.toNat else none) else if -(n : Int) <= i then some (i + n).toNat else none
def atI {α : Type} (xs : List α) (i : Int) : Option α := (ixN xs.length i).bind fun j => xs[j]?
theorem ixN_seq {n : Nat} {i : Int} {j : Nat} (h : ixN n i = some j) : seqIndex? i n = some j ∧ j < n ∧ -(n : Int) <= i ∧ i < n := by
 unfold ixN at h
 by_cases h0 : 0 <= i
 · rw [if_pos h0] at h
   by_cases h1 : i < n
   · rw [if_pos h1] at h
     have e : i.toNat = j := Option.some.inj h
     exact ⟨by rw [seqIndex_of h0 h1, e], by omega, by omega, h1⟩
   · rw [if_neg h1] at h; cases h
 · rw [if_neg h0] at h
   by_cases h1 : -(n : Int) <= i
   · rw [if_pos h1] at h
     have e : (i + n).toNat = j := Option.some.inj h
     exact ⟨by rw [seqIndex_neg (by omega) h1, e], by omega, h1, by omega⟩
   · rw [if_neg h1] at h; cases h
theorem atI_get {α : Type} {xs : List α} {i : Int} {v : α} (h : atI xs i = some v) : ∃ j, seqIndex? i xs.length = some j ∧ xs[j]? = some v ∧ j < xs.length ∧ -(xs.length : Int) <= i ∧ i < xs.length := by
 unfold atI at h
 cases e : ixN xs.length i with
 | none => rw [e] at h; cases h
 | some j =>
  rw [e] at h
  obtain ⟨h1, h2, h3, h4⟩ := ixN_seq e
  exact ⟨j, h1, h, h2, h3, h4⟩
theorem atI_nat {α : Type} {xs : List α} {j : Nat} {v : α} (h : xs[j]? = some v) : atI xs (j : Int) = some v := by
 have hj : j < xs.length := (List.getElem?_eq_some_iff.mp h).1
 have e : ixN xs.length (j : Int) = some j := by
  unfold ixN
  rw [if_pos (by omega), if_pos (by omega)]; simp
 unfold atI; rw [e]; exact h
def PlainIx (b : Expr) : Prop := ∀ o i, subscripted b false o i = operate [o, i] (getItem o i)
def IxR (X : Cx) (r : R2) : Prop :=
 ∀ (value slice : Expr) (pins : List (Addr × Obj)) (s : Shared) (σ : St) (H : Hp) (x y : V) (v u : Value) (Q : VK), Inv X pins σ H s -> RelV x v -> RelV y u -> r x y H Q ->
  subscripted slice false v u = operate [v, u] (getItem v u) -> wpAny (model X.prog X.w) X.A (subscriptTail value slice v u) (EP X pins σ Q) X.xe s
def MtR (X : Cx) (id : String) (r : V -> List V -> Hp -> VK -> Prop) : Prop :=
 ∀ (pins : List (Addr × Obj)) (s : Shared) (σ : St) (H : Hp) (x : V) (xs : List V) (v : Value) (us : List Value) (Q : VK), Inv X pins σ H s -> RelV x v -> Vals xs us -> r x xs H Q ->
  wpAny (model X.prog X.w) X.A (call (.builtin id) (v :: us)) (EP X pins σ Q) X.xe s
section
variable {X : Cx} {a b : Expr} {ta tb : TE} {pos : Pos}
theorem pe_ix {r : R2} (hr : IxR X r) (ha : PE X a ta) (hb : PE X b tb) (hs : PlainIx b) : PE X (.Subscript a b pos) (tOp r ta tb) := by
 intro pins s σ H Q I h
 exact Subscript_ (binT ha hb I h fun v u s2 x y H2 I2 rx ry q => hr a b pins s2 σ H2 x y v u Q I2 rx ry q (hs _ _))
def rIxL (K : PySem.W.Frag) : R2 := fun x y H Q => ∃ p xs i v, x = .ref p ∧ y = .int i ∧ SqL K H p xs ∧ atI xs i = some v ∧ Q v H
def rIxT (K : PySem.W.Frag) : R2 := fun x y H Q => ∃ p xs i v, x = .ref p ∧ y = .int i ∧ SqT K H p xs ∧ atI xs i = some v ∧ Q v H
def rIxS : R2 := fun x y H Q => ∃ z i c, x = .str z ∧ y = .int i ∧ z.length <= sizeLine ∧ atI z.cps.toList i = some c ∧ Q (.str ⟨#[c]⟩) H
theorem ix_list : IxR X (rIxL X.K) := by
 intro value slice pins s σ H x y v u Q I rx ry h hs
 obtain ⟨p, xs, i, z, rfl, rfl, hq, he, q⟩ := h
 cases rx
 obtain ⟨t, rfl⟩ := ry
 obtain ⟨its, r, pl, hz⟩ := I.list hq
 obtain ⟨j, h1, h2, h3, h4, h5⟩ := atI_get he
 obtain ⟨w, ew, rw'⟩ := r.get h2
 have hl := r.length
 have hn := line63
 have fin : EP X pins σ Q w s := ⟨z, H, I, rw', q⟩
 by_cases h0 : 0 <= i
 · have hj : i.toNat = j := by
    rw [seqIndex_of h0 h5] at h1
    exact Option.some.inj h1
   exact item_listR pl.isList h0 (by omega) (by rw [hj]; simpa using ew) fin hs
 · have hj : (i + (its.toArray.size : Int)).toNat = j := by
    rw [seqIndex_neg (by omega) h4] at h1
    rw [List.size_toArray, <- hl]
    exact Option.some.inj h1
   exact subscriptTail_builtinR (x := w) pl.isList.typeIs slot_list_getitem.lookup
    (wpAny_getItem_list_neg (Q := fun r s' => r = w ∧ EP X pins σ Q r s') pl.isList (by omega) (by rw [List.size_toArray] <;> omega) (by omega) (by rw [hj]; simpa using ew) ⟨rfl, fin⟩) hs
theorem ix_tup : IxR X (rIxT X.K) := by
 intro value slice pins s σ H x y v u Q I rx ry h hs
 obtain ⟨p, xs, i, z, rfl, rfl, hq, he, q⟩ := h
 cases rx
 obtain ⟨t, rfl⟩ := ry
 obtain ⟨its, r, pl, hz⟩ := I.tuple hq
 obtain ⟨j, h1, h2, h3, h4, h5⟩ := atI_get he
 obtain ⟨w, ew, rw'⟩ := r.get h2
 have hl := r.length
 have hn := line63
 have fin : EP X pins σ Q w s := ⟨z, H, I, rw', q⟩
 exact subscriptTail_builtinR (x := w) pl.typeIs slot_tuple_getitem.lookup
  (getItem_tuple (j := j) (Q := fun r s' => r = w ∧ EP X pins σ Q r s') pl (by omega) (by omega) (by rw [List.size_toArray, <- hl]; exact h1) (by simpa using ew) ⟨rfl, fin⟩) hs
theorem ix_str : IxR X rIxS := by
 intro value slice pins s σ H x y v u Q I rx ry h hs
 obtain ⟨z, i, c, rfl, rfl, hz, he, q⟩ := h
 obtain ⟨t, rfl⟩ := rx
 obtain ⟨t', rfl⟩ := ry
 obtain ⟨j, h1, h2, h3, h4, h5⟩ := atI_get he
 have hl : z.cps.toList.length = z.length := by simp [Str.length]
 rw [hl] at h1 h4 h5
 have hn := line63
 exact tail_any (typeIs_str s z t) slot_str_getitem.lookup (getItem_str (c := c) (by
  have e1 : decide (i < -(2 ^ 63 : Int)) = false := decide_eq_false (by omega)
  have e2 : decide (i ≥ 2 ^ 63) = false := decide_eq_false (by omega)
  rw [e1, e2, Bool.or_false]) (by rw [h1]; simpa using h2) ⟨.str ⟨#[c]⟩, H, I.tok _, ⟨_, rfl⟩, q⟩) hs
theorem slice_bounds (lo hi : Option Int) (n : Nat) : (sliceBounds lo hi none n).1 = ((HT.sIx n 0 lo : Nat) : Int) ∧ (sliceBounds lo hi none n).2.1 = ((HT.sIx n n hi : Nat) : Int) ∧ (sliceBounds lo hi none n).2.2 = 1 := by
 refine ⟨?_, ?_, rfl⟩
 · cases lo with
   | none => simp [sliceBounds, HT.sIx]
   | some i =>
    simp only [sliceBounds, HT.sIx, Option.getD_none, show (1 : Int) > 0 by decide, if_true]
    by_cases h : i < 0
    · simp only [h, if_true] <;> omega
    · simp only [h, if_false] <;> omega
 · cases hi with
   | none => simp [sliceBounds, HT.sIx]
   | some i =>
    simp only [sliceBounds, HT.sIx, Option.getD_none, show (1 : Int) > 0 by decide, if_true]
    by_cases h : i < 0
    · simp only [h, if_true] <;> omega
    · simp only [h, if_false] <;> omega
theorem slicePick_cut (its : List Value) (lo hi : Option Int) : slicePick its.toArray lo hi none = ((its.drop (HT.sIx its.length 0 lo)).take (HT.sIx its.length its.length hi - HT.sIx its.length 0 lo)).toArray := by
 obtain ⟨h1, h2, h3⟩ := slice_bounds lo hi its.toArray.size
 unfold slicePick
 rw [h1, h2, h3]
 simp only [sliceRange_one, pick_run, List.size_toArray] <;> rfl
def rSlL (K : PySem.W.Frag) : V -> Option Int -> Option Int -> Hp -> VK -> Prop := fun x lo hi H Q => ∃ a xs, x = .ref a ∧ SqL K H a xs ∧ ∀ p, H p = none -> Q (.ref p) (upd H p (.lst (cutV xs lo hi)))
theorem sl_list : SlR X (rSlL X.K) := by
 intro pins s σ H x v vl vu lo hi sl Q I rx hs pl pu h
 obtain ⟨a, xs, rfl, hx, q⟩ := h
 cases rx
 obtain ⟨its, r, ht, hz⟩ := I.list hx
 have hlen := r.length
 refine ⟨"list", _, slot_list_getitem.lookup, ht.isList.typeIs, ?_⟩
 refine wpAny_getItem_list_slice ht.isList hs pl pu .none (by simp) ?_ (by rw [List.size_toArray] <;> omega)
 rw [slicePick_cut, <- hlen]
 refine ⟨.ref s.heap.objs.size, _, I.laid (t' := s.toks) (o := .lst (cutV xs lo hi)) (fun b ob q => Heap.get?_push_of_some _ q) (Nat.le_refl _) ?_, rfl, q _ (I.hok.fresh (Nat.le_refl _))⟩
 exact ⟨Nat.le_trans (cutV_length xs lo hi) hz, _, 0, (r.drop (HT.sIx xs.length 0 lo)).take (HT.sIx xs.length xs.length hi - HT.sIx xs.length 0 lo), Heap.get?_push_size _ rfl⟩
def flatV : V -> Bool
 | .non => true
 | .bl _ => true
 | .int _ => true
 | .str _ => true
 | _ => false
def eqV : V -> V -> Bool
 | .non, .non => true
 | .bl a, .bl b => a == b
 | .bl a, .int b => (if a then 1 else 0) == b
 | .int a, .bl b => a == (if b then 1 else 0)
 | .int a, .int b => a == b
 | .str a, .str b => a == b
 | _, _ => false
theorem eqAt_V {A : Around} {s : Shared} {y x : V} {u v : Value} (ry : RelV y u) (rx : RelV x v) (fy : flatV y = true) (fx : flatV x = true) : SeqAt.EqAt A s u v (eqV y x) := by
 cases y with
 | non =>
  cases ry
  cases x with
  | non => cases rx; exact SeqAt.EqAt.same _
  | bl b => cases rx; exact SeqAt.EqAt.none_bool b
  | int b => obtain ⟨t, rfl⟩ := rx; exact SeqAt.EqAt.none_int b t
  | str b => obtain ⟨t, rfl⟩ := rx; exact SeqAt.EqAt.none_str b t
  | _ => exact absurd (show false = true from fx) Bool.false_ne_true
 | bl a =>
  cases ry
  cases x with
  | non => cases rx; exact SeqAt.EqAt.bool_none a
  | bl b => cases rx; exact SeqAt.EqAt.bool_bool a b
  | int b => obtain ⟨t, rfl⟩ := rx; exact SeqAt.EqAt.bool_int a b t
  | str b => obtain ⟨t, rfl⟩ := rx; exact SeqAt.EqAt.bool_str a b t
  | _ => exact absurd (show false = true from fx) Bool.false_ne_true
 | int a =>
  obtain ⟨t', rfl⟩ := ry
  cases x with
  | non => cases rx; exact SeqAt.EqAt.int_none a t'
  | bl b => cases rx; exact SeqAt.EqAt.int_bool a t' b
  | int b => obtain ⟨t, rfl⟩ := rx; exact SeqAt.EqAt.int_int a t' b t
  | str b => obtain ⟨t, rfl⟩ := rx; exact SeqAt.EqAt.int_str a t' b t
  | _ => exact absurd (show false = true from fx) Bool.false_ne_true
 | str a =>
  obtain ⟨t', rfl⟩ := ry
  cases x with
  | non => cases rx; exact SeqAt.EqAt.str_none a t'
  | bl b => cases rx; exact SeqAt.EqAt.str_bool a t' b
  | int b => obtain ⟨t, rfl⟩ := rx; exact SeqAt.EqAt.str_int a t' b t
  | str b => obtain ⟨t, rfl⟩ := rx; exact SeqAt.EqAt.str_str a t' b t
  | _ => exact absurd (show false = true from fx) Bool.false_ne_true
 | _ => exact absurd (show false = true from fy) Bool.false_ne_true
def eqU (x : V) (u : Value) : Bool := match u with
 | .none => eqV .non x
 | .bool b => eqV (.bl b) x
 | .int i _ => eqV (.int i) x
 | .str z _ => eqV (.str z) x
 | _ => false
theorem eqU_of {x y : V} {u : Value} (r : RelV y u) (f : flatV y = true) : eqU x u = eqV y x := by
 cases y with
 | non => cases r; rfl
 | bl b => cases r; rfl
 | int i => obtain ⟨t, rfl⟩ := r; rfl
 | str z => obtain ⟨t, rfl⟩ := r; rfl
 | _ => exact absurd (show false = true from f) Bool.false_ne_true
theorem any_eqU {x : V} : ∀ {xs : List V} {us : List Value}, Vals xs us -> xs.all flatV = true -> us.any (eqU x) = xs.any fun y => eqV y x
 | _, _, .nil, _ => rfl
 | y :: xs, u :: us, .cons r t, f => by
  rw [List.all_cons, Bool.and_eq_true] at f
  rw [List.any_cons, List.any_cons, eqU_of r f.1, any_eqU t f.2]
theorem mem_eqAt {A : Around} {s : Shared} {x : V} {v : Value} (rx : RelV x v) (fx : flatV x = true) : ∀ {xs : List V} {us : List Value}, Vals xs us -> xs.all flatV = true -> ∀ u ∈ us, SeqAt.EqAt A s u v (eqU x u)
 | _, _, .nil, _ => fun u hu => by cases hu
 | y :: xs, u :: us, .cons r t, f => fun u' hu => by
  rw [List.all_cons, Bool.and_eq_true] at f
  rcases List.mem_cons.mp hu with rfl | hu
  · rw [eqU_of r f.1]; exact eqAt_V r rx f.1 fx
  · exact mem_eqAt rx fx t f.2 u' hu
def inV (x : V) (xs : List V) : Bool := xs.any fun y => eqV y x
def rIn (K : PySem.W.Frag) (neg : Bool) : R2 := fun x y H Q => ∃ p xs, y = .ref p ∧ (SqL K H p xs ∨ SqT K H p xs) ∧ flatV x = true ∧ xs.all flatV = true ∧ Q (.bl (if neg then !inV x xs else inV x xs)) H
theorem op_in_seq : OpR X (compareOp .In) (rIn X.K false) := by
 intro pins s σ H x y v u Q I rx ry h
 obtain ⟨p, xs, rfl, hq, fx, fs, q⟩ := h
 cases ry
 rcases hq with hq | hq
 · obtain ⟨its, r, pl, hz⟩ := I.list hq
   refine SeqAt.in_listAt (eqU x) pl.isList (fun w hw => mem_eqAt rx fx r fs w (by simpa using hw)) ⟨.bl _, H, I, rfl, ?_⟩
   rw [show its.toArray.any (eqU x) = its.any (eqU x) by simp, any_eqU r fs]
   exact q
 · obtain ⟨its, r, pl, hz⟩ := I.tuple hq
   refine SeqAt.in_tupleAt (eqU x) pl (fun w hw => mem_eqAt rx fx r fs w (by simpa using hw)) ⟨.bl _, H, I, rfl, ?_⟩
   rw [show its.toArray.any (eqU x) = its.any (eqU x) by simp, any_eqU r fs]
   exact q
theorem call_len_seq : CallR X (.builtin "len") (fun xs H Q => ∃ p ys, xs = [.ref p] ∧ (SqL X.K H p ys ∨ SqT X.K H p ys) ∧ Q (.int ys.length) H) := by
 intro pins s σ H xs us Q I r h
 obtain ⟨p, ys, rfl, hq, q⟩ := h
 obtain ⟨u, rfl, rx⟩ := vals1 r
 cases rx
 have hn := line63
 rcases hq with hq | hq
 · obtain ⟨its, r', pl, hz⟩ := I.list hq
   have hlen := r'.length
   exact Calls.call_len_list pl.isList (by simp only [List.size_toArray] <;> omega) ⟨.int ys.length, H, I.tok _, ⟨s.toks + 1, by rw [List.size_toArray, hlen]⟩, q⟩
 · obtain ⟨its, r', pl, hz⟩ := I.tuple hq
   have hlen := r'.length
   exact len_tuple pl (by simp only [List.size_toArray] <;> omega) ⟨.int ys.length, H, I.tok _, ⟨s.toks + 1, by rw [List.size_toArray, hlen]⟩, q⟩
def tyV (K : PySem.W.Frag) (T : String) (x : V) (H : Hp) : Prop := match x with
 | .str _ => T = "str"
 | .int _ => T = "int"
 | .ref p => (T = "list" ∧ ∃ xs, SqL K H p xs) ∨ (T = "tuple" ∧ ∃ o, K.lookup p = some o ∧ o.cls = .type "tuple" ∧ o.dict = none) ∨
  (T = "dict" ∧ ((∃ kvs, H p = some (.dK kvs)) ∨ ∃ kvs, H p = some (.dT kvs))) ∨ (T = "set" ∧ ∃ S n, H p = some (.set S n))
 | _ => False
theorem tyV_is {pins : List (Addr × Obj)} {σ : St} {H : Hp} {s : Shared} {T : String} {x : V} {v : Value} (I : Inv X pins σ H s) (r : RelV x v) (ty : tyV X.K T x H) :
 s.TypeIs v T ∧ ∀ a, v = .ref a -> ∃ ob, s.heap.get? a = some ob ∧ ob.dict = none := by
 cases x with
 | str z =>
  obtain ⟨t, rfl⟩ := r
  cases (show T = "str" from ty)
  exact ⟨typeIs_str s z t, fun _ e => nomatch e⟩
 | int i =>
  obtain ⟨t, rfl⟩ := r
  cases (show T = "int" from ty)
  exact ⟨typeIs_int s i t, fun _ e => nomatch e⟩
 | ref p =>
  cases r
  rcases ty with ⟨rfl, xs, hq⟩ | ⟨rfl, o, hk, hc, hd⟩ | ⟨rfl, hk⟩ | ⟨rfl, S, n, hk⟩
  · obtain ⟨its, _, pl, _⟩ := I.list hq
    refine ⟨pl.isList.typeIs, fun a e => ?_⟩
    cases e
    obtain ⟨o, n, e, c, hd, _⟩ := pl
    exact ⟨o, e, hd⟩
  · refine ⟨⟨o, I.kIn p o hk, hc⟩, fun a e => ?_⟩
    cases e
    exact ⟨o, I.kIn _ o hk, hd⟩
  · have z : ∃ o, s.heap.get? p = some o ∧ o.ExactDict := by
     rcases hk with ⟨kvs, hk⟩ | ⟨kvs, hk⟩
     · obtain ⟨_, _, _, _, o, _, _, e, ex, _⟩ := I.hok p _ hk
       exact ⟨o, e, ex⟩
     · obtain ⟨_, _, _, _, o, _, _, e, ex, _⟩ := I.hok p _ hk
       exact ⟨o, e, ex⟩
    obtain ⟨o, e, ex⟩ := z
    refine ⟨⟨o, e, ex.1⟩, fun a e2 => ?_⟩
    cases e2
    exact ⟨o, e, ex.2.1⟩
  · obtain ⟨o, _, _, _, e, ex, _⟩ := I.hok p _ hk
    refine ⟨⟨o, e, ex.1⟩, fun a e2 => ?_⟩
    cases e2
    exact ⟨o, e, ex.2.1⟩
 | _ => exact False.elim ty
def tBM0 (K : PySem.W.Frag) (T : String) (r : V -> List V -> Hp -> VK -> Prop) (to : TE) : TE := fun σ H Q => to σ H fun x H1 => tyV K T x H1 ∧ r x [] H1 Q
def tBM (K : PySem.W.Frag) (T : String) (r : V -> List V -> Hp -> VK -> Prop) (to : TE) (t : TA) : TE := fun σ H Q => to σ H fun x H1 => tyV K T x H1 ∧ t σ H1 fun xs H2 => r x xs H2 Q
variable {o e : Expr} {es : List Expr} {to : TE} {t : TA} {name : Str} {apos cpos : Pos} {T id : String} {r : V -> List V -> Hp -> VK -> Prop}
theorem pe_bm0 (pa : PlainAttrs T) (slot : Slot T name id) (hty : typeOf (.builtin id) = pure (.type "method_descriptor")) (hm : MtR X id r) (ho : PE X o to)
 (hbase : attributeBase o name X.env (eval o X.env) = eval o X.env := by rfl) (hline : (apos.endLine == cpos.line) = true := by rfl) : PE X (.Call (.Attribute o name apos) [] [] cpos) (tBM0 X.K T r to) := by
 intro pins s σ H Q I h
 refine wpAny_Call_method0_late hbase hline (thn (ho pins s σ H _ I h) fun v s1 ⟨x, H1, I1, r1, ty, q1⟩ => ?_)
 obtain ⟨h1, h2⟩ := tyV_is I1 r1 ty
 exact ⟨T, id, pa, slot, hty, h1, h2, Calls.callWith_builtin rfl (PySem.evalArgs_none (hm pins s1 σ H1 x [] v [] Q I1 r1 .nil q1))⟩
theorem pe_bm (pa : PlainAttrs T) (slot : Slot T name id) (hty : typeOf (.builtin id) = pure (.type "method_descriptor")) (hm : MtR X id r) (ho : PE X o to) (ha : PA X (e :: es) t)
 (hbase : attributeBase o name X.env (eval o X.env) = eval o X.env := by rfl)
 (hfew : ((backTo cpos (starEach (e :: es) X.env)).all (fun x => !x.1) && (backToKw cpos (keywordEach [] X.env)).all (fun x => x.1.isSome)
  && decide ((e :: es).length + ([] : List Keyword).length + (if ([] : List Keyword).isEmpty then 0 else 1) < 30)) = true := by rfl)
 (hline : (apos.endLine == cpos.line) = true := by rfl) (hs : starEach (e :: es) X.env = (false, eval e X.env) :: starEach es X.env := by rfl) (hplain : (backTo cpos (starEach es X.env)).any (·.1) = false := by rfl) :
 PE X (.Call (.Attribute o name apos) (e :: es) [] cpos) (tBM X.K T r to t) := by
 intro pins s σ H Q I h
 refine wpAny_Call_method_late hbase hfew hline rfl (thn (ho pins s σ H _ I h) fun v s1 ⟨x, H1, I1, r1, ty, q1⟩ => ?_)
 obtain ⟨h1, h2⟩ := tyV_is I1 r1 ty
 refine ⟨T, id, pa, slot, hty, h1, h2, ?_⟩
 have hA := ha cpos pins s1 σ H1 _ I1 q1
 rw [hs] at hA ⊢
 refine Calls.callWith_builtin (by show (false || (backTo cpos (starEach es X.env)).any (·.1)) = false; rw [hplain] <;> rfl) (Calls.evalArgs_plain ?_)
 exact thn hA fun us s2 ⟨vs, H2, I2, r2, q2⟩ => hm pins s2 σ H2 x vs v us Q I2 r1 r2 q2
end
end L2
namespace L2
open PySem PySem.Spec PyProof.Rows
def MtM (X : Cx) (id : String) (r : V -> List V -> Hp -> VK -> Prop) : Prop :=
 ∀ (pins : List (Addr × Obj)) (s : Shared) (σ : St) (H : Hp) (x : V) (xs : List V) (v : Value) (us : List Value) (Q : VK), Inv X pins σ H s -> RelV x v -> Vals xs us -> r x xs H Q ->
  wpAny (model X.prog X.w) X.A (call (.builtin id) (v :: us)) (EP X pins σ Q) X.xe s
theorem Vals.one : ∀ {x : V} {us : List Value}, Vals [x] us -> ∃ u, us = [u] ∧ RelV x u
 | _, _, .cons r .nil => ⟨_, rfl, r⟩
theorem Vals.zero : ∀ {us : List Value}, Vals [] us -> us = []
 | _, .nil => rfl
theorem Vals.dropLast {xs : List V} {us : List Value} (h : Vals xs us) : Vals xs.dropLast us.dropLast := by
 induction h with
 | nil => exact .nil
 | cons r t ih =>
  cases t with
  | nil => exact .nil
  | cons q t' => exact .cons r ih
theorem erase_last {α : Type} (l : List α) : l.eraseIdx (l.length - 1) = l.dropLast := by
 induction l with
 | nil => rfl
 | cons a r ih =>
  cases r with
  | nil => rfl
  | cons b r =>
   have e : (a :: b :: r).length - 1 = ((b :: r).length - 1) + 1 := by
    have h1 : (a :: b :: r).length = r.length + 2 := rfl
    have h2 : (b :: r).length = r.length + 1 := rfl
    omega
   rw [e, List.eraseIdx_cons_succ, ih]
   all_goals rfl
theorem foldl_rep (its : List Value) : ∀ (k : Nat) (acc : List Value),
 List.foldl (fun x1 x2 => x1 ++ x2) acc.toArray (List.replicate k its.toArray) = (acc ++ (List.replicate k its).flatten).toArray
 | 0, acc => by simp
 | k + 1, acc => by
  have e : acc.toArray ++ its.toArray = (acc ++ its).toArray := by simp
  have e2 : (acc ++ its) ++ (List.replicate k its).flatten = acc ++ (List.replicate (k + 1) its).flatten := by
   rw [List.replicate_succ, List.flatten_cons, List.append_assoc]
  rw [<- e2, <- foldl_rep its k (acc ++ its), <- e, List.replicate_succ, List.foldl_cons]
section
variable {X : Cx} {pins : List (Addr × Obj)} {σ : St} {H : Hp} {s : Shared} {l b : Addr} {xs ys zs : List V}
theorem Inv.lset {its its' : List Value} {n : Nat} {f : Array Value -> Array Value} {t' : Nat} (I : Inv X pins σ H s) (hH : H l = some (.lst xs))
 (e : s.heap.get? l = some { cls := .type "list", data := .seq its.toArray n }) (hf : f its.toArray = its'.toArray) (hv : Vals ys its') (hz : ys.length <= sizeLine) :
 Inv X pins σ (upd H l (.lst ys)) { s with heap := s.heap.update l (Obj.mapSeq f), toks := t' } := by
 have q := PySem.IsL.update e f
 rw [hf] at q
 refine I.write (x := l) (e := l) (by rw [hH]; exact trivial) (.inl rfl) (fun b' u hb hu => (Heap.get?_update_other s.heap (Obj.mapSeq f) (Ne.symm hb)).trans hu) ⟨_, q⟩ ?_
 exact ⟨hz, its', _, hv, q⟩
theorem Inv.lnew {its : List Value} {t' : Nat} (I : Inv X pins σ H s) (hv : Vals ys its) (hz : ys.length <= sizeLine) :
 Inv X pins σ (upd H s.heap.objs.size (.lst ys)) { s with heap := s.heap.push { cls := .type "list", data := .seq its.toArray }, toks := t' } :=
 I.laid (fun _ _ q => Heap.get?_push_of_some _ q) (Nat.le_refl _) ⟨hz, its, 0, hv, Heap.get?_push_size _ rfl⟩
theorem Inv.fresh (I : Inv X pins σ H s) : H s.heap.objs.size = none := I.hok.fresh (Nat.le_refl _)
theorem Inv.lstM (I : Inv X pins σ H s) (hH : H l = some (.lst xs)) : xs.length <= sizeLine ∧ ∃ (its : List Value) (n : Nat), Vals xs its ∧ xs.length = its.length ∧ s.heap.get? l = some { cls := .type "list", data := .seq its.toArray n } := by
 obtain ⟨z, its, n, r, e⟩ := I.hok l _ hH
 exact ⟨z, its, n, r, r.length, e⟩
end
section
variable {X : Cx}
def rAppend : V -> List V -> Hp -> VK -> Prop := fun x vs H Q => ∃ l xs y, x = .ref l ∧ vs = [y] ∧ H l = some (.lst xs) ∧ xs.length < sizeLine ∧ Q .non (upd H l (.lst (xs ++ [y])))
theorem mt_append : MtM X "list.append" rAppend := by
 intro pins s σ H x vs v us Q I rx rv h
 obtain ⟨l, xs, y, rfl, rfl, hH, hz, q⟩ := h
 cases rx
 obtain ⟨u, rfl, ru⟩ := rv.one
 obtain ⟨z, its, n, r, hl, e⟩ := I.lstM hH
 refine call_meets F.slot_list_append ⟨_, e, rfl⟩ F.entry_list_append (F.args_list_append_2 _ _) (PySem.list_append l its.toArray n u (by rw [List.size_toArray]; omega)) ⟨e, ?_⟩
 refine ⟨.non, _, I.lset (its' := its ++ [u]) hH e (by simp) (r.append (.cons ru .nil)) ?_, rfl, q⟩
 rw [List.length_append, List.length_singleton]
 omega
def rPop : V -> List V -> Hp -> VK -> Prop := fun x vs H Q => ∃ l xs y, x = .ref l ∧ vs = [] ∧ H l = some (.lst xs) ∧ xs[xs.length - 1]? = some y ∧ Q y (upd H l (.lst xs.dropLast))
theorem mt_pop : MtM X "list.pop" rPop := by
 intro pins s σ H x vs v us Q I rx rv h
 obtain ⟨l, xs, y, rfl, rfl, hH, hy, q⟩ := h
 cases rx
 have hus := rv.zero
 subst hus
 obtain ⟨z, its, n, r, hl, e⟩ := I.lstM hH
 obtain ⟨u, hu, ru⟩ := r.get hy
 have hy' : its.toArray[its.toArray.size - 1]? = some u := by
  show its.toArray[its.length - 1]? = some u
  rw [<- Array.getElem?_toList, <- hl]
  exact hu
 refine call_meets F.slot_list_pop ⟨_, e, rfl⟩ F.entry_list_pop (F.args_list_pop_1 _) (MeetsSeq.list_pop_last l its.toArray n u hy' (by rw [List.size_toArray]; omega)) ⟨e, ?_⟩
 refine ⟨y, _, I.lset (its' := its.dropLast) hH e ?_ r.dropLast ?_, ru, q⟩
 · show its.toArray.eraseIdxIfInBounds (its.toArray.size - 1) = its.dropLast.toArray
   rw [List.size_toArray, List.eraseIdxIfInBounds_toArray, erase_last]
 · rw [List.length_dropLast]
   omega
end
end L2
namespace Att
open PySem PySem.W PySem.Calls PyProof.Rows
theorem ints_of_wellAll {P : Params} {h : Heap} : ∀ (ns : List Int) (vs : List Value), WellAll P h vs (ns.map WData.int) -> IntsAre vs ns := by
 intro ns
 induction ns with
 | nil =>
  intro vs w
  rw [List.map_nil] at w
  cases w
  exact .nil
 | cons n ns ih =>
  intro vs w
  rw [List.map_cons] at w
  cases w with
  | cons a b =>
   cases a
   exact .cons _ _ (ih _ b)
theorem script_of {l : OpenLaw} {n : Nat} (hn : l.most = some n) {P : Params} {h : Heap} {args : List WData} {vals : List Value}
 (hpre : l.row.toRowW.claim.pre args = true) (hwl : WellAll P h vals args) :
 ∃ a vs ns, vals = [Value.ref a] ∧ args = [WData.list (ns.map WData.int)] ∧ h.get? a = some { cls := .type "list", data := .seq vs.toArray } ∧ IntsAre vs ns ∧ ns.length <= n := by
 have hsh : WShape.hasAll [] args [.list .int] = true := (pre_splitW hpre).1
 have hc : l.pre.holds [] { args := args } = true := (pre_splitW hpre).2
 obtain ⟨d, r, rfl, h1, h2⟩ := hasAllW_cons hsh
 obtain rfl := hasAllW_nil h2
 obtain ⟨xs, rfl, h3⟩ := hasW_list h1
 obtain ⟨ns, rfl⟩ := items_int h3
 have hlen : ns.length <= n := by
  unfold OpenLaw.pre at hc
  have h4 : (WTm.not (.lt (.lit (.int (n : Int))) (.len (.arg 0)))).holds [] { args := [.list (ns.map .int)] } = true := by
   have h4 := (holds_andW hc).1
   rw [hn] at h4
   exact h4
  have h5 := condW_of h4 (w_not (w_lt w_lit (w_len_list (w_arg rfl))))
  rw [List.length_map] at h5
  refine Nat.le_of_not_lt fun q => ?_
  have q' : (n : Int) < ((ns.length : Nat) : Int) := by omega
  first
   | (rw [decide_eq_true q'] at h5; exact absurd h5 (by decide))
   | (simp at h5; omega)
 cases hwl with
 | cons w1 w2 =>
  cases w2
  cases w1 with
  | list ho hall => exact ⟨_, _, ns, rfl, rfl, ho, ints_of_wellAll ns _ hall, hlen⟩
theorem post_true (l : OpenLaw) (args : List WData) : l.row.toRowW.claim.post args (.bool true) args = true :=
 postW_of (r := l.row.toRowW) (X := (true == true))
  (show WShape.has [] (.bool true) .bool = true by first | rfl | decide | simp [WShape.has, WShape.arms, WShape.armsAll])
  (show (WTm.eq .res (.lit (.bool true))).value [] { args := args, res := some (.bool true), after := args } = some (.bool (true == true)) from w_eq_bool (w_res rfl) w_lit) rfl
theorem attach_call {l : OpenLaw} {n : Nat} {q : Program} {loose : List Str} {XP : (Str -> Option Value) -> Heap -> Prop} {YP : World -> Heap -> Prop} {d : DefRec}
 (hn : l.most = some n) (hdf : d.params.defaults = [])
 (call : ∀ (w : World) (s₀ s₁ : Shared) (mg mb : Str -> Option Value) (fa : Addr) (o : Obj) (pm cd doc : Value) (a : Addr) (vs : List Value) (ns : List Int),
  Ground q loose [] XP w s₀ mg mb s₁.heap -> YP w s₁.heap ->
  s₁.heap.get? fa = some o -> o.data = .func (docDef d.name d.params d.body d.scope pm cd doc) -> s₁.heap.CodeRec cd d.name -> mg d.name = some (.ref fa) ->
  s₁.heap.get? a = some { cls := .type "list", data := .seq vs.toArray } -> IntsAre vs ns -> ns.length <= n -> s₁.gens = #[] ->
  codeAny (model l.prog w) callerA (.call (.ref fa) ⟨[.ref a], []⟩) (fun r s' => r = .ok (.ret (.bool true)) ∧ OldK s₁.heap s'.heap ∧ s'.os = s₁.os ∧ AllBare s'.gens) s₁) :
 WalkO q loose XP YP l.row.toRowW d [] (fun f vs => PySem.call f vs) := by
 intro w s₀ s₁ mg mb G Y fa o pm cd doc dV kV ho hd hcd hD hmg hg args vals as hpre hlay hrd hwl hlo
 obtain rfl : dV = .none := Dflts.none hD hdf
 obtain rfl : kV = .none := Dflts.noKw hD
 obtain ⟨a, vs, ns, rfl, rfl, hobj, hints, hlen⟩ := script_of hn hpre hwl
 refine enter_call (codeAny_mono (call w s₀ s₁ mg mb fa o pm cd doc a vs ns G Y ho (fd_plain hd) hcd hmg hobj hints hlen hg) fun r s' hq => ?_)
 obtain ⟨rfl, h2, h3, h4⟩ := hq
 exact ⟨.inl ⟨.bool true, .bool true, [], rfl, fun _ => rfl, .bool true, post_true l _, fun _ => ⟨List.Pairwise.nil, fun _ hm => (nomatch hm)⟩⟩, h2, h3, h4⟩
end Att
namespace L2
open PySem PySem.Spec PyProof.Rows
theorem vals_ints : ∀ {vs : List Value} {ns : List Int}, IntsAre vs ns -> Vals (ns.map V.int) vs
 | _, _, .nil => .nil
 | _, _, .cons n t h => .cons ⟨t, rfl⟩ (vals_ints h)
def Only (H : Hp) : Prop := ∀ b, H b = none ∨ ∃ o xs, H b = some (.frz o (.lst xs))
theorem law_call {P : Program} {w : World} {K : PySem.W.Frag} {mg mb : Str -> Option Value} {CX : CXT} {k : Nat} {fa a : Addr} {fd : FuncData} {x : Str} {sp : Sp} {s₁ : Shared} {vs : List Value} {ns : List Int}
 (KX : K.In s₁.heap) (hns : s₁.heap.Ns mainGlobals mg) (hb : s₁.heap.Ns builtinsNs mb) (hbb : ∀ x : Str, x ≠ "__name__" -> mb x = bootBuiltins x) (hlim : s₁.heap.NoLimit) (hg : s₁.gens = #[])
 (ha : s₁.heap.get? a = some { cls := .type "list", data := .seq vs.toArray }) (hi : IntsAre vs ns) (hl : ns.length <= sizeLine) (hr : Room k callerA)
 (F : ∀ base : Heap, K.In base -> base.Ns mainGlobals mg -> FnOk P w K mg base CX k fa fd [x] sp) (hbind : ∀ (s : Shared) (u : Value), BindsTo s fd ⟨[u], []⟩ [(x, u)])
 (hsp : ∀ H : Hp, Only H -> SqL K H a (ns.map V.int) -> sp [.ref a] H (fun v _ => v = .bl true) fun _ _ _ => False)
 (hCX : ∀ H e s', CX [] H s₁ (fun _ _ _ => False) e s' -> False) :
 codeAny (model P w) callerA (.call (.ref fa) ⟨[.ref a], []⟩) (fun r s' => r = .ok (.ret (.bool true)) ∧ OldK s₁.heap s'.heap ∧ s'.os = s₁.os ∧ AllBare s'.gens) s₁ := by
 have rv := vals_ints hi
 have lenV := hi.length
 -- from an abstract heap in which nothing but the script may be tracked
 have core : ∀ H : Hp, Only H -> SqL K H a (ns.map V.int) -> HOk P w H s₁.heap -> (∀ b, H b ≠ none -> b = a) -> (H a ≠ none -> K.lookup a = none) ->
  codeAny (model P w) callerA (.call (.ref fa) ⟨[.ref a], []⟩) (fun r s' => r = .ok (.ret (.bool true)) ∧ OldK s₁.heap s'.heap ∧ s'.os = s₁.os ∧ AllBare s'.gens) s₁ := by
  intro H hO hS hok hA hK
  have base_of : ∀ {b : Addr} {o : Obj}, s₁.heap.get? b = some o -> H b = none -> (hidT s₁.heap H).get? b = some o := fun e n => hidT_get e n
  have noA : ∀ {b : Addr} {o : Obj} {es : Array DictEntry} {ep : Nat}, s₁.heap.get? b = some o -> o.data = .dict es ep -> H b = none := fun {b o es ep} e d => by
   cases q : H b with
   | none => rfl
   | some u =>
    have e' : b = a := hA b (by rw [q]; simp)
    subst e'
    rw [ha] at e; cases e
    have d' : Data.seq vs.toArray _ = Data.dict es ep := d
    cases d'
  have nsK : ∀ {b : Addr} {m : Str -> Option Value}, s₁.heap.Ns b m -> (hidT s₁.heap H).Ns b m := fun {b m} ⟨o, es, ep, e, d, r⟩ => ⟨o, es, ep, base_of e (noA e d), d, r⟩
  have hKb : K.In (hidT s₁.heap H) := fun b o e => base_of (KX b o e) (by
   cases q : H b with
   | none => rfl
   | some u =>
    have e' : b = a := hA b (by rw [q]; simp)
    subst e'
    rw [hK (by rw [q]; simp)] at e; cases e)
  have hM : Mod K mg (hidT s₁.heap H) := ⟨hKb, nsK hns, ⟨mb, nsK hb, hbb⟩, let ⟨mc, h1, h2⟩ := hlim; ⟨mc, nsK h1, h2⟩⟩
  have e0 : Env0 P w K mg (hidT s₁.heap H) callerA [] s₁ H := ⟨rfl, hM, fun b o e => of_hidT e, Nat.le_of_eq (hidT_size _ _), trivial, fun b hb => absurd (show b ∈ ([] : List Addr) from hb) (by simp), hok, .of_eq hg⟩
  refine codeAny_mono ((F _ hKb (nsK hns)).run callerA [] s₁ H ⟨[.ref a], []⟩ [.ref a] [.ref a] _ _ hr e0 (hbind s₁ (.ref a)) (.cons rfl .nil) (hsp H hO hS)) fun r s' h => ?_
  cases r with
  | error e => exact (hCX H e s' h).elim
  | ok fl =>
   cases fl with
   | next => exact False.elim h
   | brk => exact False.elim h
   | cont => exact False.elim h
   | ret u =>
    obtain ⟨v, H', os, bare, un, hok', r', q⟩ := h
    have q' : v = .bl true := q
    subst q'
    obtain rfl : u = Value.bool true := r'
    refine ⟨rfl, OldK.of_keep fun b o e => ?_, os, bare⟩
    cases q : H b with
    | none => exact un.keep b o e q (by intro z; exact absurd (show b ∈ ([] : List Addr) from z) (by simp)) (by simp)
    | some u =>
     rcases hO b with z | ⟨ob, xs, z⟩
     · rw [q] at z; cases z
     · have z2 := un.frzs b ob _ z
       obtain ⟨e1, _⟩ := hok b _ z
       obtain ⟨e2, _⟩ := hok' b _ z2
       rw [e] at e1; cases e1
       exact e2
 cases hk : K.lookup a with
 | some o =>
  -- the script is one of the module's own objects
  have e := KX a o hk
  rw [ha] at e
  cases e
  refine core (fun _ => none) (fun _ => .inl rfl) (.inr ⟨_, vs.toArray, _, hk, rfl, rfl, rfl, by rw [List.size_toArray, lenV]; exact hl, by simpa using rv⟩) (fun b u z => by have z' : (none : Option HO) = some u := z; cases z') (fun b z => absurd rfl z) fun z => absurd rfl z
 | none =>
  refine core (fun b => if b = a then some (.frz { cls := .type "list", data := .seq vs.toArray } (.lst (ns.map V.int))) else none) (fun b => ?_) (.inl (.inr ⟨{ cls := .type "list", data := .seq vs.toArray }, if_pos rfl⟩)) (fun b u z => ?_) (fun b z => ?_) fun _ => hk
  · by_cases hb : b = a
    · exact .inr ⟨_, _, if_pos hb⟩
    · exact .inl (if_neg hb)
  · by_cases hb : b = a
    · have z' := (if_pos hb).symm.trans z
      cases z'
      subst hb
      exact ⟨ha, by rw [List.length_map]; exact hl, vs, _, rv, ha⟩
    · have z' := (if_neg hb).symm.trans z
      cases z'
  · by_cases hb : b = a
    · exact hb
    · exact absurd (if_neg hb) z
end L2
namespace L2
open PySem PySem.Spec PyProof.Rows
theorem walk_of {l : PySem.W.OpenLaw} {n k : Nat} {q : Program} {loose : List Str} {XP : (Str -> Option Value) -> Heap -> Prop} {YP : World -> Heap -> Prop} {d : DefRec} {K : Params -> PySem.W.Frag} {CX : World -> CXT} {sp : World -> Sp} {x : Str}
 (hn : l.most = some n) (hn2 : n <= sizeLine) (hdf : d.params.defaults = []) (hr : Room k callerA)
 (hY : ∀ (w : World) (h : Heap), YP w h -> (K w.params).In h)
 (F : ∀ (w : World) (mg : Str -> Option Value) (fa : Addr) (h : Heap), (K w.params).In h -> h.Ns mainGlobals mg -> mg d.name = some (.ref fa) ->
  ∃ fd : FuncData, (∀ (s : Shared) (u : Value), BindsTo s fd ⟨[u], []⟩ [(x, u)]) ∧
   ∀ base : Heap, (K w.params).In base -> base.Ns mainGlobals mg -> FnOk l.prog w (K w.params) mg base (CX w) k fa fd [x] (sp w))
 (hsp : ∀ (w : World) (H : Hp) (a : Addr) (ns : List Int), ns.length <= n -> Only H -> SqL (K w.params) H a (ns.map V.int) -> sp w [.ref a] H (fun v _ => v = .bl true) fun _ _ _ => False)
 (hCX : ∀ (w : World) (H : Hp) (s : Shared) (e : Value) (s' : Shared), CX w [] H s (fun _ _ _ => False) e s' -> False) :
 PySem.W.WalkO q loose XP YP l.row.toRowW d [] (fun f vs => PySem.call f vs) := by
 refine Att.attach_call hn hdf fun w s₀ s₁ mg mb fa o pm cd doc a vs ns G Y ho hd hcd hmg hobj hints hlen hg => ?_
 have KX := hY w _ Y
 obtain ⟨fd, hb, hF⟩ := F w mg fa _ KX G.T.g hmg
 exact law_call KX G.T.g G.T.b G.T.builtins G.T.nolimit hg hobj hints (Nat.le_trans hlen hn2) hr hF hb (fun H hO hS => hsp w H a ns hlen hO hS) fun H e s' => hCX w H s₁ e s'
end L2
namespace L2
open PySem PySem.Spec PyProof.Rows
def inClass (s : Stmt) (j : Nat) : Stmt := match s with
 | .ClassDef _ _ _ body _ _ _ _ _ _ _ => body.getD j (.Pass ⟨0, 0, 0, 0⟩)
 | _ => .Pass ⟨0, 0, 0, 0⟩
def defArgs (s : Stmt) : Arguments := match s with
 | .FunctionDef _ a _ _ _ _ _ _ _ _ => a
 | _ => { posonlyargs := [], args := [], vararg := none, kwonlyargs := [], kw_defaults := [], kwarg := none, defaults := [] }
def defBody (s : Stmt) : List Stmt := match s with
 | .FunctionDef _ _ b _ _ _ _ _ _ _ => b
 | _ => []
def defScope (s : Stmt) : Scope := match s with
 | .FunctionDef _ _ _ _ _ _ sc _ _ _ => sc
 | _ => { kind := .function, names := [], isGenerator := false, isCoroutine := false }
abbrev CX0 : CXT := fun _ _ _ _ _ _ => False
abbrev E0 : XK := fun _ _ _ => False
theorem pass0 {X : Cx} : Passes CX0 X E0 := fun _ _ _ _ _ _ _ h => h.elim
structure Fun (K : PySem.W.Frag) (x qual : Str) (st : Stmt) (f : Addr) (fd : FuncData) : Prop where
 ex : ∃ (oc : Value) (od : Option Addr) (kV doc pm : Value) (an : Option Addr) (cdv ct : Value) (osl : Array (Option Value)),
  fd = PySem.W.fnOf x qual (defArgs st) (defBody st) (defScope st) .none kV doc pm an cdv ct ∧ K.lookup f = some ⟨oc, od, .func fd, osl⟩ ∧ PySem.W.codeIn K cdv qual = true
 kp : PySem.W.keepIn K (.ref f) = true
section
variable {P : Program} {w : World} {K : PySem.W.Frag} {mg : Str -> Option Value} {base : Heap}
theorem Fun.ok {x qual : Str} {st : Stmt} {f : Addr} {fd : FuncData} {N ps : List Str} {k : Nat} {sp : Sp} (F : Fun K x qual st f fd) (S : FnScope N ps (defScope st)) (len : ∀ vs H Q E, sp vs H Q E -> vs.length = ps.length)
 (hbody : ∀ (cdv : Value) (A : Around) (outer : List Env) (s : Shared) (H : Hp) (vs : List V) (Q : VK) (E : XK), Room k (A.deeper (envOfC qual (defScope st) s.heap.objs.size f cdv)) -> sp vs H Q E ->
  ∃ t, PSs (cxOf CX0 P w K mg base N qual (defScope st) f cdv A outer s H E).nox (defBody st) t ∧ t { nx := fun _ H' => Q .non H', rt := Q } (start N vs) H) : FnOk P w K mg base CX0 (k + 1) f fd ps sp := by
 obtain ⟨oc, od, kV, doc, pm, an, cdv, ct, osl, rfl, lk, hcd⟩ := F.ex
 refine fn_of lk hcd S len fun A outer s H vs Q E hr hsp => ?_
 obtain ⟨t, h, q⟩ := hbody cdv A outer s H vs Q E hr hsp
 exact ⟨t, h.nox, q⟩
theorem Fun.binds {x qual : Str} {st : Stmt} {f : Addr} {fd : FuncData} {ps : List Str} (F : Fun K x qual st f fd)
 (h : ∀ (kV doc pm : Value) (an : Option Addr) (cdv ct : Value) (us : List Value), us.length = ps.length -> bindArgs (PySem.W.fnOf x qual (defArgs st) (defBody st) (defScope st) .none kV doc pm an cdv ct) ⟨us, []⟩ = pure (ps.zip us)) : Binds K fd ps [] := by
 obtain ⟨oc, od, kV, doc, pm, an, cdv, ct, osl, rfl, lk, hcd⟩ := F.ex
 exact .all (h kV doc pm an cdv ct)
theorem fun_mk {x qual : Str} {st : Stmt} {f : Addr} {oc : Value} {od an : Option Addr} {osl : Array (Option Value)} {kV doc pm cdv ct : Value} (l : K.lookup f = some ⟨oc, od, .func (PySem.W.fnOf x qual (defArgs st) (defBody st) (defScope st) .none kV doc pm an cdv ct), osl⟩)
 (c : PySem.W.codeIn K cdv qual = true) (k : PySem.W.keepIn K (.ref f) = true) : Fun K x qual st f (PySem.W.fnOf x qual (defArgs st) (defBody st) (defScope st) .none kV doc pm an cdv ct) := ⟨⟨oc, od, kV, doc, pm, an, cdv, ct, osl, rfl, l, c⟩, k⟩
end
theorem hu_of {A : Around} {k : Nat} (hr : Room k A) : A.units + 1 < cLine := Nat.lt_of_le_of_lt (Nat.add_le_add_left (by decide : 1 <= 64) _) hr.units
theorem small1000 {n : Nat} (h : n <= 1000) : n < sizeLine := Nat.lt_of_le_of_lt h (by decide)
theorem iteF {A B : Prop} (h : B) : if false = true then A else B := by
 rw [if_neg Bool.false_ne_true]
 exact h
theorem iteT {A B : Prop} (h : A) : if true = true then A else B := by
 rw [if_pos rfl]
 exact h
def Same (H H' : Hp) : Prop := ∀ b o, H b = some o -> H' b = some o
theorem Same.refl (H : Hp) : Same H H := fun _ _ h => h
theorem Same.trans {H H1 H2 : Hp} (a : Same H H1) (b : Same H1 H2) : Same H H2 := fun c o h => b c o (a c o h)
theorem Same.free {H H' : Hp} (e : Same H H') {l : Addr} (h : H' l = Option.none) : H l = Option.none := by
 cases q : H l with
 | none => rfl
 | some o =>
  rw [e l o q] at h
  cases h
end L2
namespace L2
open PySem PySem.Spec PyProof.Rows
end L2
namespace L2
open PySem PySem.Spec PyProof.Rows
end L2
namespace L2
open PySem PySem.Spec PyProof.Rows
end L2
namespace L2
open PySem PySem.Spec PyProof.Rows
end L2
namespace L2
open PySem PySem.Spec PyProof.Rows
end L2
namespace L2
open PySem PySem.Spec PyProof.Rows
end L2
namespace L2
open PySem PySem.Spec PyProof.Rows
end L2
namespace L2
open PySem PySem.Spec PyProof.Rows
end L2
namespace L2
open PySem PySem.Spec PyProof.Rows
end L2
namespace L2
open PySem PySem.Spec PyProof.Rows
end L2
namespace L2
open PySem PySem.Spec PyProof.Rows
section
variable {κ : Type} [DecidableEq κ]
def valV (kvs : List (κ × V)) (k : κ) : Option V := (kvs.find? fun kv => decide (kv.1 = k)).map (·.2)
def putK (kvs : List (κ × V)) (k : κ) (v : V) : List (κ × V) :=
 if (kvs.any fun kv => decide (kv.1 = k)) = true then kvs.map (fun kv => if kv.1 = k then (kv.1, v) else kv) else kvs ++ [(k, v)]
theorem valV_pos {p : κ × V} {r : List (κ × V)} {k : κ} (e : p.1 = k) : valV (p :: r) k = some p.2 := by simp [valV, List.find?_cons, e]
theorem valV_neg {p : κ × V} {r : List (κ × V)} {k : κ} (e : ¬ p.1 = k) : valV (p :: r) k = valV r k := by simp [valV, List.find?_cons, e]
theorem length_putK (kvs : List (κ × V)) (k : κ) (v : V) : (putK kvs k v).length <= kvs.length + 1 := by
 unfold putK
 split
 · rw [List.length_map]; omega
 · rw [List.length_append, List.length_cons, List.length_nil]; omega
theorem KV.val {kvs : List (κ × V)} {vs : List (κ × Value)} (r : KV kvs vs) (k : κ) : RelO (valV kvs k) (valueAt vs k) := by
 unfold KV at r
 induction r with
 | nil => exact True.intro
 | @cons p q ps qs h t ih =>
  obtain ⟨h1, h2⟩ := h
  by_cases e : p.1 = k
  · have e' : q.1 = k := h1.symm.trans e
    have b : valueAt (q :: qs) k = some q.2 := by simp [valueAt, List.find?_cons, e']
    rw [valV_pos e, b]; exact h2
  · have e' : ¬ q.1 = k := fun z => e (h1.trans z)
    have b : valueAt (q :: qs) k = valueAt qs k := by simp [valueAt, List.find?_cons, e']
    rw [valV_neg e, b]; exact ih
theorem KV.any {kvs : List (κ × V)} {vs : List (κ × Value)} (r : KV kvs vs) (k : κ) : (kvs.any fun kv => decide (kv.1 = k)) = vs.any fun kv => decide (kv.1 = k) := by
 unfold KV at r
 induction r with
 | nil => rfl
 | cons h t ih => rw [List.any_cons, List.any_cons, ih, h.1]
theorem KV.repl {kvs : List (κ × V)} {vs : List (κ × Value)} (r : KV kvs vs) (k : κ) {y : V} {u : Value} (ry : RelV y u) :
 KV (kvs.map fun kv => if kv.1 = k then (kv.1, y) else kv) (vs.map fun kv => if kv.1 = k then (kv.1, u) else kv) := by
 unfold KV at r ⊢
 induction r with
 | nil => exact .nil
 | @cons p q ps qs h t ih =>
  rw [List.map_cons, List.map_cons]
  refine .cons ?_ ih
  obtain ⟨h1, h2⟩ := h
  by_cases e : p.1 = k
  · rw [if_pos e, if_pos (h1.symm.trans e)]; exact ⟨h1, ry⟩
  · rw [if_neg e, if_neg (fun z => e (h1.trans z))]; exact ⟨h1, h2⟩
theorem KV.put {kvs : List (κ × V)} {vs : List (κ × Value)} (r : KV kvs vs) (k : κ) {y : V} {u : Value} (ry : RelV y u) : KV (putK kvs k y) (stored vs k u) := by
 unfold putK stored
 rw [r.any k]
 by_cases e : (vs.any fun kv => decide (kv.1 = k)) = true
 · rw [if_pos e, if_pos e]; exact r.repl k ry
 · rw [if_neg e, if_neg e]; exact Paired.snoc r ⟨rfl, ry⟩
end
theorem kV_is {P : Program} {w : World} {k : Key} {u : Value} (r : RelV (kV k) u) : (mixKind P w).is k u = true := by
 cases k with
 | inl i => obtain ⟨t, e⟩ := (show ∃ t, u = Value.int i t from r); subst e; exact mixKind_int P w i t
 | inr x => obtain ⟨t, e⟩ := (show ∃ t, u = Value.str x t from r); subst e; exact mixKind_str P w x t
theorem kV_inj {a b : Key} (e : kV a = kV b) : a = b := by
 cases a with
 | inl i => cases b with
  | inl j => have e' : V.int i = V.int j := e; injection e' with e'; rw [e']
  | inr y => exact nomatch (show V.int i = V.str y from e)
 | inr x => cases b with
  | inl j => exact nomatch (show V.str x = V.int j from e)
  | inr y => have e' : V.str x = V.str y := e; injection e' with e'; rw [e']
theorem kVs_inj : ∀ {a b : List Key}, a.map kV = b.map kV -> a = b
 | [], [], _ => rfl
 | [], _ :: _, e => by simp at e
 | _ :: _, [], e => by simp at e
 | x :: xs, y :: ys, e => by
  rw [List.map_cons, List.map_cons] at e
  injection e with e1 e2
  rw [kV_inj e1, kVs_inj e2]
theorem items_are {P : Program} {w : World} : ∀ {ks : List Key} {us : List Value}, Vals (ks.map kV) us -> ItemsAre (mixKind P w) ks us
 | [], _, r => by rw [List.map_nil] at r; cases r; exact .nil
 | k :: ks, _, r => by
  rw [List.map_cons] at r
  cases r with
  | cons h t => exact .cons (kV_is h) (items_are t)
abbrev KT (H : Hp) : List (List Key × V) -> List (List Key × Addr × Value) -> Prop := Paired fun p q => p.1 = q.1 ∧ H q.2.1 = some (.tup (p.1.map kV)) ∧ RelV p.2 q.2.2
theorem KT.val {H : Hp} {kvs : List (List Key × V)} {xs : List (List Key × Addr × Value)} (r : KT H kvs xs) (k : List Key) : RelO (valV kvs k) ((atKey xs k).map (·.2)) := by
 induction r with
 | nil => exact True.intro
 | @cons p q ps qs h t ih =>
  obtain ⟨h1, _, h2⟩ := h
  by_cases e : p.1 = k
  · have e' : q.1 = k := h1.symm.trans e
    have b : atKey (q :: qs) k = some q.2 := by simp [atKey, List.find?_cons, e']
    rw [valV_pos e, b]; exact h2
  · have e' : ¬ q.1 = k := fun z => e (h1.trans z)
    have b : atKey (q :: qs) k = atKey qs k := by simp [atKey, List.find?_cons, e']
    rw [valV_neg e, b]; exact ih
section
variable {P : Program} {w : World} {H : Hp} {h : Heap} {a : Addr}
theorem rd_of {u : HO} (ok : HOk P w H h) (e : Rd H a u) : ObjOk P w H h a u := e.ok ok
theorem dk_rd {kvs : List (Key × V)} (ok : HOk P w H h) (e : Rd H a (.dK kvs)) : kvs.length <= sizeLine ∧ (a == sysModules) = false ∧ ∃ vs, KV kvs vs ∧ h.DictOf (mixKind P w) a vs :=
 show ObjOk P w H h a (.dK kvs) from rd_of ok e
theorem dk_of {kvs : List (Key × V)} (ok : HOk P w H h) (e : H a = some (.dK kvs)) : kvs.length <= sizeLine ∧ (a == sysModules) = false ∧ ∃ vs, KV kvs vs ∧ h.DictOf (mixKind P w) a vs := dk_rd ok (.inl e)
theorem key_of {ks : List Key} (ok : HOk P w H h) (e : H a = some (.tup (ks.map kV))) : (tupleKind (mixKind P w)).is h ks a := by
 obtain ⟨_, its, r, o, h1, h2, n, h3⟩ := (show ObjOk P w H h a (.tup (ks.map kV)) from ok a _ e)
 exact ⟨o, its.toArray, n, h1, h2, h3, by simpa using items_are r⟩
theorem dt_rd {kvs : List (List Key × V)} (ok : HOk P w H h) (e : Rd H a (.dT kvs)) : kvs.length <= sizeLine ∧ (a == sysModules) = false ∧
 ∃ xs, KT H kvs xs ∧ h.DictOfH (tupleKind (mixKind P w)) a xs := by
 obtain ⟨z, y, xs, r, o, es, ep, h1, h2, h3, h4, h5⟩ := (show ObjOk P w H h a (.dT kvs) from rd_of ok e)
 refine ⟨z, y, xs, r, o, es, ep, h1, h2, h3, h4, fun x hx => ?_, h5⟩
 have all : ∀ {l : List (List Key × V)} {m : List (List Key × Addr × Value)}, KT H l m -> ∀ x ∈ m, (tupleKind (mixKind P w)).is h x.1 x.2.1 := by
  intro l m q
  induction q with
  | nil => intro x hx; exact nomatch hx
  | @cons p q ps qs hq t ih =>
   intro x hx
   rcases List.mem_cons.mp hx with e | hx
   · subst e
     exact key_of ok (by rw [<- hq.1]; exact hq.2.1)
   · exact ih x hx
 exact all r x hx
theorem dt_of {kvs : List (List Key × V)} (ok : HOk P w H h) (e : H a = some (.dT kvs)) : kvs.length <= sizeLine ∧ (a == sysModules) = false ∧
 ∃ xs, KT H kvs xs ∧ h.DictOfH (tupleKind (mixKind P w)) a xs := dt_rd ok (.inl e)
end
def DGet (H : Hp) (a : Addr) (y : V) (r : Option V) : Prop :=
 (∃ kvs k, Rd H a (.dK kvs) ∧ y = kV k ∧ r = valV kvs k) ∨ ∃ kvs k b, Rd H a (.dT kvs) ∧ y = .ref b ∧ H b = some (.tup (k.map kV)) ∧ r = valV kvs k
theorem DGet.k {H : Hp} {a : Addr} {kvs : List (Key × V)} {k : Key} (e : H a = some (.dK kvs)) : DGet H a (kV k) (valV kvs k) := .inl ⟨kvs, k, .inl e, rfl, rfl⟩
theorem DGet.t {H : Hp} {a b : Addr} {kvs : List (List Key × V)} {k : List Key} (e : H a = some (.dT kvs)) (eb : H b = some (.tup (k.map kV))) : DGet H a (.ref b) (valV kvs k) := .inr ⟨kvs, k, b, .inl e, rfl, eb, rfl⟩
section
variable {X : Cx} {pins : List (Addr × Obj)} {σ : St} {H : Hp} {s : Shared} {a : Addr} {y v : V} {u r : Value} {o : Option V} {A : Around} {E : Value -> Shared -> Prop}
theorem Inv.big (I : Inv X pins σ H s) : sysModules < s.heap.objs.size := by
 have h : mainGlobals < s.heap.objs.size := (I.mod.glob.keeps I.bk).lt
 exact Nat.lt_trans (by decide) h
theorem d_getItem {Q : Value -> Shared -> Prop} (hu : A.units + 1 < cLine) (I : Inv X pins σ H s) (g : DGet H a y (some v)) (ry : RelV y u) (h : ∀ w' s', Inv X pins σ H s' -> RelV v w' -> Q w' s') :
 wpAny (model X.prog X.w) A (getItem (.ref a) u) Q E s := by
 rcases g with ⟨kvs, k, e, ey, l⟩ | ⟨kvs, k, b, e, ey, eb, l⟩
 · subst ey
   obtain ⟨z, hd, vs, rel, dd⟩ := dk_rd I.hok e
   obtain ⟨w', hw, rw'⟩ := RelO.some_of (v := v) (o := valueAt vs k) (by rw [l]; exact rel.val k)
   exact wpAny_getItem_of (kV_is ry) dd.mapOf hw (h w' _ (I.tok _) rw')
 · subst ey
   cases (show u = Value.ref b from ry)
   obtain ⟨z, hd, xs, rel, dd⟩ := dt_rd I.hok e
   obtain ⟨w', hw, rw'⟩ := RelO.some_of (v := v) (o := (atKey xs k).map (·.2)) (by rw [l]; exact rel.val k)
   obtain ⟨p, hp, hp2⟩ := Option.map_eq_some_iff.mp hw
   refine wpAny_getItem_heap (tupleKind_room_in1 hu) (key_of I.hok eb) dd hp ?_
   rw [hp2]
   exact h w' _ (I.tok _) rw'
theorem d_write {h' : Heap} {t' : Nat} {ob : HO} (I : Inv X pins σ H s) (mu : Mut (H a)) (hs : Heap.SameBut a s.heap h') (he : ∃ q, h'.get? a = some q) (new : ObjOk X.prog X.w (upd H a ob) h' a ob) :
 Inv X pins σ (upd H a ob) { s with heap := h', toks := t' } :=
 I.write (x := a) (e := a) mu (.inl rfl) (fun b q hb z => (hs.2 b hb).trans z) he new
theorem dk_new {P : Program} {w : World} {H' : Hp} {h' : Heap} {kvs : List (Key × V)} {vs : List (Key × Value)} (z : kvs.length <= sizeLine) (hd : (a == sysModules) = false) (rel : KV kvs vs) (dd : h'.DictOf (mixKind P w) a vs) :
 ObjOk P w H' h' a (.dK kvs) := ⟨z, hd, vs, rel, dd⟩
end
def NoSl (i : Expr) : Prop := ∀ ov iv, subscripted i false ov iv = operate [ov, iv] (getItem ov iv)
theorem subD_of {prog : Program} {w : World} {A : Around} {E : Value -> Shared -> Prop} {s : Shared} {env : Env} {value slice : Expr} {pos : Pos} {T id : String} {Q : Value -> Shared -> Prop}
 (hl : typeLookup (.type T) "__getitem__" = pure (some (.builtin id))) (hs : NoSl slice)
 (h : wpAny (model prog w) A (eval value env) (fun o s₁ => wpAny (model prog w) A (eval slice env) (fun i s₂ => s₂.TypeIs o T ∧ wpAny (model prog w) A (getItem o i) Q E s₂) E s₁) E s) :
 wpAny (model prog w) A (eval (.Subscript value slice pos) env) Q E s := by
 refine Subscript_ (wpAny_mono h (fun o s₁ h₁ => wpAny_mono h₁ (fun i s₂ h₂ => ?_) fun _ _ x => x) fun _ _ x => x)
 obtain ⟨hT, h₂⟩ := h₂
 unfold subscriptTail
 refine wpAny_bind ?_
 rw [getitemInPython_of_ne hT.not_modules]
 refine wpAny_bind (wpAny_specialOf hT hl ?_)
 have fin : wpAny (model prog w) A (subscripted slice false o i) (fun r s₃ => wpAny (model prog w) A (letTemporaryGo value o r >>= fun _ => pure r) Q E s₃) E s₂ := by
  rw [hs o i]
  exact wpAny_operating (wpAny_mono h₂ (fun r s₃ h₃ => wpAny_bind (wpAny_letTemporaryGo (wpAny_pure h₃))) fun _ _ x => x)
 first
  | exact wpAny_pure (wpAny_bind fin)
  | exact wpAny_bind (wpAny_pure (wpAny_bind fin))
  | exact wpAny_bind fin
theorem dict_typeIs {X : Cx} {pins : List (Addr × Obj)} {σ : St} {H : Hp} {s : Shared} {a : Addr} {y : V} {o : Option V} (I : Inv X pins σ H s) (g : DGet H a y o) : s.TypeIs (.ref a) "dict" := by
 rcases g with ⟨kvs, k, e, _, _⟩ | ⟨kvs, k, b, e, _, _, _⟩
 · obtain ⟨_, _, vs, _, dd⟩ := dk_rd I.hok e
   exact dd.typeIs
 · obtain ⟨_, _, xs, _, dd⟩ := dt_rd I.hok e
   exact dd.typeIs
def tDGet (td ty : TE) : TE := fun σ H Q => td σ H fun x H1 => ty σ H1 fun y H2 => ∃ a v, x = .ref a ∧ DGet H2 a y (some v) ∧ Q v H2
section
variable {X : Cx} {o i e value : Expr} {pos pos' tpos : Pos} {td ty tv : TE}
theorem pe_dget (hu : X.A.units + 1 < cLine) (ho : PE X o td) (hi : PE X i ty) (hs : NoSl i) : PE X (.Subscript o i pos) (tDGet td ty) := by
 intro pins s σ H Q I h
 refine subD_of PySem.F.slot_dict_getitem.lookup hs (thn (ho pins s σ H _ I h) fun u s1 ⟨x, H1, I1, rx, q1⟩ => thn (hi pins s1 σ H1 _ I1 q1) fun iv s2 ⟨y, H2, I2, ry, a, v, ex, g, q2⟩ => ?_)
 subst ex
 obtain rfl : u = Value.ref a := rx
 exact ⟨dict_typeIs I2 g, d_getItem hu I2 g ry fun w' s3 I3 rw' => ⟨v, H2, I3, rw', q2⟩⟩
end
theorem dk_empty {P : Program} {w : World} {H : Hp} (h : Heap) (hb : sysModules < h.objs.size) : ObjOk P w H (h.push { cls := .type "dict", data := .dict #[] }) h.objs.size (.dK []) :=
 ⟨Nat.zero_le _, beq_eq_false_iff_ne.mpr (Ne.symm (Nat.ne_of_lt hb)), [], .nil, Heap.DictOf.new h⟩
def tPairs : List (TE × TE) -> St -> Hp -> (List (V × V) -> Hp -> Prop) -> Prop
 | [], _, H, Q => Q [] H
 | (tk, tv) :: r, σ, H, Q => tk σ H fun x H1 => tv σ H1 fun y H2 => tPairs r σ H2 fun ps H3 => Q ((x, y) :: ps) H3
abbrev VV : List (V × V) -> List (Value × Value) -> Prop := Paired fun p q => RelV p.1 q.1 ∧ RelV p.2 q.2
def PPs (X : Cx) (pos : Pos) (keys : List (Option Expr)) (values : List Expr) (trs : List (TE × TE)) : Prop :=
 ∀ (pins : List (Addr × Obj)) (s : Shared) (σ : St) (H : Hp) (Q : List (V × V) -> Hp -> Prop), Inv X pins σ H s -> tPairs trs σ H Q ->
  wpAny (model X.prog X.w) X.A (evalPairs (pairTrees keys values X.env pos)) (fun vs s' => ∃ ps H', Inv X pins σ H' s' ∧ VV ps vs ∧ Q ps H') X.xe s
theorem pps_nil {X : Cx} {pos : Pos} : PPs X pos [] [] [] := fun pins s σ H Q I h => pairTrees_nil_walk ⟨[], H, I, .nil, h⟩
theorem pps_cons {X : Cx} {pos : Pos} {k v : Expr} {ks : List (Option Expr)} {vs : List Expr} {tk tv : TE} {trs : List (TE × TE)} (hk : PE X k tk) (hv : PE X v tv) (hr : PPs X pos ks vs trs) :
 PPs X pos (some k :: ks) (v :: vs) ((tk, tv) :: trs) := fun pins s σ H Q I h =>
 pairTrees_cons_walk (thn (hk pins s σ H _ I h) fun u s1 ⟨x, H1, I1, rx, q1⟩ => thn (hv pins s1 σ H1 _ I1 q1) fun w2 s2 ⟨y, H2, I2, ry, q2⟩ =>
  thn (hr pins s2 σ H2 _ I2 q2) fun ws s3 ⟨ps, H3, I3, rel, q3⟩ => ⟨(x, y) :: ps, H3, I3, .cons ⟨rx, ry⟩ rel, q3⟩)
def mergeK (kvs more : List (Key × V)) : List (Key × V) := more.foldl (fun acc kv => putK acc kv.1 kv.2) kvs
theorem KV.merge : ∀ {more : List (Key × V)} {rs : List (Key × Value)} {kvs : List (Key × V)} {vs : List (Key × Value)}, KV more rs -> KV kvs vs -> KV (mergeK kvs more) (merged vs rs) := by
 intro more rs kvs vs r
 unfold KV at r
 induction r generalizing kvs vs with
 | nil => intro q; exact q
 | @cons p q ps qs h t ih =>
  intro r0
  have e : KV (putK kvs p.1 p.2) (stored vs q.1 q.2) := by
   have := r0.put p.1 h.2
   rw [<- h.1]; exact this
  exact ih e
theorem length_mergeK : ∀ (more kvs : List (Key × V)), (mergeK kvs more).length <= kvs.length + more.length
 | [], kvs => by show kvs.length <= kvs.length + 0; omega
 | p :: r, kvs => by
  have h1 := length_mergeK r (putK kvs p.1 p.2)
  have h2 := length_putK kvs p.1 p.2
  show (mergeK (putK kvs p.1 p.2) r).length <= _
  rw [List.length_cons]; omega
theorem carries_of {P : Program} {w : World} : ∀ {kvs : List (Key × V)} {ws : List (Value × Value)}, VV (kvs.map fun kv => (kV kv.1, kv.2)) ws -> ∃ rs, Carries (mixKind P w) ws rs ∧ KV kvs rs
 | [], _, r => by rw [List.map_nil] at r; cases r; exact ⟨[], True.intro, .nil⟩
 | p :: kvs, _, r => by
  rw [List.map_cons] at r
  cases r with
  | @cons a b as bs h t =>
   obtain ⟨rs, c, q⟩ := carries_of (P := P) (w := w) t
   obtain ⟨b1, b2⟩ := b
   exact ⟨(p.1, b2) :: rs, ⟨kV_is h.1, rfl, c⟩, .cons ⟨rfl, h.2⟩ q⟩
def tDisp (trs : List (TE × TE)) : TE := fun σ H Q => ∀ p, H p = none -> tPairs trs σ (upd H p (.dK [])) fun ps H2 => H2 p = some (.dK []) ∧ ∃ kvs : List (Key × V), ps = kvs.map (fun kv => (kV kv.1, kv.2)) ∧ kvs.length <= 15 ∧ Q (.ref p) (upd H2 p (.dK (mergeK [] kvs)))
theorem pe_disp {X : Cx} {pos : Pos} {keys : List (Option Expr)} {values : List Expr} {trs : List (TE × TE)} (h : PPs X pos keys values trs) (hall : keys.all (·.isSome) = true) (hl : keys.length = values.length) (h0 : keys ≠ [])
 (h15 : keys.length <= 15) : PE X (.Dict keys values pos) (tDisp trs) := by
 intro pins s σ H Q I q
 have hn := I.hok.fresh (Nat.le_refl s.heap.objs.size)
 have I1 := I.laid (a := s.heap.objs.size) (o := .dK []) (h' := s.heap.push { cls := .type "dict", data := .dict #[] }) (t' := s.toks) (fun _ _ q => Heap.get?_push_of_some _ q) (Nat.le_refl _) (dk_empty s.heap I.big)
 refine wpAny_Dict_walk (knd := mixKind X.prog X.w) hall hl h0 h15 (thn (h pins _ σ _ _ I1 (q _ hn)) fun ws s2 ⟨ps, H2, I2, rel, e, kvs, ep, lk, q2⟩ => ?_)
 subst ep
 obtain ⟨rs, c, rk⟩ := carries_of (P := X.prog) (w := X.w) rel
 obtain ⟨z, hd, vs0, r0, dd⟩ := dk_of I2.hok e
 cases r0
 refine ⟨rs, c, dd, fun h' dd' hs => ⟨.ref s.heap.objs.size, _, ?_, rfl, q2⟩⟩
 have hz : (mergeK [] kvs).length <= sizeLine := by
  have h1 := length_mergeK kvs []
  rw [List.length_nil] at h1
  rw [sizeLine_eq]; omega
 have he : ∃ q, h'.get? s.heap.objs.size = some q := let ⟨q, _, _, hq, _⟩ := dd'; ⟨q, hq⟩
 exact d_write I2 (by rw [e]; exact True.intro) hs he (dk_new hz hd (rk.merge .nil) dd')
structure M2 (X : Cx) (o : Expr) (m : Str) (apos : Pos) (e f : Expr) (cpos : Pos) : Prop where
 base : attributeBase o m X.env (eval o X.env) = eval o X.env
 few : ((backTo cpos (starEach [e, f] X.env)).all (fun x => !x.1) && (backToKw cpos (keywordEach [] X.env)).all (fun x => x.1.isSome)
  && decide (([e, f] : List Expr).length + ([] : List Keyword).length + (if ([] : List Keyword).isEmpty then 0 else 1) < 30)) = true
 line : (apos.endLine == cpos.line) = true
 trees : backTo cpos (starEach [e, f] X.env) = [(false, eval e X.env), (false, eval f X.env)]
def IsD (H : Hp) (a : Addr) : Prop := (∃ kvs, Rd H a (.dK kvs)) ∨ ∃ kvs, Rd H a (.dT kvs)
section
variable {X : Cx} {pins : List (Addr × Obj)} {σ : St} {H : Hp} {s : Shared} {a : Addr} {y d : V} {u r : Value} {o : Option V} {A : Around} {E : Value -> Shared -> Prop}
end
def tDGet2 (td ty tx : TE) : TE := fun σ H Q => td σ H fun x H1 => ∃ a, x = .ref a ∧ IsD H1 a ∧ ty σ H1 fun y H2 => tx σ H2 fun z H3 => ∃ o, DGet H3 a y o ∧ Q (o.getD z) H3
section
variable {X : Cx} {o e f : Expr} {apos cpos : Pos} {td ty tx : TE}
end
end L2
namespace Att
open PySem PySem.W PySem.Calls PyProof.Rows
end Att
namespace L2
open PySem PySem.Spec PyProof.Rows
end L2
namespace L2
open PySem PySem.Spec PyProof.Rows
end L2
namespace L2
open PySem PySem.Spec PyProof.Rows
end L2
namespace Y.DEq
open PySem PySem.SeqAt PySem.MeetsSeq PySem.AutoSeq1
abbrev dob (dd : Option Addr) (es : Array DictEntry) (n : Nat) (sl : Array (Option Value)) : Obj := ⟨.type "dict", dd, .dict es n, sl⟩
abbrev lob (T : String) (dd : Option Addr) (xs : Array Value) (n : Nat) (sl : Array (Option Value)) : Obj := ⟨.type T, dd, .seq xs n, sl⟩
section
variable (l b : Addr) (es : Array DictEntry) (xs : Array Value) (n m : Nat) (dd de : Option Addr) (sl sm : Array (Option Value)) (q : Bool) (i : Int) (z : Str) (t : Tok)
theorem dict_none : Meets (Builtin.«dict.__eq__» ⟨[.ref l, .none], []⟩) (fun _ R s => s.heap.get? l = some (dob dd es n sl) ∧ R (.ok (.ret .notImplemented)) s) :=
 .of_wp fun prog w A R s h => by
  obtain ⟨hp, g, d, tk, os⟩ := s
  obtain ⟨hl, h⟩ := h
  have f1 := F.sub_NoneType_dict
  wp_walk using wpAny_loadPart' hl
  exact ⟨_, rfl, h⟩
theorem dict_bool : Meets (Builtin.«dict.__eq__» ⟨[.ref l, .bool q], []⟩) (fun _ R s => s.heap.get? l = some (dob dd es n sl) ∧ R (.ok (.ret .notImplemented)) s) :=
 .of_wp fun prog w A R s h => by
  obtain ⟨hp, g, d, tk, os⟩ := s
  obtain ⟨hl, h⟩ := h
  have f1 := F.sub_bool_dict
  wp_walk using wpAny_loadPart' hl
  exact ⟨_, rfl, h⟩
theorem dict_int : Meets (Builtin.«dict.__eq__» ⟨[.ref l, .int i t], []⟩) (fun _ R s => s.heap.get? l = some (dob dd es n sl) ∧ R (.ok (.ret .notImplemented)) s) :=
 .of_wp fun prog w A R s h => by
  obtain ⟨hp, g, d, tk, os⟩ := s
  obtain ⟨hl, h⟩ := h
  have f1 := F.sub_int_dict
  wp_walk using wpAny_loadPart' hl
  exact ⟨_, rfl, h⟩
theorem dict_str : Meets (Builtin.«dict.__eq__» ⟨[.ref l, .str z t], []⟩) (fun _ R s => s.heap.get? l = some (dob dd es n sl) ∧ R (.ok (.ret .notImplemented)) s) :=
 .of_wp fun prog w A R s h => by
  obtain ⟨hp, g, d, tk, os⟩ := s
  obtain ⟨hl, h⟩ := h
  have f1 := F.sub_str_dict
  wp_walk using wpAny_loadPart' hl
  exact ⟨_, rfl, h⟩
theorem dict_list : Meets (Builtin.«dict.__eq__» ⟨[.ref l, .ref b], []⟩) (fun _ R s => s.heap.get? l = some (dob dd es n sl) ∧ s.heap.get? b = some (lob "list" de xs m sm) ∧ R (.ok (.ret .notImplemented)) s) :=
 .of_wp fun prog w A R s h => by
  obtain ⟨hp, g, d, tk, os⟩ := s
  obtain ⟨hl, hb, h⟩ := h
  have f1 := F.sub_list_dict
  wp_walk using wpAny_loadPart' hl, wpAny_loadPart' hb
  exact ⟨_, rfl, h⟩
theorem list_dict : Meets (Builtin.«list.__eq__» ⟨[.ref b, .ref l], []⟩) (fun _ R s => s.heap.get? l = some (dob dd es n sl) ∧ s.heap.get? b = some (lob "list" de xs m sm) ∧ R (.ok (.ret .notImplemented)) s) :=
 .of_wp fun prog w A R s h => by
  obtain ⟨hp, g, d, tk, os⟩ := s
  obtain ⟨hl, hb, h⟩ := h
  have f1 := F.sub_dict_list
  wp_walk using wpAny_loadPart' hl, wpAny_loadPart' hb
  exact ⟨_, rfl, h⟩
theorem dict_tuple : Meets (Builtin.«dict.__eq__» ⟨[.ref l, .ref b], []⟩) (fun _ R s => s.heap.get? l = some (dob dd es n sl) ∧ s.heap.get? b = some (lob "tuple" de xs m sm) ∧ R (.ok (.ret .notImplemented)) s) :=
 .of_wp fun prog w A R s h => by
  obtain ⟨hp, g, d, tk, os⟩ := s
  obtain ⟨hl, hb, h⟩ := h
  have f1 := F.sub_tuple_dict
  wp_walk using wpAny_loadPart' hl, wpAny_loadPart' hb
  exact ⟨_, rfl, h⟩
theorem tuple_dict : Meets (Builtin.«tuple.__eq__» ⟨[.ref b, .ref l], []⟩) (fun _ R s => s.heap.get? l = some (dob dd es n sl) ∧ s.heap.get? b = some (lob "tuple" de xs m sm) ∧ R (.ok (.ret .notImplemented)) s) :=
 .of_wp fun prog w A R s h => by
  obtain ⟨hp, g, d, tk, os⟩ := s
  obtain ⟨hl, hb, h⟩ := h
  have f1 := F.sub_dict_tuple
  wp_walk using wpAny_loadPart' hl, wpAny_loadPart' hb
  exact ⟨_, rfl, h⟩
theorem bool_dict : Meets (Builtin.«int.__eq__» ⟨[.bool q, .ref l], []⟩) (fun _ R s => s.heap.get? l = some (dob dd es n sl) ∧ R (.ok (.ret .notImplemented)) s) :=
 .of_wp fun prog w A R s h => by
  obtain ⟨hp, g, d, tk, os⟩ := s
  obtain ⟨hl, h⟩ := h
  wp_walk using wpAny_loadPart' hl, wpAny_load hl
  exact ⟨_, rfl, h⟩
theorem int_dict : Meets (Builtin.«int.__eq__» ⟨[.int i t, .ref l], []⟩) (fun _ R s => s.heap.get? l = some (dob dd es n sl) ∧ R (.ok (.ret .notImplemented)) s) :=
 .of_wp fun prog w A R s h => by
  obtain ⟨hp, g, d, tk, os⟩ := s
  obtain ⟨hl, h⟩ := h
  wp_walk using wpAny_loadPart' hl, wpAny_load hl
  exact ⟨_, rfl, h⟩
theorem str_dict : Meets (Builtin.«str.__eq__» ⟨[.str z t, .ref l], []⟩) (fun _ R s => s.heap.get? l = some (dob dd es n sl) ∧ R (.ok (.ret .notImplemented)) s) :=
 .of_wp fun prog w A R s h => by
  obtain ⟨hp, g, d, tk, os⟩ := s
  obtain ⟨hl, h⟩ := h
  wp_walk using wpAny_loadPart' hl, wpAny_load hl
  exact ⟨_, rfl, h⟩
end
def IsDct (h : Heap) (a : Addr) : Prop := ∃ dd es n sl, h.get? a = some (dob dd es n sl)
section
variable {A : Around} {s : Shared} {l b : Addr}
theorem rc_none  (hl : IsDct s.heap l) (hu : A.units < cLine) : RcAt A s (.none) (.ref l) false := fun prog w E Q h => by
 obtain ⟨dd, es, n, sl, ho⟩ := hl
 refine rc_eq_decline_or (k := false) (Ta := "NoneType") (rfl) ⟨_, ho, rfl⟩ (by decide) F.sub_dict_NoneType F.slot_NoneType_eq F.slot_dict_eq_refl (fun _ hq => ?_) (fun _ hq => ?_) (fun _ hq => wpAny_of_eq (rfl : isSame (.none) (.ref l) = pure false) hq) (.inr hu) h
 · exact call_gives F.slot_NoneType_eq rfl F.entry_NoneType_eq (F.args_NoneType_eq_2 _ _) (NoneType___eq___none_ref_0 l) hq
 · exact call_meets F.slot_dict_eq_refl ⟨_, ho, rfl⟩ F.entry_dict_eq (F.args_dict_eq_2 _ _) (dict_none l es n dd sl) ⟨ho, hq⟩
theorem at_none  (hl : IsDct s.heap l) (hu : A.units < cLine) : EqAt A s (.none) (.ref l) false := fun prog w E Q h => by
 unfold eqBool
 refine wpAny_holding (wpAny_ite_split (fun hab => absurd (eq_of_beq hab) nofun) fun _ => ?_)
 exact wpAny_bind (rc_none  hl hu prog w E _ (wpAny_truthy_bool h))
theorem rc_bool (q : Bool) (hl : IsDct s.heap l) (hu : A.units < cLine) : RcAt A s (.bool q) (.ref l) false := fun prog w E Q h => by
 obtain ⟨dd, es, n, sl, ho⟩ := hl
 refine rc_eq_decline_or (k := false) (Ta := "bool") (rfl) ⟨_, ho, rfl⟩ (by decide) F.sub_dict_bool F.slot_bool_eq F.slot_dict_eq_refl (fun _ hq => ?_) (fun _ hq => ?_) (fun _ hq => wpAny_of_eq (rfl : isSame (.bool q) (.ref l) = pure false) hq) (.inr hu) h
 · exact call_meets F.slot_bool_eq rfl F.entry_int_eq (F.args_int_eq_2 _ _) (bool_dict l es n dd sl q) ⟨ho, hq⟩
 · exact call_meets F.slot_dict_eq_refl ⟨_, ho, rfl⟩ F.entry_dict_eq (F.args_dict_eq_2 _ _) (dict_bool l es n dd sl q) ⟨ho, hq⟩
theorem at_bool (q : Bool) (hl : IsDct s.heap l) (hu : A.units < cLine) : EqAt A s (.bool q) (.ref l) false := fun prog w E Q h => by
 unfold eqBool
 refine wpAny_holding (wpAny_ite_split (fun hab => absurd (eq_of_beq hab) nofun) fun _ => ?_)
 exact wpAny_bind (rc_bool q hl hu prog w E _ (wpAny_truthy_bool h))
theorem rc_int (i : Int) (t : Tok) (hl : IsDct s.heap l) (hu : A.units < cLine) : RcAt A s (.int i t) (.ref l) false := fun prog w E Q h => by
 obtain ⟨dd, es, n, sl, ho⟩ := hl
 refine rc_eq_decline_or (k := false) (Ta := "int") (typeIs_int s i t) ⟨_, ho, rfl⟩ (by decide) F.sub_dict_int F.slot_int_eq F.slot_dict_eq_refl (fun _ hq => ?_) (fun _ hq => ?_) (fun _ hq => wpAny_of_eq (rfl : isSame (.int i t) (.ref l) = pure false) hq) (.inr hu) h
 · exact call_meets F.slot_int_eq (typeIs_int s i t) F.entry_int_eq (F.args_int_eq_2 _ _) (int_dict l es n dd sl i t) ⟨ho, hq⟩
 · exact call_meets F.slot_dict_eq_refl ⟨_, ho, rfl⟩ F.entry_dict_eq (F.args_dict_eq_2 _ _) (dict_int l es n dd sl i t) ⟨ho, hq⟩
theorem at_int (i : Int) (t : Tok) (hl : IsDct s.heap l) (hu : A.units < cLine) : EqAt A s (.int i t) (.ref l) false := fun prog w E Q h => by
 unfold eqBool
 refine wpAny_holding (wpAny_ite_split (fun hab => absurd (eq_of_beq hab) nofun) fun _ => ?_)
 exact wpAny_bind (rc_int i t hl hu prog w E _ (wpAny_truthy_bool h))
theorem rc_str (z : Str) (t : Tok) (hl : IsDct s.heap l) (hu : A.units < cLine) : RcAt A s (.str z t) (.ref l) false := fun prog w E Q h => by
 obtain ⟨dd, es, n, sl, ho⟩ := hl
 refine rc_eq_decline_or (k := false) (Ta := "str") (typeIs_str s z t) ⟨_, ho, rfl⟩ (by decide) F.sub_dict_str F.slot_str_eq F.slot_dict_eq_refl (fun _ hq => ?_) (fun _ hq => ?_) (fun _ hq => wpAny_of_eq (rfl : isSame (.str z t) (.ref l) = pure false) hq) (.inr hu) h
 · exact call_meets F.slot_str_eq (typeIs_str s z t) F.entry_str_eq (F.args_str_eq_2 _ _) (str_dict l es n dd sl z t) ⟨ho, hq⟩
 · exact call_meets F.slot_dict_eq_refl ⟨_, ho, rfl⟩ F.entry_dict_eq (F.args_dict_eq_2 _ _) (dict_str l es n dd sl z t) ⟨ho, hq⟩
theorem at_str (z : Str) (t : Tok) (hl : IsDct s.heap l) (hu : A.units < cLine) : EqAt A s (.str z t) (.ref l) false := fun prog w E Q h => by
 unfold eqBool
 refine wpAny_holding (wpAny_ite_split (fun hab => absurd (eq_of_beq hab) nofun) fun _ => ?_)
 exact wpAny_bind (rc_str z t hl hu prog w E _ (wpAny_truthy_bool h))
theorem ne_list {xs : Array Value} (hb : s.heap.IsList b xs) (hl : IsDct s.heap l) : b ≠ l := fun e => by
 subst e
 obtain ⟨o, ho, hc, _⟩ := hb
 obtain ⟨dd, es, n, sl, ho2⟩ := hl
 rw [ho] at ho2
 cases ho2
 exact absurd hc (by simp)
theorem rc_list {xs : Array Value} (hb : s.heap.IsList b xs) (hl : IsDct s.heap l) (hu : A.units < cLine) : RcAt A s (.ref b) (.ref l) false := fun prog w E Q h => by
 have hne := ne_list hb hl
 obtain ⟨dd, es, n, sl, ho⟩ := hl
 obtain ⟨⟨cls, de, data, sm⟩, hb1, hc, m, hd⟩ := id hb
 simp only at hc hd
 subst hc hd
 refine rc_eq_decline_or (k := false) (Ta := "list") ⟨_, hb1, rfl⟩ ⟨_, ho, rfl⟩ (by decide) F.sub_dict_list F.slot_list_eq F.slot_dict_eq_refl (fun _ hq => ?_) (fun _ hq => ?_) (fun _ hq => wpAny_isSame_ref_other hne hb1 ho (by simp) hq) (.inr hu) h
 · exact call_meets F.slot_list_eq ⟨_, hb1, rfl⟩ F.entry_list_eq (F.args_list_eq_2 _ _) (list_dict l b es xs n m dd de sl sm) ⟨ho, hb1, hq⟩
 · exact call_meets F.slot_dict_eq_refl ⟨_, ho, rfl⟩ F.entry_dict_eq (F.args_dict_eq_2 _ _) (dict_list l b es xs n m dd de sl sm) ⟨ho, hb1, hq⟩
theorem at_list {xs : Array Value} (hb : s.heap.IsList b xs) (hl : IsDct s.heap l) (hu : A.units < cLine) : EqAt A s (.ref b) (.ref l) false := .of_refs (ne_list hb hl) (rc_list hb hl hu)
theorem ne_tuple {xs : Array Value} (hb : s.heap.IsTuple b xs) (hl : IsDct s.heap l) : b ≠ l := fun e => by
 subst e
 obtain ⟨o, ho, hc, _⟩ := hb
 obtain ⟨dd, es, n, sl, ho2⟩ := hl
 rw [ho] at ho2
 cases ho2
 exact absurd hc (by simp)
theorem rc_tuple {xs : Array Value} (hb : s.heap.IsTuple b xs) (hl : IsDct s.heap l) (hu : A.units < cLine) : RcAt A s (.ref b) (.ref l) false := fun prog w E Q h => by
 have hne := ne_tuple hb hl
 obtain ⟨dd, es, n, sl, ho⟩ := hl
 obtain ⟨⟨cls, de, data, sm⟩, hb1, hc, m, hd⟩ := id hb
 simp only at hc hd
 subst hc hd
 refine rc_eq_decline_or (k := false) (Ta := "tuple") ⟨_, hb1, rfl⟩ ⟨_, ho, rfl⟩ (by decide) F.sub_dict_tuple F.slot_tuple_eq F.slot_dict_eq_refl (fun _ hq => ?_) (fun _ hq => ?_) (fun _ hq => wpAny_isSame_ref_other' hne hb1 ho (by simp) hq) (.inr hu) h
 · exact call_meets F.slot_tuple_eq ⟨_, hb1, rfl⟩ F.entry_tuple_eq (F.args_tuple_eq_2 _ _) (tuple_dict l b es xs n m dd de sl sm) ⟨ho, hb1, hq⟩
 · exact call_meets F.slot_dict_eq_refl ⟨_, ho, rfl⟩ F.entry_dict_eq (F.args_dict_eq_2 _ _) (dict_tuple l b es xs n m dd de sl sm) ⟨ho, hb1, hq⟩
theorem at_tuple {xs : Array Value} (hb : s.heap.IsTuple b xs) (hl : IsDct s.heap l) (hu : A.units < cLine) : EqAt A s (.ref b) (.ref l) false := .of_refs (ne_tuple hb hl) (rc_tuple hb hl hu)
end
end Y.DEq
set_option autoImplicit false
set_option maxHeartbeats 4000000
namespace Y
open PySem PySem.Spec PyProof.Rows L2
theorem el13 {α : Sort _} {B C D : α → Prop} {R : Prop} (h : ∃ a, B a ∧ C a ∧ D a) (f : ∀ a, B a → C a → D a → R) : R := by
 obtain ⟨a, b, c, d⟩ := h
 exact f a b c d
theorem el33 {α β γ : Sort _} {B C D : α → β → γ → Prop} {R : Prop} (h : ∃ a b c, B a b c ∧ C a b c ∧ D a b c) (f : ∀ a b c, B a b c → C a b c → D a b c → R) : R := by
 obtain ⟨a, b, c, x, y, z⟩ := h
 exact f a b c x y z
abbrev St := L2.St
class Tabs where
 T : List (Addr × Str)
variable [Tabs]
def isT : HO -> Bool
 | .tbl _ => true
 | _ => false
def recO (c : Addr) (q : Str) : HO := .ext fun h => h.CodeRec (.ref c) q
def TabsOk (H : Hp) : Prop := ∀ P ∈ Tabs.T, ∃ ps, H P.1 = some (.tbl ps) ∧ TriplesOk ps.toList ∧ ∀ pos cv, codeAmong pos ps.toList = some cv -> ∃ c, cv = .ref c ∧ H c = some (recO c P.2)
structure Same (H H' : Hp) : Prop where
 get : ∀ b o, H b = some o -> isT o = false -> H' b = some o
 tbl : ∀ b ps, H b = some (.tbl ps) -> ∃ ps', H' b = some (.tbl ps')
 tabs : TabsOk H -> TabsOk H'
theorem Same.at {H H' : Hp} (s : Same H H') {b : Addr} {o : HO} (h : H b = some o) (n : isT o = false := by rfl) : H' b = some o := s.get b o h n
theorem Same.refl (H : Hp) : Same H H := ⟨fun _ _ h _ => h, fun _ ps h => ⟨ps, h⟩, fun t => t⟩
theorem Same.trans {H H1 H2 : Hp} (a : Same H H1) (b : Same H1 H2) : Same H H2 :=
 ⟨fun c o h n => b.get c o (a.get c o h n) n, fun c ps h => let ⟨ps', e⟩ := a.tbl c ps h; b.tbl c ps' e, fun t => b.tabs (a.tabs t)⟩
theorem Same.free {H H' : Hp} (e : Same H H') {l : Addr} (h : H' l = Option.none) : H l = Option.none := by
 cases q : H l with
 | none => rfl
 | some o =>
  cases n : isT o with
  | false => rw [e.get l o q n] at h; cases h
  | true =>
   cases o with
   | tbl ps => obtain ⟨ps', z⟩ := e.tbl l ps q; rw [z] at h; cases h
   | _ => cases n
inductive DO where
 | k (kvs : List (Key × V))
 | t (kvs : List (List Key × V))
def DO.ho : DO -> HO
 | .k kvs => .dK kvs
 | .t kvs => .dT kvs
inductive MO where
 | l (xs : List V)
 | d (o : DO)
def MO.ho : MO -> HO
 | .l xs => .lst xs
 | .d o => o.ho
theorem MO.nt (o : MO) : isT o.ho = false := by
 rcases o with xs | (kvs | kvs) <;> rfl
theorem DO.inj {o o' : DO} (h : o.ho = o'.ho) : o = o' := by
 cases o <;> cases o' <;> cases h <;> rfl
theorem MO.ntup (o : MO) {xs : List V} (h : o.ho = .tup xs) : False := by
 rcases o with xs | (kvs | kvs) <;> cases h
theorem MO.nfrz (o : MO) {b : Obj} {u : HO} (h : o.ho = .frz b u) : False := by
 rcases o with xs | (kvs | kvs) <;> cases h
theorem TabsOk.upd {H : Hp} {p : Addr} {o : HO} (h : H p = none ∨ ∃ xs : MO, H p = some xs.ho) (t : TabsOk H) : TabsOk (upd H p o) := fun P hP => by
 obtain ⟨ps, e, tr, k⟩ := t P hP
 have ne : ∀ {b : Addr} {u : HO}, H b = some u -> (∀ xs : MO, u ≠ xs.ho) -> b ≠ p := fun {b u} q n z => by
  rcases h with h | ⟨xs, h⟩
  · rw [z, h] at q; cases q
  · rw [z, h] at q; exact n xs (Option.some.inj q).symm
 refine ⟨ps, by rw [upd_ne (ne e (by intro xs z; rcases xs with xs | (kvs | kvs) <;> cases z))]; exact e, tr, fun pos cv q => ?_⟩
 obtain ⟨c, rfl, hc⟩ := k pos cv q
 exact ⟨c, rfl, by rw [upd_ne (ne hc (by intro xs z; rcases xs with xs | (kvs | kvs) <;> cases z))]; exact hc⟩
theorem Same.writeM {H H' : Hp} {l : Addr} {xs : MO} {o : HO} (s : Same H H') (h : H l = none) (h' : H' l = some xs.ho) : Same H (upd H' l o) :=
 ⟨fun b u e n => by rw [upd_ne (ne_of_none e h)]; exact s.get b u e n, fun b ps e => by rw [upd_ne (ne_of_none e h)]; exact s.tbl b ps e, fun t => (s.tabs t).upd (.inr ⟨xs, h'⟩)⟩
theorem Same.write {H H' : Hp} {l : Addr} {xs : List V} {o : HO} (s : Same H H') (h : H l = none) (h' : H' l = some (.lst xs)) : Same H (upd H' l o) := s.writeM (xs := .l xs) h h'
inductive D where
 | non
 | bl (b : Bool)
 | int (i : Int)
 | str (x : Str)
 | lst (ds : List D)
 | tup (ds : List D)
 | dct (o : DO)
 | ktup (ks : List Key)
def kD : Key -> D
 | .inl i => .int i
 | .inr x => .str x
structure Zone where
 m : Bool
 S : Addr -> Prop
def RO (K : PySem.W.Frag) (H : Hp) (a : Addr) (xs : List V) : Prop :=
 (∃ o, H a = some (.frz o (.lst xs))) ∨
  ∃ (o : Obj) (its : Array Value) (n : Nat), K.lookup a = some o ∧ o.cls = .type "list" ∧ o.dict = none ∧ o.data = .seq its n ∧ its.size <= sizeLine ∧ Vals xs its.toList
def LstAt (K : PySem.W.Frag) (H : Hp) (Z : Zone) (a : Addr) (xs : List V) : Prop := (H a = some (.lst xs) ∧ Z.S a) ∨ (Z.m = false ∧ RO K H a xs)
theorem LstAt.sq {K : PySem.W.Frag} {H : Hp} {Z : Zone} {a : Addr} {xs : List V} (h : LstAt K H Z a xs) : SqL K H a xs := by
 rcases h with ⟨h, _⟩ | ⟨_, h | h⟩
 · exact .inl (.inl h)
 · exact .inl (.inr h)
 · exact .inr h
def KTup (K : PySem.W.Frag) (a : Addr) (ks : List Key) : Prop := ∃ (o : Obj) (its : Array Value) (n : Nat), K.lookup a = some o ∧ o.cls = .type "tuple" ∧ o.data = .seq its n ∧ its.size <= sizeLine ∧ Vals (ks.map kV) its.toList
mutual
def In (K : PySem.W.Frag) (H : Hp) (Z : Zone) : D -> V -> Prop
 | .non, v => v = .non
 | .bl b, v => v = .bl b
 | .int i, v => v = .int i
 | .str x, v => v = .str x
 | .lst ds, v => ∃ a xs, v = .ref a ∧ LstAt K H Z a xs ∧ Ins K H Z ds xs
 | .tup ds, v => ∃ a xs, v = .ref a ∧ H a = some (.tup xs) ∧ Ins K H Z ds xs
 | .dct o, v => ∃ a, v = .ref a ∧ H a = some o.ho ∧ Z.S a
 | .ktup ks, v => ∃ a, v = .ref a ∧ KTup K a ks
def Ins (K : PySem.W.Frag) (H : Hp) (Z : Zone) : List D -> List V -> Prop
 | [], xs => xs = []
 | d :: ds, xs => ∃ v vs, xs = v :: vs ∧ In K H Z d v ∧ Ins K H Z ds vs
end
structure Carry (K : PySem.W.Frag) (H : Hp) (Z : Zone) (H' : Hp) (Z' : Zone) : Prop where
 l : ∀ a (xs : MO), H a = some xs.ho -> Z.S a -> H' a = some xs.ho ∧ Z'.S a
 r : Z.m = false -> Z'.m = false ∧ ∀ a xs, RO K H a xs -> RO K H' a xs
 t : ∀ a (xs : List V), H a = some (.tup xs) -> H' a = some (.tup xs)
section
variable {K : PySem.W.Frag} {H H' H2 : Hp} {Z Z' Z2 : Zone}
theorem LstAt.carry {a : Addr} {xs : List V} (c : Carry K H Z H' Z') (h : LstAt K H Z a xs) : LstAt K H' Z' a xs := by
 rcases h with ⟨h, s⟩ | ⟨m, h⟩
 · exact .inl (c.l a (.l xs) h s)
 · exact .inr ⟨(c.r m).1, (c.r m).2 a xs h⟩
mutual
theorem In.carry (c : Carry K H Z H' Z') : ∀ {d : D} {v : V}, In K H Z d v -> In K H' Z' d v
 | .non, _, h => by unfold In at h ⊢; exact h
 | .bl _, _, h => by unfold In at h ⊢; exact h
 | .int _, _, h => by unfold In at h ⊢; exact h
 | .str _, _, h => by unfold In at h ⊢; exact h
 | .lst ds, v, h => by
  unfold In at h ⊢
  obtain ⟨a, xs, e, l, i⟩ := h
  exact ⟨a, xs, e, l.carry c, Ins.carry c i⟩
 | .tup ds, v, h => by
  unfold In at h ⊢
  obtain ⟨a, xs, e, l, i⟩ := h
  exact ⟨a, xs, e, c.t a xs l, Ins.carry c i⟩
 | .dct o, v, h => by
  unfold In at h ⊢
  obtain ⟨a, e, l, i⟩ := h
  exact ⟨a, e, c.l a (.d o) l i⟩
 | .ktup ks, v, h => by unfold In at h ⊢; exact h
theorem Ins.carry (c : Carry K H Z H' Z') : ∀ {ds : List D} {vs : List V}, Ins K H Z ds vs -> Ins K H' Z' ds vs
 | [], _, h => by unfold Ins at h ⊢; exact h
 | d :: ds, vs, h => by
  unfold Ins at h ⊢
  obtain ⟨v, r, e, i, j⟩ := h
  exact ⟨v, r, e, In.carry c i, Ins.carry c j⟩
end
theorem RO.same {a : Addr} {xs : List V} (s : Same H H') (h : RO K H a xs) : RO K H' a xs := by
 rcases h with ⟨o, h⟩ | h
 · exact .inl ⟨o, s.at h⟩
 · exact .inr h
theorem Carry.of (s : Same H H') (hS : ∀ a (xs : MO), H a = some xs.ho -> Z.S a -> Z'.S a) (hm : Z.m = false -> Z'.m = false) : Carry K H Z H' Z' :=
 ⟨fun a xs h z => ⟨s.at h xs.nt, hS a xs h z⟩, fun m => ⟨hm m, fun a xs h => h.same s⟩, fun a xs h => s.at h⟩
theorem Carry.same (s : Same H H') : Carry K H Z H' Z := .of s (fun _ _ _ z => z) fun m => m
theorem In.same {d : D} {v : V} (s : Same H H') (h : In K H Z d v) : In K H' Z d v := h.carry (.same s)
theorem Ins.same {ds : List D} {vs : List V} (s : Same H H') (h : Ins K H Z ds vs) : Ins K H' Z ds vs := h.carry (.same s)
theorem Carry.writeM {l : Addr} {xs : MO} {o : HO} (h : H l = some xs.ho) (n : ¬ Z.S l) : Carry K H Z (upd H l o) Z := by
 refine ⟨fun a zs e z => ⟨?_, z⟩, fun m => ⟨m, fun a zs e => ?_⟩, fun a zs e => ?_⟩
 · have : a ≠ l := by rintro rfl; exact n z
   rw [upd_ne this]; exact e
 · rcases e with ⟨o, e⟩ | e
   · refine .inl ⟨o, ?_⟩
     rw [upd_ne (ne_of e h (by intro q; exact xs.nfrz q.symm))]; exact e
   · exact .inr e
 · rw [upd_ne (ne_of e h (by intro q; exact xs.ntup q.symm))]; exact e
theorem Carry.write {l : Addr} {xs ys : List V} (h : H l = some (.lst xs)) (n : ¬ Z.S l) : Carry K H Z (upd H l (.lst ys)) Z := Carry.writeM (xs := .l xs) h n
mutual
def D.flat : D -> Bool
 | .lst _ => false
 | .dct _ => false
 | .tup ds => flats ds
 | _ => true
def flats : List D -> Bool
 | [] => true
 | d :: ds => D.flat d && flats ds
end
mutual
theorem In.flat (s : ∀ a (xs : List V), H a = some (.tup xs) -> H' a = some (.tup xs)) : ∀ {d : D} {v : V}, D.flat d = true -> In K H Z d v -> In K H' Z' d v
 | .non, _, _, h => by unfold In at h ⊢; exact h
 | .bl _, _, _, h => by unfold In at h ⊢; exact h
 | .int _, _, _, h => by unfold In at h ⊢; exact h
 | .str _, _, _, h => by unfold In at h ⊢; exact h
 | .lst ds, v, f, h => by unfold D.flat at f; cases f
 | .dct o, v, f, h => by unfold D.flat at f; cases f
 | .ktup ks, v, f, h => by unfold In at h ⊢; exact h
 | .tup ds, v, f, h => by
  unfold D.flat at f
  unfold In at h ⊢
  obtain ⟨a, xs, e, l, i⟩ := h
  exact ⟨a, xs, e, s a xs l, Ins.flat s f i⟩
theorem Ins.flat (s : ∀ a (xs : List V), H a = some (.tup xs) -> H' a = some (.tup xs)) : ∀ {ds : List D} {vs : List V}, flats ds = true -> Ins K H Z ds vs -> Ins K H' Z' ds vs
 | [], _, _, h => by unfold Ins at h ⊢; exact h
 | d :: ds, vs, f, h => by
  unfold flats at f
  rw [Bool.and_eq_true] at f
  unfold Ins at h ⊢
  obtain ⟨v, r, e, i, j⟩ := h
  exact ⟨v, r, e, In.flat s f.1 i, Ins.flat s f.2 j⟩
end
theorem In.flat' {d : D} {v : V} (f : d.flat = true) (h : In K H Z d v) : In K H Z' d v := In.flat (fun _ _ e => e) f h
theorem Ins.flat' {ds : List D} {vs : List V} (f : flats ds = true) (h : Ins K H Z ds vs) : Ins K H Z' ds vs := Ins.flat (fun _ _ e => e) f h
theorem in_non {v : V} : In K H Z .non v ↔ v = .non := by unfold In; exact Iff.rfl
theorem in_bl {b : Bool} {v : V} : In K H Z (.bl b) v ↔ v = .bl b := by unfold In; exact Iff.rfl
theorem in_int {i : Int} {v : V} : In K H Z (.int i) v ↔ v = .int i := by unfold In; exact Iff.rfl
theorem in_str {x : Str} {v : V} : In K H Z (.str x) v ↔ v = .str x := by unfold In; exact Iff.rfl
theorem in_lst {ds : List D} {v : V} : In K H Z (.lst ds) v ↔ ∃ a xs, v = .ref a ∧ LstAt K H Z a xs ∧ Ins K H Z ds xs := by unfold In; exact Iff.rfl
theorem in_tup {ds : List D} {v : V} : In K H Z (.tup ds) v ↔ ∃ a xs, v = .ref a ∧ H a = some (.tup xs) ∧ Ins K H Z ds xs := by unfold In; exact Iff.rfl
theorem in_tupS {ds : List D} {v : V} (h : In K H Z (.tup ds) v) : ∃ a xs, v = .ref a ∧ SqT K H a xs ∧ Ins K H Z ds xs :=
 let ⟨a, xs, e, l, i⟩ := in_tup.mp h
 ⟨a, xs, e, .inl (.inl l), i⟩
theorem in_ktup {ks : List Key} {v : V} : In K H Z (.ktup ks) v ↔ ∃ a, v = .ref a ∧ KTup K a ks := by unfold In; exact Iff.rfl
theorem KTup.sq {a : Addr} {ks : List Key} (h : KTup K a ks) : SqT K H a (ks.map kV) := by
 obtain ⟨o, its, n, h1, h2, h3, h4, h5⟩ := h
 exact .inr ⟨o, its, n, h1, h2, h3, h4, h5⟩
theorem in_dct {o : DO} {v : V} : In K H Z (.dct o) v ↔ ∃ a, v = .ref a ∧ H a = some o.ho ∧ Z.S a := by unfold In; exact Iff.rfl
theorem ins_nil {vs : List V} : Ins K H Z [] vs ↔ vs = [] := by unfold Ins; exact Iff.rfl
theorem ins_cons {d : D} {ds : List D} {vs : List V} : Ins K H Z (d :: ds) vs ↔ ∃ v r, vs = v :: r ∧ In K H Z d v ∧ Ins K H Z ds r := by
 constructor
 · intro h; unfold Ins at h; exact h
 · intro h; unfold Ins; exact h
theorem Ins.length : ∀ {ds : List D} {vs : List V}, Ins K H Z ds vs -> ds.length = vs.length
 | [], _, h => by rw [ins_nil.mp h]; rfl
 | d :: ds, _, h => by
  obtain ⟨v, r, rfl, _, j⟩ := ins_cons.mp h
  rw [List.length_cons, List.length_cons, Ins.length j]
theorem Ins.get : ∀ {ds : List D} {vs : List V} {i : Nat} {d : D}, Ins K H Z ds vs -> ds[i]? = some d -> ∃ v, vs[i]? = some v ∧ In K H Z d v
 | [], _, _, _, _, e => by simp at e
 | d :: ds, _, 0, _, h, e => by
  obtain ⟨v, r, rfl, a, _⟩ := ins_cons.mp h
  simp at e; subst e
  exact ⟨v, rfl, a⟩
 | d :: ds, _, i + 1, d', h, e => by
  obtain ⟨v, r, rfl, _, j⟩ := ins_cons.mp h
  obtain ⟨w, h1, h2⟩ := Ins.get (i := i) (d := d') j (by simpa using e)
  exact ⟨w, by simpa using h1, h2⟩
theorem Ins.append : ∀ {ds es : List D} {vs ws : List V}, Ins K H Z ds vs -> Ins K H Z es ws -> Ins K H Z (ds ++ es) (vs ++ ws)
 | [], _, _, _, h, k => by rw [ins_nil.mp h]; exact k
 | d :: ds, _, _, _, h, k => by
  obtain ⟨v, r, rfl, a, j⟩ := ins_cons.mp h
  exact ins_cons.mpr ⟨v, r ++ _, rfl, a, Ins.append j k⟩
theorem Ins.one {d : D} {v : V} (h : In K H Z d v) : Ins K H Z [d] [v] := ins_cons.mpr ⟨v, [], rfl, h, ins_nil.mpr rfl⟩
theorem Ins.drop : ∀ {ds : List D} {vs : List V} (n : Nat), Ins K H Z ds vs -> Ins K H Z (ds.drop n) (vs.drop n)
 | _, _, 0, h => h
 | [], _, _ + 1, h => by rw [ins_nil.mp h]; exact ins_nil.mpr (by simp)
 | _ :: _, _, n + 1, h => by
  obtain ⟨v, r, rfl, _, j⟩ := ins_cons.mp h
  exact Ins.drop n j
theorem Ins.take : ∀ {ds : List D} {vs : List V} (n : Nat), Ins K H Z ds vs -> Ins K H Z (ds.take n) (vs.take n)
 | _, _, 0, h => by rw [List.take_zero, List.take_zero]; exact ins_nil.mpr rfl
 | [], _, _ + 1, h => by rw [ins_nil.mp h]; exact ins_nil.mpr (by simp)
 | _ :: _, _, n + 1, h => by
  obtain ⟨v, r, rfl, a, j⟩ := ins_cons.mp h
  exact ins_cons.mpr ⟨v, r.take n, rfl, a, Ins.take n j⟩
theorem Ins.of_get : ∀ {ds : List D} {vs : List V}, ds.length = vs.length -> (∀ (i : Nat) d v, ds[i]? = some d -> vs[i]? = some v -> In K H Z d v) -> Ins K H Z ds vs
 | [], [], _, _ => ins_nil.mpr rfl
 | d :: ds, v :: vs, e, h => ins_cons.mpr ⟨v, vs, rfl, h 0 d v rfl rfl, Ins.of_get (by simpa using e) fun i d' v' a b => h (i + 1) d' v' (by simpa using a) (by simpa using b)⟩
 | [], _ :: _, e, _ => by simp at e
 | _ :: _, [], e, _ => by simp at e
theorem ins_ints : ∀ (ns : List Int), Ins K H Z (ns.map D.int) (ns.map V.int)
 | [] => ins_nil.mpr rfl
 | n :: ns => ins_cons.mpr ⟨_, _, rfl, in_int.mpr rfl, ins_ints ns⟩
theorem ins_strs : ∀ (ns : List Str), Ins K H Z (ns.map D.str) (ns.map V.str)
 | [] => ins_nil.mpr rfl
 | n :: ns => ins_cons.mpr ⟨_, _, rfl, in_str.mpr rfl, ins_strs ns⟩
theorem ins_strs_inv : ∀ {ns : List Str} {vs : List V}, Ins K H Z (ns.map D.str) vs -> vs = ns.map V.str
 | [], _, h => ins_nil.mp h
 | n :: ns, _, h => by
  obtain ⟨v, r, rfl, a, j⟩ := ins_cons.mp h
  rw [in_str.mp a, ins_strs_inv j]; rfl
theorem in_kV (k : Key) : In K H Z (kD k) (kV k) := by
 cases k with
 | inl i => exact in_int.mpr rfl
 | inr x => exact in_str.mpr rfl
theorem ins_kV : ∀ (ks : List Key), Ins K H Z (ks.map kD) (ks.map kV)
 | [] => ins_nil.mpr rfl
 | k :: ks => ins_cons.mpr ⟨_, _, rfl, in_kV k, ins_kV ks⟩
theorem flats_strs : ∀ (ns : List Str), flats (ns.map D.str) = true
 | [] => by simp [flats]
 | n :: ns => by simp [flats, D.flat, flats_strs ns]
theorem flats_all : ∀ {ds : List D}, (∀ d ∈ ds, d.flat = true) -> flats ds = true
 | [], _ => by simp [flats]
 | d :: ds, h => by
  have h1 := h d List.mem_cons_self
  have h2 : flats ds = true := flats_all fun e he => h e (List.mem_cons_of_mem _ he)
  simp [flats, h1, h2]
theorem flats_mem : ∀ {ds : List D}, flats ds = true -> ∀ d ∈ ds, d.flat = true
 | [], _, d, hd => by simp at hd
 | e :: ds, h, d, hd => by
  simp [flats] at h
  rcases List.mem_cons.mp hd with rfl | hd
  · exact h.1
  · exact flats_mem h.2 d hd
end
structure Zone.Open (Z : Zone) (H : Hp) : Prop where
 op : ∀ a, H a = none -> Z.S a
 tb : TabsOk H
instance {Z : Zone} {H : Hp} : CoeFun (Z.Open H) (fun _ => ∀ a, H a = none -> Z.S a) := ⟨fun o => o.op⟩
def nw (H : Hp) : Zone := ⟨true, fun a => H a = none⟩
theorem nwF {H : Hp} {C : Prop} (h : (nw H).m = false) : C := Bool.noConfusion (show true = false from h)
def out (m : Bool) (Z : Zone) (H : Hp) : Zone := if m then nw H else Z
def anyZ : Zone := ⟨false, fun _ => True⟩
section
variable {K : PySem.W.Frag} {H H1 H' : Hp} {Z : Zone} {m : Bool}
theorem Zone.Open.same (o : Z.Open H) (s : Same H H') : Z.Open H' := ⟨fun a h => o.op a (s.free h), s.tabs o.tb⟩
theorem anyZ_open (t : TabsOk H) : anyZ.Open H := ⟨fun _ _ => trivial, t⟩
theorem nw_open (t : TabsOk H) (s : Same H H') : (nw H).Open H' := ⟨fun a h => s.free h, s.tabs t⟩
theorem In.up {d : D} {v : V} (o : Z.Open H) (h : In K H' (nw H) d v) : In K H' Z d v := h.carry ⟨fun a xs e z => ⟨e, o a z⟩, fun m => nwF m, fun _ _ e => e⟩
theorem Ins.up {ds : List D} {vs : List V} (o : Z.Open H) (h : Ins K H' (nw H) ds vs) : Ins K H' Z ds vs := h.carry ⟨fun a xs e z => ⟨e, o a z⟩, fun m => nwF m, fun _ _ e => e⟩
theorem In.plain {d : D} {v : V} (o : Z.Open H) (h : In K H' (out m Z H) d v) : In K H' Z d v := by
 cases m
 · exact h
 · exact h.up o
theorem In.later {d : D} {v : V} (s : Same H H1) (h : In K H' (out m Z H1) d v) : In K H' (out m Z H) d v := by
 cases m
 · exact h
 · exact h.carry ⟨fun a xs e z => ⟨e, s.free z⟩, fun m => nwF m, fun _ _ e => e⟩
theorem In.outflat {d : D} {v : V} {Z' : Zone} (f : d.flat = true) (h : In K H' Z' d v) : In K H' (out m Z H) d v := h.flat' f
end
def EnvIn (K : PySem.W.Frag) (H : Hp) (Z : Zone) (σ : St) (ρ : List (Option D)) : Prop := ∀ (i : Nat) d, ρ[i]? = some (some d) -> ∃ v, σ[i]? = some (some v) ∧ In K H Z d v
theorem EnvIn.same {K : PySem.W.Frag} {H H' : Hp} {Z : Zone} {σ : St} {ρ : List (Option D)} (s : Same H H') (h : EnvIn K H Z σ ρ) : EnvIn K H' Z σ ρ := fun i d e =>
 let ⟨v, a, b⟩ := h i d e; ⟨v, a, b.same s⟩
def tE (K : PySem.W.Frag) (m : Bool) (ρ : List (Option D)) (d : D) : TE := fun σ H Q => ∃ Z : Zone, Z.Open H ∧ EnvIn K H Z σ ρ ∧ ∀ v H', Same H H' -> In K H' (out m Z H) d v -> Q v H'
def tB' (K : PySem.W.Frag) (ρ : List (Option D)) (b : Bool) : TT := fun σ H Q => ∃ Z : Zone, Z.Open H ∧ EnvIn K H Z σ ρ ∧ ∀ H', Same H H' -> Q b H'
def tEA (K : PySem.W.Frag) (ρ : List (Option D)) (ds : List D) : TA := fun σ H Q => ∃ Z : Zone, Z.Open H ∧ EnvIn K H Z σ ρ ∧ ∀ vs H', Same H H' -> Ins K H' Z ds vs -> Q vs H'
def E (X : Cx) (m : Bool) (ρ : List (Option D)) (e : Expr) (d : D) : Prop := PE X e (tE X.K m ρ d)
def T (X : Cx) (ρ : List (Option D)) (e : Expr) (b : Bool) : Prop := PT X e (tB' X.K ρ b)
def TW (X : Cx) (ρ : List (Option D)) (e : Expr) (b : Bool) : Prop := PW X e (tB' X.K ρ b)
def EA (X : Cx) (ρ : List (Option D)) (es : List Expr) (ds : List D) : Prop := PA X es (tEA X.K ρ ds)
theorem PE.mono {X : Cx} {e : Expr} {t t' : TE} (h : PE X e t) (k : ∀ σ H Q, t' σ H Q -> t σ H Q) : PE X e t' := fun pins s σ H Q I q => h pins s σ H Q I (k σ H Q q)
theorem PT.mono {X : Cx} {e : Expr} {t t' : TT} (h : PT X e t) (k : ∀ σ H Q, t' σ H Q -> t σ H Q) : PT X e t' := fun pins s σ H Q I q => h pins s σ H Q I (k σ H Q q)
theorem PW.mono {X : Cx} {e : Expr} {t t' : TT} (h : PW X e t) (k : ∀ σ H Q, t' σ H Q -> t σ H Q) : PW X e t' := fun wh pins s σ H Q I q => h wh pins s σ H Q I (k σ H Q q)
theorem PA.mono {X : Cx} {es : List Expr} {t t' : TA} (h : PA X es t) (k : ∀ σ H Q, t' σ H Q -> t σ H Q) : PA X es t' := fun pos pins s σ H Q I q => h pos pins s σ H Q I (k σ H Q q)
section
variable {X : Cx} {ρ : List (Option D)} {m m1 m2 m3 : Bool} {a b c e : Expr} {es : List Expr} {d d1 d2 d3 : D} {pos : Pos}
theorem E.mode (h : E X true ρ e d) : E X m ρ e d := by
 cases m
 · refine PE.mono h fun σ H Q z0 => el13 z0 fun Z oz en k => ⟨Z, oz, en, fun v H' s i => k v H' s (i.up oz)⟩
 · exact h
theorem E.flat (h : E X m1 ρ e d) (f : d.flat = true) : E X m ρ e d :=
 PE.mono h fun σ H Q z0 => el13 z0 fun Z oz en k => ⟨Z, oz, en, fun v H' s i => k v H' s (i.flat' f)⟩
theorem E.cast {d' : D} (h : E X m ρ e d) (q : d = d') : E X m ρ e d' := q ▸ h
theorem e_var (i : Nat) {x : Str} {d : D} (hr : ρ[i]? = some (some d) := by rfl) (hN : X.N[i]? = some x := by rfl)
 (hv : Vis X.env.scope x := by first | exact Or.inl rfl | exact Or.inr (Or.inl rfl) | exact Or.inr (Or.inr rfl)) (hd : (x == ("__debug__" : Str)) = false := by decide)
 (hcd : (x == ("__classdict__" : Str)) = false := by decide) : E X false ρ (.Name x pos) d :=
 PE.mono (pe_var hN hv hd hcd) fun σ H Q z0 => el13 z0 fun Z oz en k => by
  obtain ⟨v, e, i⟩ := en i d hr
  exact ⟨v, e, k v H (Same.refl H) i⟩
theorem e_int {i : Int} {j : Nat} : E X true ρ (.Constant (.int i) j pos) (.int i) := PE.mono pe_int fun σ H Q z0 => el13 z0 fun Z oz en k => k _ _ (Same.refl H) (in_int.mpr rfl)
theorem e_non {j : Nat} : E X true ρ (.Constant .none j pos) .non := PE.mono pe_non fun σ H Q z0 => el13 z0 fun Z oz en k => k _ _ (Same.refl H) (in_non.mpr rfl)
theorem e_str {x : Str} {j : Nat} : E X true ρ (.Constant (.str x) j pos) (.str x) := PE.mono pe_str fun σ H Q z0 => el13 z0 fun Z oz en k => k _ _ (Same.refl H) (in_str.mpr rfl)
theorem e_gstr {x y : Str} {t : Tok} (hm : X.mg x = some (.str y t)) (hg : Gl X x := by rfl) (hd : (x == ("__debug__" : Str)) = false := by decide) : E X true ρ (.Name x pos) (.str y) :=
 PE.mono (pe_glob (v := .str y) hg hm ⟨t, rfl⟩ hd) fun σ H Q z0 => el13 z0 fun Z oz en k => k _ _ (Same.refl H) (in_str.mpr rfl)
theorem ea_nil : EA X ρ [] [] := PA.mono pa_nil fun σ H Q z0 => el13 z0 fun Z oz en k => k [] H (Same.refl H) (ins_nil.mpr rfl)
theorem ea_cons {ds : List D} (ha : E X m1 ρ e d) (hr : EA X ρ es ds) (hs : starEach (e :: es) X.env = (false, eval e X.env) :: starEach es X.env := by rfl) : EA X ρ (e :: es) (d :: ds) :=
 PA.mono (pa_cons ha hr hs) fun σ H Q z0 => el13 z0 fun Z oz en k => ⟨Z, oz, en, fun v H1 s1 i1 => ⟨Z, oz.same s1, en.same s1, fun vs H2 s2 i2 => k (v :: vs) H2 (s1.trans s2) (ins_cons.mpr ⟨v, vs, rfl, (i1.plain oz).same s2, i2⟩)⟩⟩
theorem ea_one (ha : E X m1 ρ e d) (hs : starEach (e :: []) X.env = (false, eval e X.env) :: starEach [] X.env := by rfl) : EA X ρ [e] [d] := ea_cons ha ea_nil hs
def EAF (X : Cx) (ρ : List (Option D)) (es : List Expr) (ds : List D) : Prop := PA X es (fun σ H Q => ∃ Z : Zone, Z.Open H ∧ EnvIn X.K H Z σ ρ ∧ ∀ vs H', Same H H' -> Ins X.K H' (nw H) ds vs -> Q vs H')
theorem eaf_nil : EAF X ρ [] [] := PA.mono pa_nil fun σ H Q z0 => el13 z0 fun Z oz en k => k [] H (Same.refl H) (ins_nil.mpr rfl)
theorem Ins.later {K : PySem.W.Frag} {H H1 H' : Hp} {ds : List D} {vs : List V} (s : Same H H1) (h : Ins K H' (nw H1) ds vs) : Ins K H' (nw H) ds vs :=
 h.carry ⟨fun a xs e z => ⟨e, s.free z⟩, fun m => nwF m, fun _ _ e => e⟩
theorem eaf_cons {ds : List D} (ha : E X true ρ e d) (hr : EAF X ρ es ds) (hs : starEach (e :: es) X.env = (false, eval e X.env) :: starEach es X.env := by rfl) : EAF X ρ (e :: es) (d :: ds) :=
 PA.mono (pa_cons ha hr hs) fun σ H Q z0 => el13 z0 fun Z oz en k => ⟨Z, oz, en, fun v H1 s1 i1 => ⟨Z, oz.same s1, en.same s1, fun vs H2 s2 i2 => k (v :: vs) H2 (s1.trans s2) (ins_cons.mpr ⟨v, vs, rfl, In.same s2 i1, i2.later s1⟩)⟩⟩
theorem same_new {H : Hp} {p : Addr} {o : HO} (h : H p = none) : Same H (upd H p o) := ⟨fun b u e _ => by rw [upd_ne (ne_of_none e h)]; exact e, fun b ps e => ⟨ps, by rw [upd_ne (ne_of_none e h)]; exact e⟩, fun t => t.upd (.inl h)⟩
theorem e_tup {ds : List D} {x1} (h : EA X ρ es ds) (hz : ds.length <= 1000 := by exact of_decide_eq_true rfl) : E X false ρ (.Tuple es x1 pos) (.tup ds) :=
 PE.mono (pe_tup h) fun σ H Q z0 => el13 z0 fun Z oz en k => ⟨Z, oz, en, fun vs H1 s1 i1 => ⟨by rw [<- i1.length]; exact Nat.le_trans hz (Nat.le_of_lt (small1000 (Nat.le_refl _))), fun p hp =>
  k (.ref p) _ (s1.trans (same_new hp)) (in_tup.mpr ⟨p, vs, rfl, upd_same, i1.same (same_new hp)⟩)⟩⟩
theorem e_tupF {ds : List D} {x1} (h : EAF X ρ es ds) (hz : ds.length <= 1000 := by exact of_decide_eq_true rfl) : E X true ρ (.Tuple es x1 pos) (.tup ds) :=
 PE.mono (pe_tup h) fun σ H Q z0 => el13 z0 fun Z oz en k => ⟨Z, oz, en, fun vs H1 s1 i1 => ⟨by rw [<- i1.length]; exact Nat.le_trans hz (Nat.le_of_lt (small1000 (Nat.le_refl _))), fun p hp =>
  k (.ref p) _ (s1.trans (same_new hp)) (in_tup.mpr ⟨p, vs, rfl, upd_same, i1.same (same_new hp)⟩)⟩⟩
theorem e_lst {ds : List D} (h : EA X ρ es ds) (hz : ds.length <= 1000 := by exact of_decide_eq_true rfl) : E X false ρ (.List es pos) (.lst ds) :=
 PE.mono (pe_lst h) fun σ H Q z0 => el13 z0 fun Z oz en k => ⟨Z, oz, en, fun vs H1 s1 i1 => ⟨by rw [<- i1.length]; exact Nat.le_trans hz (Nat.le_of_lt (small1000 (Nat.le_refl _))), fun p hp =>
  k (.ref p) _ (s1.trans (same_new hp)) (in_lst.mpr ⟨p, vs, rfl, .inl ⟨upd_same, oz p (s1.free hp)⟩, i1.same (same_new hp)⟩)⟩⟩
theorem e_lstN {ds : List D} (h : EA X ρ es ds) (f : flats ds = true := by rfl) (hz : ds.length <= 1000 := by exact of_decide_eq_true rfl) : E X true ρ (.List es pos) (.lst ds) := by
 refine E.mode (PE.mono (pe_lst h) fun σ H Q z0 => el13 z0 fun Z oz en k => ⟨Z, oz, en, fun vs H1 s1 i1 => ⟨by rw [<- i1.length]; exact Nat.le_trans hz (Nat.le_of_lt (small1000 (Nat.le_refl _))), fun p hp =>
  k (.ref p) _ (s1.trans (same_new hp)) (in_lst.mpr ⟨p, vs, rfl, .inl ⟨upd_same, s1.free hp⟩, (i1.same (same_new hp)).flat' f⟩)⟩⟩)
theorem two {ta tb : TE} {σ : St} {H : Hp} {Z : Zone} {R : V -> V -> Hp -> Prop} (oz : Z.Open H) (en : EnvIn X.K H Z σ ρ)
 (h : ∀ x y H', Same H H' -> In X.K H' Z d1 x -> In X.K H' Z d2 y -> R x y H') : tE X.K m1 ρ d1 σ H fun x H1 => tE X.K m2 ρ d2 σ H1 fun y H2 => R x y H2 :=
 ⟨Z, oz, en, fun x H1 s1 i1 => ⟨Z, oz.same s1, en.same s1, fun y H2 s2 i2 => h x y H2 (s1.trans s2) ((i1.plain oz).same s2) (i2.plain (oz.same s1))⟩⟩
theorem e_op {op : Operator} {r : R2} (ho : OpR X (binaryOp op) r) (ha : E X m1 ρ a d1) (hb : E X m2 ρ b d2)
 (h : ∀ x y H Z Q, Z.Open H -> In X.K H Z d1 x -> In X.K H Z d2 y -> (∀ v H', Same H H' -> In X.K H' (out m Z H) d v -> Q v H') -> r x y H Q) : E X m ρ (.BinOp a op b pos) d :=
 PE.mono (pe_op ho ha hb) fun σ H Q z0 => el13 z0 fun Z oz en k => two (ta := tE X.K m1 ρ d1) (tb := tE X.K m2 ρ d2) oz en fun x y H2 s i1 i2 => h x y H2 Z _ (oz.same s) i1 i2 fun v H' s' i => k v H' (s.trans s') (i.later s)
theorem e_cmp {op : CmpOp} {r : R2} (ho : OpR X (compareOp op) r) (ha : E X m1 ρ a d1) (hb : E X m2 ρ b d2)
 (h : ∀ x y H Z Q, Z.Open H -> In X.K H Z d1 x -> In X.K H Z d2 y -> (∀ v H', Same H H' -> In X.K H' (out m Z H) d v -> Q v H') -> r x y H Q) (hm : behindInMarks op b = false) : E X m ρ (.Compare a [op] [b] pos) d :=
 PE.mono (pe_cmpR ho ha hb hm) fun σ H Q z0 => el13 z0 fun Z oz en k => two (ta := tE X.K m1 ρ d1) (tb := tE X.K m2 ρ d2) oz en fun x y H2 s i1 i2 => h x y H2 Z _ (oz.same s) i1 i2 fun v H' s' i => k v H' (s.trans s') (i.later s)
theorem t_cmp {op : CmpOp} {r : R2} {p : Bool} (ho : OpR X (compareOp op) r) (ha : E X m1 ρ a d1) (hb : E X m2 ρ b d2)
 (h : ∀ x y H Z Q, Z.Open H -> In X.K H Z d1 x -> In X.K H Z d2 y -> (∀ H', Same H H' -> Q (.bl p) H') -> r x y H Q) (hm : behindInMarks op b = false) : T X ρ (.Compare a [op] [b] pos) p :=
 PT.mono (pt_cmpR ho ha hb hm) fun σ H Q z0 => el13 z0 fun Z oz en k => two (ta := tE X.K m1 ρ d1) (tb := tE X.K m2 ρ d2) oz en fun x y H2 s i1 i2 => h x y H2 Z _ (oz.same s) i1 i2 fun H' s' => ⟨p, rfl, k H' (s.trans s')⟩
theorem e_add {i j : Int} (ha : E X m1 ρ a (.int i)) (hb : E X m2 ρ b (.int j)) : E X true ρ (.BinOp a .Add b pos) (.int (i + j)) :=
 e_op op_add ha hb fun x y H Z Q _ i1 i2 k => ⟨_, _, in_int.mp i1, in_int.mp i2, k _ _ (Same.refl H) (in_int.mpr rfl)⟩
theorem e_sub {i j : Int} (ha : E X m1 ρ a (.int i)) (hb : E X m2 ρ b (.int j)) : E X true ρ (.BinOp a .Sub b pos) (.int (i - j)) :=
 e_op op_sub ha hb fun x y H Z Q _ i1 i2 k => ⟨_, _, in_int.mp i1, in_int.mp i2, k _ _ (Same.refl H) (in_int.mpr rfl)⟩
theorem e_mul {i j : Int} (ha : E X m1 ρ a (.int i)) (hb : E X m2 ρ b (.int j)) (hc : CMul i j) : E X true ρ (.BinOp a .Mult b pos) (.int (i * j)) :=
 e_op op_mul ha hb fun x y H Z Q _ i1 i2 k => ⟨_, _, in_int.mp i1, in_int.mp i2, hc, k _ _ (Same.refl H) (in_int.mpr rfl)⟩
theorem e_mod {i j : Int} (ha : E X m1 ρ a (.int i)) (hb : E X m2 ρ b (.int j)) (hc : 0 < j) : E X true ρ (.BinOp a .Mod b pos) (.int (i % j)) :=
 e_op op_mod ha hb fun x y H Z Q _ i1 i2 k => ⟨_, _, in_int.mp i1, in_int.mp i2, hc, k _ _ (Same.refl H) (in_int.mpr rfl)⟩
theorem e_neg {i : Int} (ha : E X m1 ρ a (.int i)) : E X true ρ (.UnaryOp .USub a pos) (.int (-i)) :=
 PE.mono (pe_un un_neg ha) fun σ H Q z0 => el13 z0 fun Z oz en k => ⟨Z, oz, en, fun x H1 s1 i1 => ⟨i, in_int.mp (i1.plain oz), k _ _ s1 (in_int.mpr rfl)⟩⟩
theorem e_addS {x y : Str} (ha : E X m1 ρ a (.str x)) (hb : E X m2 ρ b (.str y)) (hz : x.length + y.length <= sizeLine) : E X true ρ (.BinOp a .Add b pos) (.str (x ++ y)) :=
 e_op op_add_str ha hb fun x y H Z Q _ i1 i2 k => ⟨_, _, in_str.mp i1, in_str.mp i2, hz, k _ _ (Same.refl H) (in_str.mpr rfl)⟩
theorem e_ltI {i j : Int} (ha : E X m1 ρ a (.int i)) (hb : E X m2 ρ b (.int j)) : E X true ρ (.Compare a [.Lt] [b] pos) (.bl (decide (i < j))) :=
 e_cmp op_lt ha hb (fun x y H Z Q _ i1 i2 k => ⟨_, _, in_int.mp i1, in_int.mp i2, k _ _ (Same.refl H) (in_bl.mpr rfl)⟩) (nomark _)
theorem t_ltI {i j : Int} (ha : E X m1 ρ a (.int i)) (hb : E X m2 ρ b (.int j)) : T X ρ (.Compare a [.Lt] [b] pos) (decide (i < j)) :=
 t_cmp op_lt ha hb (fun x y H Z Q _ i1 i2 k => ⟨_, _, in_int.mp i1, in_int.mp i2, k _ (Same.refl H)⟩) (nomark _)
theorem e_gtI {i j : Int} (ha : E X m1 ρ a (.int i)) (hb : E X m2 ρ b (.int j)) : E X true ρ (.Compare a [.Gt] [b] pos) (.bl (decide (j < i))) :=
 e_cmp op_gt ha hb (fun x y H Z Q _ i1 i2 k => ⟨_, _, in_int.mp i1, in_int.mp i2, k _ _ (Same.refl H) (in_bl.mpr rfl)⟩) (nomark _)
theorem t_gtI {i j : Int} (ha : E X m1 ρ a (.int i)) (hb : E X m2 ρ b (.int j)) : T X ρ (.Compare a [.Gt] [b] pos) (decide (j < i)) :=
 t_cmp op_gt ha hb (fun x y H Z Q _ i1 i2 k => ⟨_, _, in_int.mp i1, in_int.mp i2, k _ (Same.refl H)⟩) (nomark _)
theorem e_eqI {i j : Int} (ha : E X m1 ρ a (.int i)) (hb : E X m2 ρ b (.int j)) : E X true ρ (.Compare a [.Eq] [b] pos) (.bl (decide (i = j))) :=
 e_cmp op_eq ha hb (fun x y H Z Q _ i1 i2 k => by rw [in_int.mp i1, in_int.mp i2]; exact ⟨rfl, k _ _ (Same.refl H) (in_bl.mpr (by simp))⟩) (nomark _)
theorem t_eqI {i j : Int} (ha : E X m1 ρ a (.int i)) (hb : E X m2 ρ b (.int j)) : T X ρ (.Compare a [.Eq] [b] pos) (decide (i = j)) :=
 t_cmp op_eq ha hb (fun x y H Z Q _ i1 i2 k => by rw [in_int.mp i1, in_int.mp i2]; exact ⟨rfl, by simpa using k _ (Same.refl H)⟩) (nomark _)
theorem e_eqS {i j : Str} (ha : E X m1 ρ a (.str i)) (hb : E X m2 ρ b (.str j)) : E X true ρ (.Compare a [.Eq] [b] pos) (.bl (decide (i = j))) :=
 e_cmp op_eq ha hb (fun x y H Z Q _ i1 i2 k => by rw [in_str.mp i1, in_str.mp i2]; exact ⟨rfl, k _ _ (Same.refl H) (in_bl.mpr (by simp))⟩) (nomark _)
theorem t_eqS {i j : Str} (ha : E X m1 ρ a (.str i)) (hb : E X m2 ρ b (.str j)) : T X ρ (.Compare a [.Eq] [b] pos) (decide (i = j)) :=
 t_cmp op_eq ha hb (fun x y H Z Q _ i1 i2 k => by rw [in_str.mp i1, in_str.mp i2]; exact ⟨rfl, by simpa using k _ (Same.refl H)⟩) (nomark _)
theorem e_neS {i j : Str} (ha : E X m1 ρ a (.str i)) (hb : E X m2 ρ b (.str j)) : E X true ρ (.Compare a [.NotEq] [b] pos) (.bl (!decide (i = j))) :=
 e_cmp op_ne ha hb (fun x y H Z Q _ i1 i2 k => by rw [in_str.mp i1, in_str.mp i2]; exact ⟨rfl, k _ _ (Same.refl H) (in_bl.mpr (by simp))⟩) (nomark _)
theorem t_neS {i j : Str} (ha : E X m1 ρ a (.str i)) (hb : E X m2 ρ b (.str j)) : T X ρ (.Compare a [.NotEq] [b] pos) (!decide (i = j)) :=
 t_cmp op_ne ha hb (fun x y H Z Q _ i1 i2 k => by rw [in_str.mp i1, in_str.mp i2]; exact ⟨rfl, by simpa using k _ (Same.refl H)⟩) (nomark _)
theorem t_neB {i j : Bool} (ha : E X m1 ρ a (.bl i)) (hb : E X m2 ρ b (.bl j)) : T X ρ (.Compare a [.NotEq] [b] pos) (!decide (i = j)) :=
 t_cmp op_ne ha hb (fun x y H Z Q _ i1 i2 k => by rw [in_bl.mp i1, in_bl.mp i2]; exact ⟨rfl, by simpa using k _ (Same.refl H)⟩) (nomark _)
theorem e_inS {i j : Str} (ha : E X m1 ρ a (.str i)) (hb : E X m2 ρ b (.str j)) (hm : behindInMarks .In b = false := by rfl) : E X true ρ (.Compare a [.In] [b] pos) (.bl (!(Builtin.Str.occurrences j i 0 j.length 1).isEmpty)) :=
 e_cmp op_in_str ha hb (fun x y H Z Q _ i1 i2 k => ⟨_, _, in_str.mp i1, in_str.mp i2, k _ _ (Same.refl H) (in_bl.mpr rfl)⟩) hm
theorem tw_and1 {p : Bool} (ha : T X ρ a p) : TW X ρ (.BoolOp .And [a] pos) p := pw_and1 ha
theorem tw_or1 {p : Bool} (ha : T X ρ a p) : TW X ρ (.BoolOp .Or [a] pos) p := pw_or1 ha
theorem tw_and {p q : Bool} {r : List Expr} (ha : T X ρ a p) (hb : p = true -> TW X ρ (.BoolOp .And (b :: r) pos) q) : TW X ρ (.BoolOp .And (a :: b :: r) pos) (p && q) := by
 cases p with
 | true =>
  exact PW.mono (pw_and ha (hb rfl)) fun σ H Q z0 => el13 z0 fun Z oz en k => ⟨Z, oz, en, fun H1 s1 => by
   refine iteT ?_; exact ⟨Z, oz.same s1, en.same s1, fun H2 s2 => k H2 (s1.trans s2)⟩⟩
 | false =>
  exact PW.mono (pw_and (tB' := fun _ _ _ => False) ha (fun wh pins s σ H Q I h => h.elim)) fun σ H Q z0 => el13 z0 fun Z oz en k => ⟨Z, oz, en, fun H1 s1 => by
   refine iteF ?_; exact k H1 s1⟩
theorem tw_or {p q : Bool} {r : List Expr} (ha : T X ρ a p) (hb : p = false -> TW X ρ (.BoolOp .Or (b :: r) pos) q) : TW X ρ (.BoolOp .Or (a :: b :: r) pos) (p || q) := by
 cases p with
 | false =>
  exact PW.mono (pw_or ha (hb rfl)) fun σ H Q z0 => el13 z0 fun Z oz en k => ⟨Z, oz, en, fun H1 s1 => by
   refine iteF ?_; exact ⟨Z, oz.same s1, en.same s1, fun H2 s2 => k H2 (s1.trans s2)⟩⟩
 | true =>
  exact PW.mono (pw_or (tB' := fun _ _ _ => False) ha (fun wh pins s σ H Q I h => h.elim)) fun σ H Q z0 => el13 z0 fun Z oz en k => ⟨Z, oz, en, fun H1 s1 => by
   refine iteT ?_; exact k H1 s1⟩
theorem TW.t {p : Bool} (h : TW X ρ a p) : T X ρ a p := PW.pt h
theorem t_not {p : Bool} (ha : T X ρ a p) : T X ρ (.UnaryOp .Not a pos) (!p) := PT.mono (pt_not ha) fun σ H Q z0 => el13 z0 fun Z oz en k => ⟨Z, oz, en, fun H1 s1 => k H1 s1⟩
theorem t_val {p : Bool} (h : E X m1 ρ e (.bl p)) (he : ∀ whole, isTrue e X.env whole = (do let v <- whole; standAt e.pos; holding [v] (truthy v)) := by intro _; rfl) : T X ρ e p :=
 PT.mono (pt_val h he) fun σ H Q z0 => el13 z0 fun Z oz en k => ⟨Z, oz, en, fun v H1 s1 i1 => ⟨p, in_bl.mp (i1.plain oz), k H1 s1⟩⟩
theorem e_one {op : BoolOp} (h : E X m ρ a d) : E X m ρ (.BoolOp op [a] pos) d := pe_one h
theorem e_and {p : Bool} {q : Bool} {r : List Expr} (ha : E X m1 ρ a (.bl p)) (hb : p = true -> E X m2 ρ (.BoolOp .And (b :: r) pos) (.bl q)) : E X true ρ (.BoolOp .And (a :: b :: r) pos) (.bl (p && q)) := by
 cases p with
 | true =>
  exact PE.mono (pe_and ha (hb rfl)) fun σ H Q z0 => el13 z0 fun Z oz en k => ⟨Z, oz, en, fun v H1 s1 i1 => ⟨true, in_bl.mp (i1.plain oz), by
   refine iteT ?_; exact ⟨Z, oz.same s1, en.same s1, fun w H2 s2 i2 => k w H2 (s1.trans s2) (i2.outflat rfl)⟩⟩⟩
 | false =>
  exact PE.mono (pe_and (tb := fun _ _ _ => False) ha (fun pins s σ H Q I h => h.elim)) fun σ H Q z0 => el13 z0 fun Z oz en k => ⟨Z, oz, en, fun v H1 s1 i1 => ⟨false, in_bl.mp (i1.plain oz), by
   refine iteF ?_; exact k _ H1 s1 (in_bl.mpr rfl)⟩⟩
theorem e_not {p : Bool} (ha : E X m1 ρ a (.bl p)) : E X true ρ (.UnaryOp .Not a pos) (.bl (!p)) :=
 PE.mono (pe_not ha) fun σ H Q z0 => el13 z0 fun Z oz en k => ⟨Z, oz, en, fun v H1 s1 i1 => ⟨p, in_bl.mp (i1.plain oz), k _ H1 s1 (in_bl.mpr rfl)⟩⟩
theorem Ins.atI {K : PySem.W.Frag} {H : Hp} {Z : Zone} {ds : List D} {vs : List V} {i : Int} {d : D} (h : Ins K H Z ds vs) (e : atI ds i = some d) : ∃ v, atI vs i = some v ∧ In K H Z d v := by
 unfold L2.atI at e ⊢
 rw [<- h.length]
 cases q : ixN ds.length i with
 | none => rw [q] at e; cases e
 | some j =>
  rw [q] at e
  exact h.get e
theorem e_ixL {ds : List D} {i : Int} (ha : E X m1 ρ a (.lst ds)) (hb : E X m2 ρ b (.int i)) (h : atI ds i = some d) (hs : PlainIx b := by intro _ _; rfl) : E X m1 ρ (.Subscript a b pos) d :=
 PE.mono (pe_ix ix_list ha hb hs) fun σ H Q z0 => el13 z0 fun Z oz en k => ⟨Z, oz, en, fun x H1 s1 i1 => ⟨Z, oz.same s1, en.same s1, fun y H2 s2 i2 => by
  obtain ⟨p, xs, rfl, l, j⟩ := in_lst.mp (In.same s2 i1)
  obtain ⟨v, e, iv⟩ := j.atI h
  exact ⟨p, xs, i, v, rfl, in_int.mp (i2.plain (oz.same s1)), l.sq, e, k v H2 (s1.trans s2) iv⟩⟩⟩
theorem e_ixT {ds : List D} {i : Int} (ha : E X m1 ρ a (.tup ds)) (hb : E X m2 ρ b (.int i)) (h : atI ds i = some d) (hs : PlainIx b := by intro _ _; rfl) : E X m1 ρ (.Subscript a b pos) d :=
 PE.mono (pe_ix ix_tup ha hb hs) fun σ H Q z0 => el13 z0 fun Z oz en k => ⟨Z, oz, en, fun x H1 s1 i1 => ⟨Z, oz.same s1, en.same s1, fun y H2 s2 i2 => by
  obtain ⟨p, xs, rfl, l, j⟩ := in_tupS (In.same s2 i1)
  obtain ⟨v, e, iv⟩ := j.atI h
  exact ⟨p, xs, i, v, rfl, in_int.mp (i2.plain (oz.same s1)), l, e, k v H2 (s1.trans s2) iv⟩⟩⟩
theorem e_ixS {z : Str} {i : Int} {cp : Nat} (ha : E X m1 ρ a (.str z)) (hb : E X m2 ρ b (.int i)) (hz : z.length <= sizeLine) (h : atI z.cps.toList i = some cp) (hs : PlainIx b := by intro _ _; rfl) : E X true ρ (.Subscript a b pos) (.str ⟨#[cp]⟩) :=
 PE.mono (pe_ix ix_str ha hb hs) fun σ H Q z0 => el13 z0 fun Z oz en k => two (ta := tE X.K m1 ρ (.str z)) (tb := tE X.K m2 ρ (.int i)) oz en fun x y H2 s i1 i2 =>
  ⟨z, i, cp, in_str.mp i1, in_int.mp i2, hz, h, k _ H2 s (in_str.mpr rfl)⟩
def EO (X : Cx) (ρ : List (Option D)) (e : Option Expr) (o : Option Int) : Prop := PO X e (fun σ H Q => ∃ Z : Zone, Z.Open H ∧ EnvIn X.K H Z σ ρ ∧ ∀ H', Same H H' -> Q o H')
theorem PO.mono {e : Option Expr} {t t' : TO} (h : PO X e t) (k : ∀ σ H Q, t' σ H Q -> t σ H Q) : PO X e t' := fun pins s σ H Q I q => h pins s σ H Q I (k σ H Q q)
theorem eo_none : EO X ρ none none := PO.mono po_none fun σ H Q z0 => el13 z0 fun Z oz en k => k H (Same.refl H)
theorem eo_some {i : Int} (h : E X m1 ρ e (.int i)) : EO X ρ (some e) (some i) := PO.mono (po_some h) fun σ H Q z0 => el13 z0 fun Z oz en k => ⟨Z, oz, en, fun v H1 s1 i1 => ⟨i, in_int.mp (i1.plain oz), k H1 s1⟩⟩
def cut {α : Type} (xs : List α) (lo hi : Option Int) : List α := (xs.drop (HT.sIx xs.length 0 lo)).take (HT.sIx xs.length xs.length hi - HT.sIx xs.length 0 lo)
theorem Ins.cut {K : PySem.W.Frag} {H : Hp} {Z : Zone} {ds : List D} {vs : List V} (h : Ins K H Z ds vs) (lo hi : Option Int) : Ins K H Z (cut ds lo hi) (cutV vs lo hi) := by
 unfold Y.cut cutV
 rw [h.length]
 exact (h.drop _).take _
variable {lo hi : Option Expr} {l u : Option Int} {p2 : Pos}
theorem e_slL {ds : List D} (ha : E X m1 ρ a (.lst ds)) (hl : EO X ρ lo l) (hu : EO X ρ hi u) (hm : m = true -> m1 = true ∨ flats (cut ds l u) = true := by intro h; first | exact .inl h | cases h) : E X m ρ (.Subscript a (.Slice lo hi none p2) pos) (.lst (cut ds l u)) :=
 PE.mono (pe_slice sl_list ha hl hu) fun σ H Q z0 => el13 z0 fun Z oz en k => ⟨Z, oz, en, fun x H1 s1 i1 => ⟨Z, oz.same s1, en.same s1, fun H2 s2 => ⟨Z, oz.same (s1.trans s2), en.same (s1.trans s2), fun H3 s3 => by
  have s := (s1.trans s2).trans s3
  have i3 : In X.K H3 (out m1 Z H) (.lst ds) x := In.same (s2.trans s3) i1
  obtain ⟨p, xs, rfl, lq, j⟩ := in_lst.mp i3
  refine ⟨p, xs, rfl, lq.sq, fun q hq => k (.ref q) _ (s.trans (same_new hq)) (in_lst.mpr ⟨q, _, rfl, .inl ⟨upd_same, ?_⟩, ?_⟩)⟩
  · cases m
    · exact oz q (s.free hq)
    · exact s.free hq
  · have jc := (j.cut l u).same (same_new (o := .lst (cutV xs l u)) hq)
    cases m
    · cases m1
      · exact jc
      · exact jc.up oz
    · rcases hm rfl with h | h
      · subst h; exact jc
      · exact jc.flat' h⟩⟩⟩
end
end Y
namespace Y
open PySem PySem.Spec PyProof.Rows L2
variable [Tabs]
def clOf (cells : List (Str × Addr)) : List (Str × NameKind) -> List (Str × Addr) -> List (Str × Addr)
 | [], acc => acc
 | (n, k) :: r, acc => if k == .free then clOf cells r ((n, (cells.lookup n).getD 0) :: acc) else clOf cells r acc
theorem clOf_sub {cells : List (Str × Addr)} : ∀ {names : List (Str × NameKind)} {acc : List (Str × Addr)}, (∀ y ∈ names, y.2 = .free -> ∃ c, cells.lookup y.1 = some c) -> (∀ x c, acc.lookup x = some c -> cells.lookup x = some c) ->
 ∀ x c, (clOf cells names acc).lookup x = some c -> cells.lookup x = some c
 | [], _, _, h2, x, c, e => h2 x c e
 | (n, k) :: r, acc, h1, h2, x, c, e => by
  unfold clOf at e
  by_cases hk : (k == NameKind.free) = true
  · rw [if_pos hk] at e
    refine clOf_sub (fun y hy => h1 y (List.mem_cons_of_mem _ hy)) (fun y c' e' => ?_) x c e
    obtain ⟨c0, e0⟩ := h1 (n, k) List.mem_cons_self (by simpa using hk)
    rw [List.lookup_cons] at e'
    cases hy : y == n with
    | true =>
     rw [hy] at e'
     simp at e'
     have : y = n := by simpa using hy
     subst this
     rw [e0] at e' ⊢
     simpa using e'
    | false =>
     rw [hy] at e'
     exact h2 y c' e'
  · rw [if_neg hk] at e
    exact clOf_sub (fun y hy => h1 y (List.mem_cons_of_mem _ hy)) h2 x c e
theorem clOf_acc {cells : List (Str × Addr)} : ∀ {names : List (Str × NameKind)} {acc : List (Str × Addr)} {x : Str}, (∃ c, acc.lookup x = some c) -> ∃ c, (clOf cells names acc).lookup x = some c
 | [], _, _, h => h
 | (n, k) :: r, acc, x, h => by
  unfold clOf
  by_cases hk : (k == NameKind.free) = true
  · rw [if_pos hk]
    refine clOf_acc ?_
    rw [List.lookup_cons]
    cases hy : x == n with
    | true => exact ⟨_, rfl⟩
    | false => exact h
  · rw [if_neg hk]; exact clOf_acc h
theorem clOf_has {cells : List (Str × Addr)} : ∀ {names : List (Str × NameKind)} {acc : List (Str × Addr)} {x : Str}, (x, NameKind.free) ∈ names -> ∃ c, (clOf cells names acc).lookup x = some c
 | [], _, _, h => by cases h
 | (n, k) :: r, acc, x, h => by
  unfold clOf
  rcases List.mem_cons.mp h with e | h
  · cases e
    rw [if_pos (by decide)]
    exact clOf_acc ⟨(cells.lookup n).getD 0, by rw [List.lookup_cons]; simp⟩
  · by_cases hk : (k == NameKind.free) = true
    · rw [if_pos hk]; exact clOf_has h
    · rw [if_neg hk]; exact clOf_has h
theorem closure_of {scope : Scope} {env : Env} (h : ∀ y ∈ scope.names, y.2 = .free -> ∃ c, env.cells.lookup y.1 = some c) : closureFor scope env = pure (clOf env.cells scope.names []) := by
 have key : ∀ (names : List (Str × NameKind)) (acc : List (Str × Addr)), (∀ y ∈ names, y.2 = .free -> ∃ c, env.cells.lookup y.1 = some c) ->
  (forIn names acc fun (x : Str × NameKind) (cs : List (Str × Addr)) => (match x with
   | (name, kind) => if (kind == NameKind.free) = true then do let a <- cellOf env name; pure (ForInStep.yield ((name, a) :: cs)) else pure (ForInStep.yield cs)) : Sem (List (Str × Addr))) = pure (clOf env.cells names acc) := by
  intro names
  induction names with
  | nil => intro acc _; rfl
  | cons y r ih =>
   intro acc hy
   obtain ⟨n, k⟩ := y
   rw [List.forIn_cons]
   unfold clOf
   by_cases hk : (k == NameKind.free) = true
   · obtain ⟨c, e⟩ := hy (n, k) List.mem_cons_self (by simpa using hk)
     have e1 : cellOf env n = pure c := by unfold cellOf; rw [e]
     simp only [hk, if_true, e1, pure_bind]
     rw [ih _ fun z hz => hy z (List.mem_cons_of_mem _ hz), e]
     rfl
   · simp only [hk, if_false, pure_bind]
     exact ih _ fun z hz => hy z (List.mem_cons_of_mem _ hz)
 unfold closureFor
 have k := key scope.names [] h
 first
  | (simp only [bind_pure]; exact k)
  | (rw [k]; rfl)
  | exact k
theorem lookup_relabel {env : Env} {P : NameKind -> Prop} (hP : P .free -> P .cell) : ∀ {names : List (Str × NameKind)} {x : Str} {k : NameKind}, names.lookup x = some k -> P k ->
 ∃ k', (names.map fun (n, k) => if (k == NameKind.free && env.scope.kind == .function && env.kindOf n == some .cell) then (n, NameKind.cell) else (n, k)).lookup x = some k' ∧ P k'
 | [], _, _, h, _ => by simp at h
 | (n, k0) :: r, x, k, h, p => by
  have ih := @lookup_relabel env P hP r x k
  show ∃ k', List.lookup x ((if (k0 == NameKind.free && env.scope.kind == .function && env.kindOf n == some .cell) = true then (n, NameKind.cell) else (n, k0)) :: _) = some k' ∧ P k'
  cases hx : x == n with
  | true =>
   simp only [List.lookup_cons, hx] at h
   have hk : k0 = k := Option.some.inj h
   subst hk
   by_cases hc : (k0 == NameKind.free && env.scope.kind == .function && env.kindOf n == some .cell) = true
   · rw [if_pos hc]; simp only [List.lookup_cons, hx]
     refine ⟨_, rfl, ?_⟩
     have : k0 = .free := by simp at hc; exact hc.1.1
     subst this
     exact hP p
   · rw [if_neg hc]; simp only [List.lookup_cons, hx]; exact ⟨_, rfl, p⟩
  | false =>
   simp only [List.lookup_cons, hx] at h
   by_cases hc : (k0 == NameKind.free && env.scope.kind == .function && env.kindOf n == some .cell) = true
   · rw [if_pos hc]; simp only [List.lookup_cons, hx]; exact ih h p
   · rw [if_neg hc]; simp only [List.lookup_cons, hx]; exact ih h p
theorem unlook_relabel {env : Env} : ∀ {names : List (Str × NameKind)} {x : Str} {k' : NameKind}, (names.map fun (n, k) => if (k == NameKind.free && env.scope.kind == .function && env.kindOf n == some .cell) then (n, NameKind.cell) else (n, k)).lookup x = some k' ->
 ∃ k, (x, k) ∈ names ∧ (k' = k ∨ k = .free)
 | [], _, _, h => by simp at h
 | (n, k0) :: r, x, k', h => by
  have ih := @unlook_relabel env r x k'
  have h' : List.lookup x ((if (k0 == NameKind.free && env.scope.kind == .function && env.kindOf n == some .cell) = true then (n, NameKind.cell) else (n, k0)) :: (r.map fun (n, k) => if (k == NameKind.free && env.scope.kind == .function && env.kindOf n == some .cell) then (n, NameKind.cell) else (n, k))) = some k' := h
  cases hx : x == n with
  | true =>
   have hxn : x = n := by simpa using hx
   subst hxn
   by_cases hc : (k0 == NameKind.free && env.scope.kind == .function && env.kindOf x == some .cell) = true
   · have : k0 = .free := by simp at hc; exact hc.1.1
     exact ⟨k0, List.mem_cons_self, .inr this⟩
   · rw [if_neg hc] at h'; simp only [List.lookup_cons, hx] at h'
     cases h'
     exact ⟨k0, List.mem_cons_self, .inl rfl⟩
  | false =>
   have h2 : List.lookup x (r.map fun (n, k) => if (k == NameKind.free && env.scope.kind == .function && env.kindOf n == some .cell) then (n, NameKind.cell) else (n, k)) = some k' := by
    by_cases hc : (k0 == NameKind.free && env.scope.kind == .function && env.kindOf n == some .cell) = true
    · rw [if_pos hc] at h'; simp only [List.lookup_cons, hx] at h'; exact h'
    · rw [if_neg hc] at h'; simp only [List.lookup_cons, hx] at h'; exact h'
   obtain ⟨k, a, b⟩ := ih h2
   exact ⟨k, List.mem_cons_of_mem _ a, b⟩
def CapOk (X : Cx) : List Str -> List Nat -> Prop
 | [], [] => True
 | y :: ys, j :: js => (X.N[j]? = some y ∧ (X.env.scope.names.lookup y = some .cell ∨ X.env.scope.names.lookup y = some .free)) ∧ CapOk X ys js
 | _, _ => False
theorem CapOk.at {X : Cx} : ∀ {caps : List Str} {js : List Nat}, CapOk X caps js -> ∀ (k : Nat) y j, caps[k]? = some y -> js[k]? = some j -> X.N[j]? = some y ∧ (X.env.scope.names.lookup y = some .cell ∨ X.env.scope.names.lookup y = some .free)
 | [], _, _, _, _, _, e, _ => by simp at e
 | _ :: _, [], h, _, _, _, _, _ => by exact False.elim h
 | y :: ys, j :: js, h, 0, _, _, e1, e2 => by simp at e1 e2; subst e1 e2; exact h.1
 | y :: ys, j :: js, h, k + 1, y', j', e1, e2 => h.2.at k y' j' (by simpa using e1) (by simpa using e2)
theorem CapOk.len {X : Cx} : ∀ {caps : List Str} {js : List Nat}, CapOk X caps js -> js.length = caps.length
 | [], [], _ => rfl
 | [], _ :: _, h => False.elim h
 | _ :: _, [], h => False.elim h
 | _ :: _, _ :: _, h => by simp [h.2.len]
structure BlkScope (X : Cx) (scope : Scope) (own caps : List Str) (js : List Nat) : Prop where
 kind : scope.kind = .function
 nocell : ∀ y ∈ scope.names, y.2 ≠ .cell
 names : ∀ y ∈ scope.names, y.2 = .local -> scope.names.lookup y.1 = some .local
 nd : (own ++ caps).Nodup
 own : ∀ y ∈ own, scope.names.lookup y = some .local
 capf : ∀ y ∈ caps, (y, NameKind.free) ∈ scope.names ∧ scope.names.lookup y = some .free
 capO : CapOk X caps js
 free : ∀ y ∈ scope.names, y.2 = .free -> y.1 ∈ caps
def blk (X : Cx) (N' : List Str) (scope : Scope) (C : Addr) (s : Shared) (H : Hp) (fp : List Addr) : Cx :=
 { X with N := N', s₀ := s, H₀ := H, env := compEnvC scope (clOf X.env.cells scope.names []) C X.env, outer := X.stack, ex := fp, fn := fun _ => false, pn := [], xe := fun _ _ => False }
def capsOf (js : List Nat) (σ : St) : St := js.map fun j => (σ[j]?).join
section
variable {X : Cx} {pins : List (Addr × Obj)} {σ : St} {H H' : Hp} {s : Shared} {scope : Scope} {own caps : List Str} {js : List Nat} {fp : List Addr}
theorem BlkScope.cells (B : BlkScope X scope own caps js) (ok : X.Ok) : ∀ y ∈ scope.names, y.2 = .free -> ∃ c, X.env.cells.lookup y.1 = some c := fun y hy hf => by
 obtain ⟨k, hk⟩ := List.getElem?_of_mem (B.free y hy hf)
 have hj : k < js.length := by rw [B.capO.len]; exact (List.getElem?_eq_some_iff.mp hk).1
 obtain ⟨_, h⟩ := B.capO.at k y.1 js[k] hk (by simp [hj])
 exact ok.has y.1 h
theorem inv_blk (B : BlkScope X scope own caps js) (I : Inv X pins σ H s) (hf : ∀ b ∈ fp, FpOk X pins H b) (ho : ∀ b ∈ fp, b < s.heap.objs.size) {h4 : Heap} {tk : Nat}
 (hn : h4.Ns (s.heap.objs.size + 1) (fun _ => none)) (hk : ∀ b o, s.heap.get? b = some o -> h4.get? b = some o)
 (hl : h4.get? s.heap.objs.size = some { cls := .type "list", data := .seq ([] : List Value).toArray 0 }) :
 Inv (blk X (own ++ caps) scope (s.heap.objs.size + 1) s H fp) [] (own.map (fun _ => none) ++ capsOf js σ) (upd H s.heap.objs.size (.lst [])) { s with heap := h4, toks := tk } := by
 have fresh : H s.heap.objs.size = none := I.hok.fresh (Nat.le_refl _)
 have freshC : H (s.heap.objs.size + 1) = none := I.hok.fresh (Nat.le_succ _)
 have hcl := B.cells I.ok
 have sub := clOf_sub (acc := []) hcl (fun x c e => by simp at e)
 have ok' : (blk X (own ++ caps) scope (s.heap.objs.size + 1) s H fp).Ok := by
  refine ⟨I.ok.mod, B.kind, I.ok.glob, I.ok.blt, Nat.le_succ _, fun x y c h1 h2 => I.ok.inj x y c (sub x c h1) (sub y c h2), fun x hx => ?_, fun x c hx => (nomatch hx), I.ok.hd, I.ok.frames, .inl rfl, fun b hb => ⟨?_, fun x c e => ?_⟩, I.bs, Nat.le_trans I.ok.bsz I.sz, fun b o e hb => ?_, fun b hb hs => ?_, I.stack, I.stkFree⟩
  · have hx' : ∃ k', (scope.names.map fun (n, k) => if (k == NameKind.free && X.env.scope.kind == .function && X.env.kindOf n == some .cell) then (n, NameKind.cell) else (n, k)).lookup x = some k' ∧ (k' = .cell ∨ k' = .free) := by
     rcases hx with e | e
     · exact ⟨_, e, .inl rfl⟩
     · exact ⟨_, e, .inr rfl⟩
    obtain ⟨k', e, hk'⟩ := hx'
    obtain ⟨k, hm, q⟩ := unlook_relabel e
    have hfree : k = .free := by
     rcases q with q | q
     · subst q
       rcases hk' with z | z
       · exact absurd z (B.nocell _ hm)
       · exact z
     · exact q
    subst hfree
    exact clOf_has hm
  · exact Nat.ne_of_lt (Nat.lt_succ_of_lt (ho b hb))
  · exact (hf b hb).2.2.2.2.1 x c (sub x c e)
  · rcases (hf b hb).2.2.2.1 with z | z
    · exact I.ok.noex b o e z
    · exact absurd (Nat.lt_of_lt_of_le (Heap.lt_size e) (Nat.le_trans I.ok.bsz z)) (Nat.lt_irrefl _)
  · rcases List.mem_cons.mp (I.stkSub b hs) with z | z
    · exact (hf b hb).2.1 z
    · exact (hf b hb).2.2.1 z
 refine ⟨ok', rfl, I.bare, Un.laid hk (Nat.le_refl _) fresh, ⟨_, hn, fun i x v e1 e2 e3 => ?_⟩, fun x c e => ?_, ?_, fun x c e => ?_, fun p hp => absurd (show p ∈ ([] : List (Addr × Obj)) from hp) (by simp), I.hok.laid hk (Nat.le_refl _) ⟨Nat.zero_le _, [], 0, .nil, hl⟩, ?_⟩
 · have e1 : (own ++ caps)[i]? = some x := e1
   have hi : ¬ i < own.length := fun hi => by
    rw [List.getElem?_append_left (by simpa using hi), List.getElem?_map] at e2
    cases q : own[i]? with
    | none => rw [q] at e2; cases e2
    | some y => rw [q] at e2; cases e2
   rw [List.getElem?_append_right (by simpa using hi)] at e2
   rw [List.getElem?_append_right (by simpa using hi)] at e1
   rw [List.length_map] at e2
   unfold capsOf at e2
   rw [List.getElem?_map] at e2
   cases q : js[i - own.length]? with
   | none => rw [q] at e2; cases e2
   | some j =>
    rw [q] at e2
    have e2 : (σ[j]?).join = some v := by simpa using e2
    have e2' : σ[j]? = some (some v) := by
     cases z : σ[j]? with
     | none => rw [z] at e2; cases e2
     | some w => rw [z] at e2; simpa using e2
    obtain ⟨c1, c2⟩ := B.capO.at _ x j e1 q
    obtain ⟨m, _, hl'⟩ := I.loc
    obtain ⟨u, r, lk⟩ := hl' j x v c1 e2' (c2.elim (fun z => .inr (.inl z)) fun z => .inr (.inr z))
    refine ⟨u, r, ?_⟩
    rcases lk with ⟨z, _⟩ | ⟨_, c, ec, cell⟩
    · have z : X.env.scope.names.lookup x = some .local := z
      rcases c2 with c2 | c2 <;> (rw [c2] at z; cases z)
    · have hfr := B.capf x (List.mem_of_getElem? e1)
      obtain ⟨k', ek, pk⟩ := lookup_relabel (env := X.env) (P := fun k => k = .cell ∨ k = .free) (fun _ => .inl rfl) hfr.2 (.inr rfl)
      refine .inr ⟨?_, c, ?_, ?_⟩
      · rcases pk with rfl | rfl
        · exact .inl ek
        · exact .inr ek
      · obtain ⟨c', e'⟩ := clOf_has (cells := X.env.cells) (acc := []) hfr.1
        have := sub x c' e'
        rw [ec] at this
        cases this
        exact e'
      · obtain ⟨oo, ho', hd'⟩ := cell
        exact ⟨oo, hk _ _ ho', hd'⟩
 · obtain ⟨v, oo, ho', hd'⟩ := I.cell x c (sub x c e)
   exact ⟨v, oo, hk _ _ ho', hd'⟩
 · show (upd H s.heap.objs.size (.lst [])) (s.heap.objs.size + 1) = none
   rw [upd_ne (Nat.succ_ne_self _)]; exact freshC
 · obtain ⟨v, oo, ho', hd'⟩ := I.cell x c (sub x c e)
   rw [upd_ne (Nat.ne_of_lt (Heap.lt_size ho'))]
   exact I.freeC x c (sub x c e)
 · show _ = (own ++ caps).length
   unfold capsOf
   rw [List.length_append, List.length_append, List.length_map, List.length_map, B.capO.len]
theorem inv_back {C : Addr} {σ' : St} {pl : List (Addr × Obj)} {s' : Shared} {h' : Heap} (I : Inv X pins σ H s) (hf : ∀ b ∈ fp, FpOk X pins H b) (I' : Inv (blk X (own ++ caps) scope C s H fp) pl σ' H' s') (hC : s.heap.objs.size <= C) (hs : Heap.SameBut C s'.heap h') :
 Inv X pins σ H' { s' with heap := h' } := by
 have neC : ∀ b o, s.heap.get? b = some o -> b ≠ C := fun b o e => Nat.ne_of_lt (Nat.lt_of_lt_of_le (Heap.lt_size e) hC)
 have freeC : H' C = none := I'.free
 have b' : Un (frs X.stack) fp H H' s.heap s'.heap := I'.base
 refine I.call' (s' := { s' with heap := h' }) (ch := fp) I'.os ⟨fun b o e n hb hx => (hs.2 b (neC b o e)).trans (b'.keep b o e n hb hx), fun b o e n hb hx => ?_, b'.free, fun b o e hx => ?_, b'.tups, b'.frzs, b'.tbls⟩ (fun b ob e => ?_) I'.bare fun b hb => ?_
 · obtain ⟨sl, e1⟩ := b'.slot b o e n hb hx
   exact ⟨sl, (hs.2 b (neC b o e)).trans e1⟩
 · obtain ⟨o', e1⟩ := b'.there b o e hx
   exact ⟨o', (hs.2 b (neC b o e)).trans e1⟩
 · refine (I'.hok b ob e).stay (fun c w' hc q => (hs.2 c ?_).trans q) (fun _ q => q) fun _ _ q => q
   rintro rfl
   rcases hc with rfl | hc
   · rw [freeC] at e; cases e
   · rw [freeC] at hc; cases hc
 · exact ⟨(hf b hb).2.2.2.1, (hf b hb).2.1, (hf b hb).2.2.2.2.1, (hf b hb).2.2.2.2.2⟩
end
theorem sure {α : Type} {M : Model} {A : Around} {m : Sem α} {P Q : α -> Shared -> Prop} {E : Value -> Shared -> Prop} {s : Shared} (h : wpAny M A m P (fun _ _ => False) s) (k : ∀ a s, P a s -> Q a s) : wpAny M A m Q E s := wpAny_mono h k fun _ _ f => f.elim
def PTs (X : Cx) (ifs : List Expr) (t : TT) : Prop := ∀ (pins : List (Addr × Obj)) (s : Shared) (σ : St) (H : Hp) (Q : Bool -> Hp -> Prop), Inv X pins σ H s -> t σ H Q ->
 wpAny (model X.prog X.w) X.A (forIn ifs true fun c r => if r = true then do let ok <- isTrue c X.env (eval c X.env); pure (ForInStep.yield ok) else pure (ForInStep.yield r)) (TP X pins σ Q) X.xe s
theorem pts_nil {X : Cx} : PTs X [] (fun _ H Q => Q true H) := fun pins s σ H Q I h => wpAny_tests_nil ⟨H, I, h⟩
theorem pts_one {X : Cx} {c : Expr} {t : TT} (h : PT X c t) : PTs X [c] t := fun pins s σ H Q I q => wpAny_tests_one (h pins s σ H Q I q)
def tComp (wi : TI) (n : Nat) (js : List Nat) (g : TG) (tc : Nat -> TT) (te : Nat -> TE) : TE := fun σ H Q => wi σ H fun J H1 => ∀ l, H1 l = none ->
 ∃ W : Nat -> Nat -> List V -> Hp -> Prop, (∃ m, W 0 m [] (upd H1 l (.lst []))) ∧ ∀ i m xs H ow, ow.length = n -> W i m xs H -> H l = some (.lst xs) ∧
  ((J.stop i H ∧ Q (.ref l) H) ∨ (J.go i H ∧ ∀ x H', J.yld i H x H' -> g x (ow ++ capsOf js σ) H' fun σ2 H2 => (∃ ow', ow'.length = n ∧ σ2 = ow' ++ capsOf js σ) ∧
   tc i σ2 H2 fun b H3 => if b = true then te i σ2 H3 fun y H4 => H4 l = some (.lst xs) ∧ xs.length < sizeLine ∧ ∃ m', m' < m ∧ W (i + 1) m' (xs ++ [y]) (upd H4 l (.lst (xs ++ [y])))
    else ∃ m', m' < m ∧ W (i + 1) m' xs H3))
def CompEnd (X : Cx) (pins : List (Addr × Obj)) (σ : St) (Q : VK) (acc : Value) (C : Addr) (s' : Shared) : Prop :=
 ∃ v H', Inv X pins σ H' s' ∧ RelV v acc ∧ Q v H' ∧ (∃ m, s'.heap.Ns C m) ∧ FpOk X pins H' C
theorem comp_core {X : Cx} {elt tg iter : Expr} {ifs : List Expr} {scope : Scope} {pos : Pos} {own caps : List Str} {js : List Nat} {g : TG} {tc : Nat -> TT} {te : Nat -> TE} (hc : X.calm = true) (B : BlkScope X scope own caps js)
 (hg : ∀ C s H fp, PG (blk X (own ++ caps) scope C s H fp) tg g) (ht : ∀ C s H fp i, PTs (blk X (own ++ caps) scope C s H fp) ifs (tc i)) (he : ∀ C s H fp i, PE (blk X (own ++ caps) scope C s H fp) elt (te i))
 {pins : List (Addr × Obj)} {σ : St} {Q : VK} {itv : Value} {s2 : Shared} {RR : Value -> Addr -> Result -> Shared -> Prop} (hRR : ∀ acc C s', CompEnd X pins σ Q acc C s' -> RR acc C (.ok .next) s')
 (h2 : PIE X pins σ tg (fun J H1 => ∀ l, H1 l = none ->
  ∃ W : Nat -> Nat -> List V -> Hp -> Prop, (∃ m, W 0 m [] (upd H1 l (.lst []))) ∧ ∀ i m xs H ow, ow.length = own.length -> W i m xs H -> H l = some (.lst xs) ∧
   ((J.stop i H ∧ Q (.ref l) H) ∨ (J.go i H ∧ ∀ x H', J.yld i H x H' -> g x (ow ++ capsOf js σ) H' fun σ2 H2 => (∃ ow', ow'.length = own.length ∧ σ2 = ow' ++ capsOf js σ) ∧
    tc i σ2 H2 fun b H3 => if b = true then te i σ2 H3 fun y H4 => H4 l = some (.lst xs) ∧ xs.length < sizeLine ∧ ∃ m', m' < m ∧ W (i + 1) m' (xs ++ [y]) (upd H4 l (.lst (xs ++ [y])))
     else ∃ m', m' < m ∧ W (i + 1) m' xs H3))) itv s2) :
 wpAny (model X.prog X.w) X.A (newList []) (fun acc s₃ => wpAny (model X.prog X.w) X.A (newFunctionEnv scope X.env.globals (clOf X.env.cells scope.names []) [] X.env.qual none .none (some X.env)) (fun cenv s₄ =>
  codeAny (model X.prog X.w) X.A (.compStart (.ListComp elt [⟨tg, iter, ifs, 0⟩] scope pos) 0 itv acc { cenv with scope := relabel scope X.env }) (RR acc cenv.locals) s₄) X.xe s₃) X.xe s2 := by
 obtain ⟨it, fp, tn, J, H2, e, I2, TT, st2, f2, q⟩ := h2
 subst e
 have fresh : H2 s2.heap.objs.size = none := I2.hok.fresh (Nat.le_refl _)
 obtain ⟨W, ⟨m0, w0⟩, turn⟩ := q s2.heap.objs.size fresh
 have hlt : ∀ b ∈ fp, b < s2.heap.objs.size := fun b hb => let ⟨o, e, _⟩ := TT.obj _ _ st2 b hb; Heap.lt_size e
 refine wpAny_newObj_type (wpAny_newFunctionEnv B.nocell (by intro y hy; simp at hy) (fun h₁ hns₁ hsb₁ => ?_) B.kind)
 dsimp only at hns₁ hsb₁ ⊢
 generalize hH2 : s2.heap.push { cls := .type "list", dict := none, data := .seq ([] : List Value).toArray } = H3 at hns₁ hsb₁ ⊢
 have hC : H3.objs.size = s2.heap.objs.size + 1 := by rw [<- hH2, Heap.size_push]
 have old : ∀ b o, s2.heap.get? b = some o -> h₁.get? b = some o := fun b o e => hsb₁.extBut b o (by rw [hC]; exact Nat.ne_of_lt (Nat.lt_succ_of_lt (Heap.lt_size e))) (Heap.get?_push_of_some _ (hH2 ▸ Heap.get?_push_of_some _ e))
 have hacc : h₁.get? s2.heap.objs.size = some { cls := .type "list", data := .seq ([] : List Value).toArray 0 } :=
  hsb₁.extBut _ _ (by rw [hC]; exact Nat.ne_of_lt (Nat.lt_succ_self _)) (Heap.get?_push_of_some _ (hH2 ▸ Heap.get?_push_size _ rfl))
 have hns : h₁.Ns (s2.heap.objs.size + 1) (fun _ => none) := by rw [<- hC]; exact hns₁
 have I4 : ∀ tk, Inv (blk X (own ++ caps) scope (s2.heap.objs.size + 1) s2 H2 fp) [] (own.map (fun _ => none) ++ capsOf js σ) (upd H2 s2.heap.objs.size (.lst [])) { s2 with heap := h₁, toks := tk } := fun tk => inv_blk B I2 f2 hlt hns old hacc
 rw [hC]
 -- what stays of the iterator
 have stat : ∀ {H' : Hp}, (∀ b ∈ fp, H' b = none) -> ∀ b ∈ fp, FpOk (blk X (own ++ caps) scope (s2.heap.objs.size + 1) s2 H2 fp) [] H' b := fun {H'} hn b hb => by
  have F := (I4 0).ok
  exact ⟨hn b hb, (F.exf b hb).1, F.exfs b hb, .inl hb, (F.exf b hb).2, fun p hp => absurd (show p ∈ ([] : List (Addr × Obj)) from hp) (by simp)⟩
 have loop : ∀ s3 : Shared, s3 = { s2 with heap := h₁, toks := s2.toks + ([] : List (Str × Value)).length } ->
  codeAny (model X.prog X.w) X.A (.compLoop (.ListComp elt [⟨tg, iter, ifs, 0⟩] scope pos) 0 (.ref it) (.ref s2.heap.objs.size) (compEnvC scope (clOf X.env.cells scope.names []) (s2.heap.objs.size + 1) X.env))
   (RR (.ref s2.heap.objs.size) (s2.heap.objs.size + 1)) s3 := by
  rintro s3 rfl
  refine codeAny_loop rfl (fun n s' => ∃ i xs ow H', ow.length = own.length ∧ Inv (blk X (own ++ caps) scope (s2.heap.objs.size + 1) s2 H2 fp) [] (ow ++ capsOf js σ) H' s' ∧ tn i s'.heap ∧ (∀ b ∈ fp, H' b = none) ∧ W i n xs H') ?_ m0
   ⟨0, [], own.map (fun _ => none), _, by simp, I4 _, TT.keep _ _ _ st2 fun b _ o e => old b o e, fun b hb => by rw [upd_ne (Nat.ne_of_lt (hlt b hb))]; exact (f2 b hb).1, w0⟩
  rintro n s4 ⟨i, xs, ow, H4, how, I5, st4, fr4, w4⟩
  obtain ⟨hl4, q4⟩ := turn i n xs H4 ow how w4
  refine wpAny_noted ?_
  refine cast (congrArg (fun m => wpAny (model X.prog X.w) X.A m _ _ s4) (compTurn_list _ _ _ _ _ _ _ _ _).symm) ?_
  refine wpAny_bind (wpAny_standAt (wpAny_bind ?_))
  rcases q4 with ⟨stop, qn⟩ | ⟨go, step⟩
  · refine sure (TT.done (blk X (own ++ caps) scope (s2.heap.objs.size + 1) s2 H2 fp) rfl rfl rfl hc i [] s4 _ H4 _ I5 (stat fr4) st4 stop) fun r s6 ⟨hr, I6⟩ => ?_
    subst hr
    obtain ⟨m, hm, _⟩ := I6.loc
    refine wpAny_pure (hRR _ _ _ ⟨.ref s2.heap.objs.size, H4, inv_back I2 f2 I6 (Nat.le_succ _) (Heap.SameBut.refl ..), rfl, qn, ⟨m, hm⟩, I2.fpOk (Nat.le_succ _) I6.free⟩)
  · refine sure (TT.item (blk X (own ++ caps) scope (s2.heap.objs.size + 1) s2 H2 fp) rfl rfl rfl hc i [] s4 _ H4 (fun _ _ => False) I5 (stat fr4) st4 go) fun r s6 ⟨u, hr, h6⟩ => ?_
    subst hr
    refine wpAny_bind (sure h6 fun _ s7 ⟨x, H7, I7, r7, y7, st7, fr7⟩ => ?_)
    have I7' := I7.pinned (stat fr7) (TT.obj _ _ st7)
    refine wpAny_bind (sure (hg _ _ _ _ _ s7 _ H7 x u _ I7' r7 (step x H7 y7)) fun _ s8 ⟨σ8, H8, I8, ⟨ow', how', eσ⟩, q8⟩ => ?_)
    subst eσ
    refine wpAny_bind (sure (ht _ _ _ _ i _ s8 _ H8 _ I8 q8) fun b s9 ⟨H9, I9, q9⟩ => ?_)
    have again : ∀ {H10 : Hp} {s10 : Shared}, Inv (blk X (own ++ caps) scope (s2.heap.objs.size + 1) s2 H2 fp) ([] ++ pinsAt fp s7.heap) (ow' ++ capsOf js σ) H10 s10 -> tn (i + 1) s10.heap ∧ ∀ b ∈ fp, H10 b = none := fun {H10 s10} I10 => by
     refine ⟨TT.keep _ _ _ st7 fun b hb o e => (I10.pin (b, o) (List.mem_append_right _ (List.mem_append_right _ (mem_pinsAt hb e)))).1, fun b hb => ?_⟩
     obtain ⟨o, e, d⟩ := TT.obj _ _ st7 b hb
     exact (I10.pin (b, o) (List.mem_append_right _ (List.mem_append_right _ (mem_pinsAt hb e)))).2.1
    cases b with
    | false =>
     rw [if_neg Bool.false_ne_true] at q9
     obtain ⟨m', hm, w9⟩ := q9
     exact wpAny_pure ⟨rfl, m', hm, i + 1, xs, ow', H9, how', I9.unpinned, (again I9).1, (again I9).2, w9⟩
    | true =>
     rw [if_pos rfl] at q9
     refine wpAny_bind (wpAny_bind (sure (he _ _ _ _ i _ s9 _ H9 _ I9 q9) fun y s10 ⟨z, H10, I10, r10, hl10, hz, m', hm, w10⟩ => wpAny_bind ?_))
     refine sure (mt_append _ s10 _ H10 (.ref s2.heap.objs.size) [z] (.ref s2.heap.objs.size) [y] (fun _ H' => H' = upd H10 s2.heap.objs.size (.lst (xs ++ [z]))) I10 rfl (.cons r10 .nil) ⟨_, xs, z, rfl, rfl, hl10, hz, rfl⟩) fun _ s11 ⟨_, H11, I11, _, e11⟩ => ?_
     subst e11
     exact wpAny_pure (wpAny_pure ⟨rfl, m', hm, i + 1, xs ++ [z], ow', _, how', I11.unpinned, (again I11).1, (again I11).2, w10⟩)
 exact codeAny_compStart_list (loop _ rfl) (TT.self _ 0 _ _ _ (TT.keep _ _ _ st2 fun b _ o e => old b o e) (loop _ rfl))
theorem away {X : Cx} {pins : List (Addr × Obj)} {σ : St} {H : Hp} {s : Shared} {C : Addr} {h' : Heap} (I : Inv X pins σ H s) (f : FpOk X pins H C) (hs : Heap.SameBut C s.heap h') : Inv X pins σ H { s with heap := h' } :=
 I.turned (t' := s.toks) (fun b o hb e => (hs.2 b hb).trans e) f.1 f.2.1 f.2.2.2.1 f.2.2.2.2.1 f.2.2.2.2.2
theorem pe_comp {X : Cx} {elt tg iter : Expr} {ifs : List Expr} {scope : Scope} {pos : Pos} {wi : TI} {own caps : List Str} {js : List Nat} {g : TG} {tc : Nat -> TT} {te : Nat -> TE} (hc : X.calm = true) (B : BlkScope X scope own caps js) (hi : PI X tg iter wi)
 (hg : ∀ C s H fp, PG (blk X (own ++ caps) scope C s H fp) tg g) (ht : ∀ C s H fp i, PTs (blk X (own ++ caps) scope C s H fp) ifs (tc i)) (he : ∀ C s H fp i, PE (blk X (own ++ caps) scope C s H fp) elt (te i))
 (hs : ∀ x, foldedSetIterable iter X.env x = pure x := by intro _; rfl) : PE X (.ListComp elt [⟨tg, iter, ifs, 0⟩] scope pos) (tComp wi own.length js g tc te) := by
 intro pins s σ H Q I h
 rw [eval_ListComp]
 refine wpAny_comprehension_free (use := none) rfl hs (closure_of (B.cells I.ok)) B.kind B.names (thn (hi pins s σ H _ I h) fun v s1 h1 => thn h1 fun itv s2 h2 => ?_)
 refine comp_core (RR := fun acc C => compPost (model X.prog X.w) X.A X.xe none (EP X pins σ Q) acc C) hc B hg ht he (fun acc C s' ⟨v, H', I', r, q, ⟨m, hm⟩, f⟩ => ?_) h2
 exact ⟨m, hm, fun h' hs' => ⟨v, H', away I' f hs', r, q⟩⟩
theorem ps_comp {X : Cx} {elt tg iter : Expr} {ifs : List Expr} {scope : Scope} {pos spos py : Pos} {wi : TI} {own caps : List Str} {js : List Nat} {g : TG} {tc : Nat -> TT} {te : Nat -> TE} {y : Str} {k : Nat} (hN : X.N.Nodup) (hk : X.N[k]? = some y) (hy : Loc X.env.scope y)
 (hc : X.calm = true) (B : BlkScope X scope own caps js) (hi : PI X tg iter wi)
 (hg : ∀ C s H fp, PG (blk X (own ++ caps) scope C s H fp) tg g) (ht : ∀ C s H fp i, PTs (blk X (own ++ caps) scope C s H fp) ifs (tc i)) (he : ∀ C s H fp i, PE (blk X (own ++ caps) scope C s H fp) elt (te i))
 (hsw : swapsWith (.ListComp elt [⟨tg, iter, ifs, 0⟩] scope pos) (some (.Name y py)) spos.line X.env = pure true) (hf : X.fn y = true ∨ X.env.scope.names.lookup y = some .local)
 (hs : ∀ x, foldedSetIterable iter X.env x = pure x := by intro _; rfl) : PS X (.Assign [.Name y py] (.ListComp elt [⟨tg, iter, ifs, 0⟩] scope pos) spos) (tAsg (tComp wi own.length js g tc te) (gName k)) := by
 intro pins s σ H D I h
 rw [exec_Assign_Name_used _ _ _ _ hsw]
 refine wpAny_bind (wpAny_standAt (wpAny_bind ?_))
 show wpAny _ X.A (do let _ <- comprehension (.ListComp elt [⟨tg, iter, ifs, 0⟩] scope pos) scope X.env _ (newList []) false (eval iter X.env) (some (assign (.Name y py) X.env))) _ _ s
 refine wpAny_bind (wpAny_mono (wpAny_comprehension_free (use := some (assign (.Name y py) X.env)) (Q := fun _ s' => SP X pins D .next s') rfl hs (closure_of (B.cells I.ok)) B.kind B.names
  (thn (hi pins s σ H _ I h) fun v s1 h1 => thn h1 fun itv s2 h2 => ?_)) (fun _ s' hq => wpAny_pure (wpAny_pure hq)) fun _ _ e => e)
 refine comp_core (RR := fun acc C => compPost (model X.prog X.w) X.A X.xe (some (assign (.Name y py) X.env)) (fun _ s' => SP X pins D .next s') acc C) (pins := pins) (σ := σ) (Q := fun v H' => D.nx (σ.set k (some v)) H') hc B hg ht he (fun acc C s' ⟨v, H', I', r, q, ⟨m, hm⟩, f⟩ => ?_) h2
 show wpAny _ X.A (assign (.Name y py) X.env acc) _ _ _
 refine wpAny_assign_Name (store_ok2 I' hN hk hy r (fun s'' I'' ⟨a, sb, ha⟩ => ?_) hf)
 have hCa : C ≠ a := by
  rcases ha with rfl | ha
  · exact f.2.1
  · exact fun z => f.2.2.2.2.1 y a ha z.symm
 exact ⟨m, hm.sameBut sb hCa, fun h' hs' => ⟨_, H', away I'' f hs', q⟩⟩
structure Yields (K : PySem.W.Frag) (J : It) (vs : List V) (srcs ds : List D) : Prop where
 go : ∀ (Z : Zone) H, Z.Open H -> Ins K H Z srcs vs -> ∀ (i : Nat) d, ds[i]? = some d -> J.go i H ∧ ∀ x H2, J.yld i H x H2 -> Same H H2 ∧ In K H2 Z d x
 stop : ∀ (Z : Zone) H, Z.Open H -> Ins K H Z srcs vs -> J.stop ds.length H
def tIT (K : PySem.W.Frag) (m : Bool) (ρ : List (Option D)) (ds : List D) : TI := fun σ H R => ∃ Z : Zone, Z.Open H ∧ EnvIn K H Z σ ρ ∧
 ∀ J H' vs srcs, Same H H' -> Ins K H' (out m Z H) srcs vs -> Yields K J vs srcs ds -> R J H'
def IT (X : Cx) (tg : Expr) (m : Bool) (ρ : List (Option D)) (iter : Expr) (ds : List D) : Prop := PI X tg iter (tIT X.K m ρ ds)
theorem PI.mono {X : Cx} {tg iter : Expr} {t t' : TI} (h : PI X tg iter t) (k : ∀ σ H R, t' σ H R -> t σ H R) : PI X tg iter t' := fun pins s σ H R I q => h pins s σ H R I (k σ H R q)
section
variable {X : Cx} {ρ : List (Option D)} {m m1 m2 : Bool} {tg e a b : Expr} {ds : List D} {d : D} {pos p : Pos}
theorem it_list (h : E X m ρ e (.lst ds)) : IT X tg m ρ e ds := PI.mono (pi_list h) fun σ H R z0 => el13 z0 fun Z oz en k => ⟨Z, oz, en, fun v H1 s1 i1 => by
 obtain ⟨a, xs, rfl, l, j⟩ := in_lst.mp i1
 refine ⟨a, rfl, ⟨xs, l.sq⟩, k _ H1 [.ref a] [.lst ds] s1 (Ins.one i1) ⟨fun Z2 H2 o2 j2 i d e => ?_, fun Z2 H2 o2 j2 => ?_⟩⟩
 · obtain ⟨w, r, e1, j3, j4⟩ := ins_cons.mp j2
   cases e1
   obtain ⟨a', ys, e2, l2, j5⟩ := in_lst.mp j3
   cases e2
   obtain ⟨v, e3, iv⟩ := j5.get e
   refine ⟨⟨ys, v, l2.sq, e3⟩, fun x H3 ⟨e4, y⟩ => ?_⟩
   subst e4
   have := y ys l2.sq
   rw [e3] at this
   cases this
   exact ⟨Same.refl _, iv⟩
 · obtain ⟨w, r, e1, j3, j4⟩ := ins_cons.mp j2
   cases e1
   obtain ⟨a', ys, e2, l2, j5⟩ := in_lst.mp j3
   cases e2
   exact ⟨ys, l2.sq, Nat.le_of_eq j5.length.symm⟩⟩
def rangeD (lo : Int) (n : Nat) : List D := (List.range n).map fun i => D.int (lo + (i : Nat))
theorem rangeD_get {lo : Int} {n i : Nat} {d : D} (h : (rangeD lo n)[i]? = some d) : i < n ∧ d = .int (lo + i) := by
 unfold rangeD at h
 rw [List.getElem?_map] at h
 by_cases hi : i < n
 · rw [List.getElem?_range hi] at h
   exact ⟨hi, by simpa using h.symm⟩
 · rw [List.getElem?_eq_none (by simpa using hi)] at h
   cases h
theorem rangeD_len {lo : Int} {n : Nat} : (rangeD lo n).length = n := by simp [rangeD]
theorem yields_range {K : PySem.W.Frag} (lo : Int) (n : Nat) : Yields K (Itr lo n) [] [] (rangeD lo n) :=
 ⟨fun Z H _ _ i d e => by
  obtain ⟨hi, rfl⟩ := rangeD_get e
  refine ⟨hi, fun x H2 ⟨e1, e2⟩ => ?_⟩
  subst e1 e2
  exact ⟨Same.refl _, in_int.mpr rfl⟩, fun Z H _ _ => by rw [rangeD_len]; exact Nat.le_refl n⟩
theorem it_range {n : Int} (h : E X m1 ρ a (.int n)) (hn : n < 2 ^ 62) (hn2 : -(2 ^ 62) <= n) (hm : X.mg "range" = none) (hg : Gl X "range" := by rfl) (hs : starEach [a] X.env = [(false, eval a X.env)] := by rfl) :
 IT X tg m ρ (.Call (.Name "range" p) [a] [] pos) (rangeD 0 n.toNat) :=
 PI.mono (pi_range1 hg hm (pa_cons h pa_nil (by rw [hs]; rfl)) hs) fun σ H R z0 => el13 z0 fun Z oz en k => ⟨Z, oz, en, fun v H1 s1 i1 => ⟨n, by rw [in_int.mp (i1.plain oz)], hn2, hn, k _ H1 [] [] s1 (ins_nil.mpr rfl) (yields_range 0 n.toNat)⟩⟩
def Its (z : Str) : It := ⟨fun i _ => i < z.cps.size, fun i H x H' => H' = H ∧ ∃ c, z.cps[i]? = some c ∧ x = .str ⟨#[c]⟩, fun i _ => z.cps.size <= i⟩
theorem turn_ascii {P : Program} {w : World} {K : PySem.W.Frag} {tg : Expr} (it : Addr) (z : Str) (t : Tok) : Turn P w K tg (Its z) [it] it (fun i h => h.IsStrIter it "str_ascii_iterator" z t i) where
 mem := by simp
 obj := fun i h st b hb => by
  have e : b = it := by simpa using hb
  subst e
  obtain ⟨o, e, c, d⟩ := st
  exact ⟨o, e, fun v z => by rw [d] at z; cases z⟩
 keep := fun i h h' st k => let ⟨o, ho, r⟩ := st; ⟨o, k it (by simp) o ho, r⟩
 item := by
  intro X hP hw hK hc i pins s σ H E I hf st hg
  subst hP hw hK
  obtain ⟨f0, f1, f2, f3, f4, f5⟩ := hf it (by simp)
  have hg : i < z.cps.size := hg
  refine wpAny_pyNext_ascii_item st (c := z.cps[i]) (by simp [hg]) fun h' st' sb => ?_
  have I1 : Inv X pins σ H { s with heap := h', toks := s.toks + 1 } := I.turned (t' := s.toks + 1) (fun b o hb e => (sb.2 b hb).trans e) f0 f1 f3 f4 f5
  obtain ⟨o, e, c, d⟩ := id st'
  exact ⟨_, rfl, go_of (s := { s with heap := h', toks := s.toks + 1 }) e c d (by decide) ⟨.str ⟨#[z.cps[i]]⟩, H, I1, ⟨_, rfl⟩, ⟨rfl, z.cps[i], by simp [hg], rfl⟩, st', fun b hb => (hf b hb).1⟩⟩
 done := by
  intro X hP hw hK hc i pins s σ H E I hf st hg
  subst hP hw hK
  obtain ⟨f0, f1, f2, f3, f4, f5⟩ := hf it (by simp)
  have hg : z.cps.size <= i := hg
  exact wpAny_pyNext_ascii_end (I.ok.hd hc) st (by simp [hg]) fun h' eb => ⟨rfl, I.turned (t' := s.toks) (fun b o hb e => eb b o hb e) f0 f1 f3 f4 f5⟩
 self := fun _ _ _ _ _ st h => wpAny_pyIter_striter_ascii st h
theorem turn_wide {P : Program} {w : World} {K : PySem.W.Frag} {tg : Expr} (it : Addr) (z : Str) (t : Tok) : Turn P w K tg (Its z) [it] it (fun i h => h.IsStrIter it "str_iterator" z t i) where
 mem := by simp
 obj := fun i h st b hb => by
  have e : b = it := by simpa using hb
  subst e
  obtain ⟨o, e, c, d⟩ := st
  exact ⟨o, e, fun v z => by rw [d] at z; cases z⟩
 keep := fun i h h' st k => let ⟨o, ho, r⟩ := st; ⟨o, k it (by simp) o ho, r⟩
 item := by
  intro X hP hw hK hc i pins s σ H E I hf st hg
  subst hP hw hK
  obtain ⟨f0, f1, f2, f3, f4, f5⟩ := hf it (by simp)
  have hg : i < z.cps.size := hg
  refine wpAny_pyNext_wide_item st (c := z.cps[i]) (by simp [hg]) fun h' st' sb => ?_
  have I1 : Inv X pins σ H { s with heap := h', toks := s.toks + 1 } := I.turned (t' := s.toks + 1) (fun b o hb e => (sb.2 b hb).trans e) f0 f1 f3 f4 f5
  obtain ⟨o, e, c, d⟩ := id st'
  exact ⟨_, rfl, go_of (s := { s with heap := h', toks := s.toks + 1 }) e c d (by decide) ⟨.str ⟨#[z.cps[i]]⟩, H, I1, ⟨_, rfl⟩, ⟨rfl, z.cps[i], by simp [hg], rfl⟩, st', fun b hb => (hf b hb).1⟩⟩
 done := by
  intro X hP hw hK hc i pins s σ H E I hf st hg
  subst hP hw hK
  obtain ⟨f0, f1, f2, f3, f4, f5⟩ := hf it (by simp)
  have hg : z.cps.size <= i := hg
  exact wpAny_pyNext_wide_end (I.ok.hd hc) st (by simp [hg]) fun h' eb => ⟨rfl, I.turned (t' := s.toks) (fun b o hb e => eb b o hb e) f0 f1 f3 f4 f5⟩
 self := fun _ _ _ _ _ st h => wpAny_pyIter_striter_wide st h
def iStr (tl : TE) : TI := fun σ H R => tl σ H fun x H1 => ∃ z, x = .str z ∧ R (Its z) H1
theorem pi_str {tl : TE} (hl : PE X e tl) : PI X tg e (iStr tl) := by
 intro pins s σ H R I h
 refine thn (hl pins s σ H _ I h) fun v s1 ⟨x, H1, I1, r1, q1⟩ => ?_
 obtain ⟨z, rfl, q⟩ := q1
 obtain ⟨t, rfl⟩ := r1
 have fp : ∀ b ∈ [s1.heap.objs.size], FpOk X pins H1 b := fun b hb => by
  have e : b = s1.heap.objs.size := by simpa using hb
  subst e
  exact I1.fpOk (Nat.le_refl _) (I1.hok.fresh (Nat.le_refl _))
 cases ha : z.cps.all (· < 128)
 · exact wpAny_pyIter_wide ha ⟨s1.heap.objs.size, [s1.heap.objs.size], _, _, H1, rfl, I1.kept (t' := s1.toks) fun b o e => Heap.get?_push_of_some _ e, turn_wide _ z t, ⟨_, Heap.get?_push_size _ rfl, rfl, rfl⟩, fp, q⟩
 · exact wpAny_pyIter_ascii ha ⟨s1.heap.objs.size, [s1.heap.objs.size], _, _, H1, rfl, I1.kept (t' := s1.toks) fun b o e => Heap.get?_push_of_some _ e, turn_ascii _ z t, ⟨_, Heap.get?_push_size _ rfl, rfl, rfl⟩, fp, q⟩
def signsD (z : Str) : List D := z.cps.toList.map fun c => D.str ⟨#[c]⟩
theorem it_str {z : Str} (h : E X m1 ρ e (.str z)) : IT X tg m ρ e (signsD z) := PI.mono (pi_str h) fun σ H R z0 => el13 z0 fun Z oz en k => ⟨Z, oz, en, fun v H1 s1 i1 => by
 refine ⟨z, in_str.mp (i1.plain oz), k _ H1 [] [] s1 (ins_nil.mpr rfl) ⟨fun Z2 H2 o2 j2 i d e => ?_, fun Z2 H2 o2 j2 => ?_⟩⟩
 · unfold signsD at e
   rw [List.getElem?_map] at e
   cases q : z.cps.toList[i]? with
   | none => rw [q] at e; cases e
   | some c =>
    rw [q] at e
    have e' : D.str ⟨#[c]⟩ = d := by simpa using e
    subst e'
    have hi : i < z.cps.size := by simpa using (List.getElem?_eq_some_iff.mp q).1
    refine ⟨hi, fun x H3 ⟨e1, c', e2, e3⟩ => ?_⟩
    subst e1 e3
    have : c' = c := by
     have q' : z.cps[i]? = some c := by simpa using q
     rw [q'] at e2
     exact (Option.some.inj e2).symm
    subst this
    exact ⟨Same.refl _, in_str.mpr rfl⟩
 · show z.cps.size <= (signsD z).length
   simp [signsD]⟩
def TS' (X : Cx) (ρ : List (Option D)) (ifs : List Expr) (b : Bool) : Prop := PTs X ifs (tB' X.K ρ b)
theorem ts_nil : TS' X ρ [] true := fun pins s σ H Q I z0 => el13 z0 fun Z oz en k => pts_nil pins s σ H Q I (k H (Same.refl H))
theorem ts_one {p : Bool} (h : T X ρ e p) : TS' X ρ [e] p := pts_one h
def capD (js : List Nat) (ρ : List (Option D)) : List (Option D) := js.map fun j => (ρ[j]?).join
theorem envIn_caps {K : PySem.W.Frag} {H : Hp} {Z : Zone} {σ : St} {js : List Nat} (en : EnvIn K H Z σ ρ) {ow : St} {ov : List (Option D)} (hl : ow.length = ov.length) (h : ∀ (i : Nat) d, ov[i]? = some (some d) -> ∃ v, ow[i]? = some (some v) ∧ In K H Z d v) :
 EnvIn K H Z (ow ++ capsOf js σ) (ov ++ capD js ρ) := fun i d e => by
 by_cases hi : i < ov.length
 · rw [List.getElem?_append_left hi] at e
   rw [List.getElem?_append_left (by omega)]
   exact h i d e
 · rw [List.getElem?_append_right (by omega)] at e
   rw [List.getElem?_append_right (by omega), hl]
   unfold capD at e
   unfold capsOf
   rw [List.getElem?_map] at e ⊢
   cases q : js[i - ov.length]? with
   | none => rw [q] at e; cases e
   | some j =>
    rw [q] at e
    have e : (ρ[j]?).join = some d := by simpa using e
    have e' : ρ[j]? = some (some d) := by
     cases z : ρ[j]? with
     | none => rw [z] at e; cases e
     | some w => rw [z] at e; simpa using e
    obtain ⟨v, a, b⟩ := en j d e'
    exact ⟨v, by simp [a], b⟩
def tcD (K : PySem.W.Frag) (js : List Nat) (ρ : List (Option D)) (ds : List D) (p : D -> Bool) (i : Nat) : TT := fun σ H Q => ∃ d, ds[i]? = some d ∧ tB' K ([some d] ++ capD js ρ) (p d) σ H Q
def teD (K : PySem.W.Frag) (js : List Nat) (ρ : List (Option D)) (ds : List D) (p : D -> Bool) (f : D -> D) (me : Bool) (i : Nat) : TE := fun σ H Q => ∃ d, ds[i]? = some d ∧ p d = true ∧ tE K me ([some d] ++ capD js ρ) (f d) σ H Q
theorem comp_reads {js : List Nat} {me : Bool} (p : D -> Bool) (f : D -> D) (hz : ds.length <= sizeLine) (hm : m = true -> me = true ∨ ∀ d ∈ ds, (f d).flat = true) (σ : St) (H : Hp) (Q : VK) (h : tE X.K m ρ (.lst ((ds.filter p).map f)) σ H Q) :
 tComp (tIT X.K m1 ρ ds) 1 js (gName 0) (tcD X.K js ρ ds p) (teD X.K js ρ ds p f me) σ H Q := by
 obtain ⟨Z, oz, en, k⟩ := h
 refine ⟨Z, oz, en, fun J H1 vs srcs s1 i1 Y l hl => ?_⟩
 have hlH : H l = none := s1.free hl
 -- all zones without l
 have noL : ∀ {ds : List D} {vs : List V} {Z' : Zone} {Ha Hb : Hp}, Ha l = none -> Same Ha Hb -> Ins X.K Ha Z' ds vs -> Ins X.K Hb ⟨Z'.m, fun a => Z'.S a ∧ a ≠ l⟩ ds vs := fun {ds vs Z' Ha Hb} ha sa h => Ins.carry (Z' := ⟨Z'.m, fun a => Z'.S a ∧ a ≠ l⟩) (Carry.of sa (fun a zs e z => ⟨z, ne_of_none e ha⟩) fun m => m) h
 have noL1 : ∀ {d : D} {v : V} {Z' : Zone} {Ha Hb : Hp}, Ha l = none -> Same Ha Hb -> In X.K Ha Z' d v -> In X.K Hb ⟨Z'.m, fun a => Z'.S a ∧ a ≠ l⟩ d v := fun {d v Z' Ha Hb} ha sa h => In.carry (Z' := ⟨Z'.m, fun a => Z'.S a ∧ a ≠ l⟩) (Carry.of sa (fun a zs e z => ⟨z, ne_of_none e ha⟩) fun m => m) h
 refine ⟨fun i n xs H' => n = ds.length - i ∧ i <= ds.length ∧ Same H1 H' ∧ H' l = some (.lst xs) ∧ xs.length <= i ∧ Ins X.K H' ⟨(out m Z H).m, fun a => (out m Z H).S a ∧ a ≠ l⟩ (((ds.take i).filter p).map f) xs, ⟨ds.length, by simp, Nat.zero_le _, same_new hl, upd_same, Nat.zero_le _, by simp; exact ins_nil.mpr rfl⟩, ?_⟩
 rintro i n xs H' ow how ⟨rfl, hi', s1', hl', hxi, jx⟩
 refine ⟨hl', ?_⟩
 have srcsZ : Ins X.K H1 Z srcs vs := by
  cases m1
  · exact i1
  · exact i1.up oz
 let Zl : Zone := ⟨Z.m, fun a => Z.S a ∧ a ≠ l⟩
 have opl : ∀ {Ha : Hp} {o : HO}, Same H Ha -> Ha l = some o -> Zl.Open Ha := fun sa e => ⟨fun a ha => ⟨oz.op a (sa.free ha), by rintro rfl; rw [e] at ha; cases ha⟩, sa.tabs oz.tb⟩
 by_cases hlt : i < ds.length
 · have hd : ds[i]? = some ds[i] := by simp [hlt]
   obtain ⟨go, yl⟩ := Y.go Zl H' (opl (s1.trans s1') hl') (noL hl s1' srcsZ) i ds[i] hd
   refine .inr ⟨go, fun y H2 hy => ?_⟩
   obtain ⟨s2, iy⟩ := yl y H2 hy
   have hl2 : H2 l = some (.lst xs) := s2.at hl'
   have sH2 : Same H H2 := (s1.trans s1').trans s2
   obtain ⟨w, rfl⟩ : ∃ w, ow = [w] := by
    match ow, how with
    | [w], _ => exact ⟨w, rfl⟩
   have en2 : EnvIn X.K H2 Zl ([some y] ++ capsOf js σ) ([some ds[i]] ++ capD js ρ) := envIn_caps (fun i d e => let ⟨v, a, b⟩ := en i d e; ⟨v, a, noL1 hlH sH2 b⟩) rfl fun i d e => by
    match i, e with
    | 0, e => cases e; exact ⟨y, rfl, iy⟩
   refine ⟨⟨[some y], rfl, rfl⟩, ds[i], hd, Zl, opl sH2 hl2, en2, fun H3 s3 => ?_⟩
   have hl3 : H3 l = some (.lst xs) := s3.at hl2
   have st : (ds.take (i + 1)).filter p = (ds.take i).filter p ++ (if p ds[i] then [ds[i]] else []) := take_succ_filter p ds i ds[i] hd
   cases hp : p ds[i] with
   | false =>
    refine iteF ?_
    refine ⟨ds.length - (i + 1), by omega, rfl, hlt, (s1'.trans s2).trans s3, hl3, by omega, ?_⟩
    rw [st, hp]
    simp only [Bool.false_eq_true, if_false, List.append_nil]
    exact jx.same (s2.trans s3)
   | true =>
    refine iteT ?_
    refine ⟨ds[i], hd, hp, Zl, opl (sH2.trans s3) hl3, en2.same s3, fun v H4 s4 iv => ?_⟩
    have hl4 : H4 l = some (.lst xs) := s4.at hl3
    refine ⟨hl4, by omega, ds.length - (i + 1), by omega, rfl, hlt, ((s1'.trans s2).trans (s3.trans s4)).write hl hl4, upd_same, by rw [List.length_append]; simp; omega, ?_⟩
    · rw [st, hp]
      simp only [if_true, List.map_append, List.map_cons, List.map_nil]
      have n : ¬ (⟨(out m Z H).m, fun a => (out m Z H).S a ∧ a ≠ l⟩ : Zone).S l := fun z => z.2 rfl
      refine Ins.append ((jx.same (s2.trans (s3.trans s4))).carry (.write hl4 n)) (Ins.one ?_)
      refine In.carry (.write hl4 n) ?_
      cases m with
      | false => exact iv.plain (opl (sH2.trans s3) hl3)
      | true =>
       rcases hm rfl with h | h
       · subst h
         exact In.carry (Z := nw H3) (Z' := ⟨true, fun a => H a = none ∧ a ≠ l⟩) ⟨fun a zs e z => ⟨e, (sH2.trans s3).free z, by rintro rfl; have z : H3 a = none := z; rw [hl3] at z; cases z⟩, fun m => nwF m, fun _ _ e => e⟩ iv
       · exact iv.flat' (h _ (List.getElem_mem hlt))
 · have e : i = ds.length := by omega
   subst e
   refine .inl ⟨Y.stop Zl H' (opl (s1.trans s1') hl') (noL hl s1' srcsZ), k (.ref l) H' (s1.trans s1') (in_lst.mpr ⟨l, xs, rfl, .inl ⟨hl', ?_⟩, ?_⟩)⟩
   · cases m
     · exact oz l hlH
     · exact hlH
   · rw [List.take_length] at jx
     exact Ins.carry (Z := ⟨(out m Z H).m, fun a => (out m Z H).S a ∧ a ≠ l⟩) (Z' := out m Z H) (Carry.of (Same.refl H') (fun a zs e z => And.left z) fun m => m) jx
structure EC (X : Cx) (m : Bool) (ρ : List (Option D)) (e : Expr) (d : D) : Prop where
 val : E X m ρ e d
 s : ∀ (y : Str) (k : Nat) (spos py : Pos), X.N.Nodup -> X.N[k]? = some y -> Loc X.env.scope y -> swapsWith e (some (.Name y py)) spos.line X.env = pure true -> (X.fn y = true ∨ X.env.scope.names.lookup y = some .local) -> PS X (.Assign [.Name y py] e spos) (tAsg (tE X.K m ρ d) (gName k))
theorem PS.mono' {X : Cx} {st : Stmt} {t t' : TS} (h : PS X st t) (k : ∀ Q σ H, t' Q σ H -> t Q σ H) : PS X st t' := fun pins s σ H Q I q => h pins s σ H Q I (k Q σ H q)
theorem ec_comp {elt iter : Expr} {x : Str} {px : Pos} {ifs : List Expr} {scope : Scope} {me : Bool} (caps : List Str) (js : List Nat) (p : D -> Bool) (f : D -> D) (hi : IT X (.Name x px) m1 ρ iter ds)
 (ht : ∀ C s H fp d, d ∈ ds -> TS' (blk X ([x] ++ caps) scope C s H fp) ([some d] ++ capD js ρ) ifs (p d)) (he : ∀ C s H fp d, d ∈ ds -> p d = true -> E (blk X ([x] ++ caps) scope C s H fp) me ([some d] ++ capD js ρ) elt (f d))
 (hz : ds.length <= sizeLine) (hm : m = true -> me = true ∨ ∀ d ∈ ds, (f d).flat = true := by intro h; first | exact .inl h | cases h) (hc : X.calm = true := by rfl)
 (B : BlkScope X scope [x] caps js := by exact ⟨rfl, by decide, by decide, by decide, by decide, by decide, by repeat (first | exact trivial | refine ⟨⟨rfl, by first | exact .inl rfl | exact .inr rfl⟩, ?_⟩), by decide⟩)
 (hs : ∀ x, foldedSetIterable iter X.env x = pure x := by intro _; rfl) : EC X m ρ (.ListComp elt [⟨.Name x px, iter, ifs, 0⟩] scope pos) (.lst ((ds.filter p).map f)) := by
 have hg : ∀ C s H fp, PG (blk X ([x] ++ caps) scope C s H fp) (.Name x px) (gName 0) := fun C s H fp => pg_name (i := 0) B.nd rfl (.inl (lookup_relabel_local (B.own x (by simp)))) (.inr (lookup_relabel_local (B.own x (by simp))))
 have ht' : ∀ C s H fp i, PTs (blk X ([x] ++ caps) scope C s H fp) ifs (tcD X.K js ρ ds p i) := fun C s H fp i pins s' σ H' Q I h => by
  obtain ⟨d, hd, h⟩ := h
  exact ht C s H fp d (List.mem_of_getElem? hd) pins s' σ H' Q I h
 have he' : ∀ C s H fp i, PE (blk X ([x] ++ caps) scope C s H fp) elt (teD X.K js ρ ds p f me i) := fun C s H fp i pins s' σ H' Q I h => by
  obtain ⟨d, hd, hp, h⟩ := h
  exact he C s H fp d (List.mem_of_getElem? hd) hp pins s' σ H' Q I h
 refine ⟨PE.mono (pe_comp (own := [x]) (caps := caps) hc B hi hg ht' he' hs) fun σ H Q h => comp_reads p f hz hm σ H Q h, fun y k spos py hN hk hy hsw hf => ?_⟩
 exact PS.mono' (ps_comp (own := [x]) (caps := caps) hN hk hy hc B hi hg ht' he' hsw hf hs) fun Q σ H h => comp_reads p f hz hm σ H _ h
theorem e_comp {elt iter : Expr} {x : Str} {px : Pos} {ifs : List Expr} {scope : Scope} {me : Bool} (caps : List Str) (js : List Nat) (p : D -> Bool) (f : D -> D) (hi : IT X (.Name x px) m1 ρ iter ds)
 (ht : ∀ C s H fp d, d ∈ ds -> TS' (blk X ([x] ++ caps) scope C s H fp) ([some d] ++ capD js ρ) ifs (p d)) (he : ∀ C s H fp d, d ∈ ds -> p d = true -> E (blk X ([x] ++ caps) scope C s H fp) me ([some d] ++ capD js ρ) elt (f d))
 (hz : ds.length <= sizeLine) (hm : m = true -> me = true ∨ ∀ d ∈ ds, (f d).flat = true := by intro h; first | exact .inl h | cases h) (hc : X.calm = true := by rfl)
 (B : BlkScope X scope [x] caps js := by exact ⟨rfl, by decide, by decide, by decide, by decide, by decide, by repeat (first | exact trivial | refine ⟨⟨rfl, by first | exact .inl rfl | exact .inr rfl⟩, ?_⟩), by decide⟩)
 (hs : ∀ x, foldedSetIterable iter X.env x = pure x := by intro _; rfl) : E X m ρ (.ListComp elt [⟨.Name x px, iter, ifs, 0⟩] scope pos) (.lst ((ds.filter p).map f)) := (ec_comp caps js p f hi ht he hz hm hc B hs).val
theorem e_map {elt iter : Expr} {x : Str} {px : Pos} {scope : Scope} {me : Bool} (caps : List Str) (js : List Nat) (f : D -> D) (hi : IT X (.Name x px) m1 ρ iter ds)
 (he : ∀ C s H fp d, d ∈ ds -> E (blk X ([x] ++ caps) scope C s H fp) me ([some d] ++ capD js ρ) elt (f d)) (hz : ds.length <= sizeLine) (hm : m = true -> me = true ∨ ∀ d ∈ ds, (f d).flat = true := by intro h; first | exact .inl h | cases h) (hc : X.calm = true := by rfl)
 (B : BlkScope X scope [x] caps js := by exact ⟨rfl, by decide, by decide, by decide, by decide, by decide, by repeat (first | exact trivial | refine ⟨⟨rfl, by first | exact .inl rfl | exact .inr rfl⟩, ?_⟩), by decide⟩)
 (hs : ∀ x, foldedSetIterable iter X.env x = pure x := by intro _; rfl) : E X m ρ (.ListComp elt [⟨.Name x px, iter, [], 0⟩] scope pos) (.lst (ds.map f)) := by
 have h := e_comp (m := m) (pos := pos) caps js (fun _ => true) f hi (fun C s H fp d hd => ts_nil) (fun C s H fp d hd _ => he C s H fp d hd) hz hm hc B hs
 rwa [List.filter_eq_self.mpr fun _ _ => rfl] at h
end
mutual
def Tr (K : PySem.W.Frag) (H : Hp) : D -> V -> List Addr -> Prop
 | .lst ds, v, as => ∃ a xs bs, v = .ref a ∧ as = a :: bs ∧ H a = some (.lst xs) ∧ Trs K H ds xs bs
 | .tup ds, v, as => ∃ a xs, v = .ref a ∧ H a = some (.tup xs) ∧ Trs K H ds xs as
 | .non, v, as => as = [] ∧ v = .non
 | .bl b, v, as => as = [] ∧ v = .bl b
 | .int i, v, as => as = [] ∧ v = .int i
 | .str x, v, as => as = [] ∧ v = .str x
 | .dct _, _, _ => False
 | .ktup ks, v, as => as = [] ∧ ∃ a, v = .ref a ∧ KTup K a ks
def Trs (K : PySem.W.Frag) (H : Hp) : List D -> List V -> List Addr -> Prop
 | [], xs, as => xs = [] ∧ as = []
 | d :: ds, xs, as => ∃ v r bs cs, xs = v :: r ∧ as = bs ++ cs ∧ Tr K H d v bs ∧ Trs K H ds r cs
end
section
variable {K : PySem.W.Frag} {H H' : Hp} {Z : Zone}
theorem tr_lst {ds : List D} {v : V} {as : List Addr} : Tr K H (.lst ds) v as ↔ ∃ a xs bs, v = .ref a ∧ as = a :: bs ∧ H a = some (.lst xs) ∧ Trs K H ds xs bs := by unfold Tr; exact Iff.rfl
theorem tr_tup {ds : List D} {v : V} {as : List Addr} : Tr K H (.tup ds) v as ↔ ∃ a xs, v = .ref a ∧ H a = some (.tup xs) ∧ Trs K H ds xs as := by unfold Tr; exact Iff.rfl
theorem trs_nil {xs : List V} {as : List Addr} : Trs K H [] xs as ↔ xs = [] ∧ as = [] := by unfold Trs; exact Iff.rfl
theorem trs_cons {d : D} {ds : List D} {xs : List V} {as : List Addr} : Trs K H (d :: ds) xs as ↔ ∃ v r bs cs, xs = v :: r ∧ as = bs ++ cs ∧ Tr K H d v bs ∧ Trs K H ds r cs := by
 constructor
 · intro h; unfold Trs at h; exact h
 · intro h; unfold Trs; exact h
mutual
theorem Tr.carry (t : ∀ a (xs : List V), H a = some (.tup xs) -> H' a = some (.tup xs)) : ∀ {d : D} {v : V} {as : List Addr}, (∀ a (xs : List V), a ∈ as -> H a = some (.lst xs) -> H' a = some (.lst xs)) -> Tr K H d v as -> Tr K H' d v as
 | .non, _, _, _, h => by unfold Tr at h ⊢; exact h
 | .bl _, _, _, _, h => by unfold Tr at h ⊢; exact h
 | .int _, _, _, _, h => by unfold Tr at h ⊢; exact h
 | .str _, _, _, _, h => by unfold Tr at h ⊢; exact h
 | .dct _, _, _, _, h => by unfold Tr at h; exact h.elim
 | .ktup _, _, _, _, h => by unfold Tr at h ⊢; exact h
 | .lst ds, _, _, k, h => by
  obtain ⟨a, xs, bs, e, rfl, ha, i⟩ := tr_lst.mp h
  exact tr_lst.mpr ⟨a, xs, bs, e, rfl, k a xs List.mem_cons_self ha, Trs.carry t (fun b ys hb => k b ys (List.mem_cons_of_mem _ hb)) i⟩
 | .tup ds, _, _, k, h => by
  obtain ⟨a, xs, e, ha, i⟩ := tr_tup.mp h
  exact tr_tup.mpr ⟨a, xs, e, t a xs ha, Trs.carry t k i⟩
theorem Trs.carry (t : ∀ a (xs : List V), H a = some (.tup xs) -> H' a = some (.tup xs)) : ∀ {ds : List D} {vs : List V} {as : List Addr}, (∀ a (xs : List V), a ∈ as -> H a = some (.lst xs) -> H' a = some (.lst xs)) -> Trs K H ds vs as -> Trs K H' ds vs as
 | [], _, _, _, h => trs_nil.mpr (trs_nil.mp h)
 | d :: ds, _, _, k, h => by
  obtain ⟨v, r, bs, cs, e, rfl, i, j⟩ := trs_cons.mp h
  exact trs_cons.mpr ⟨v, r, bs, cs, e, rfl, Tr.carry t (fun b ys hb => k b ys (List.mem_append_left _ hb)) i, Trs.carry t (fun b ys hb => k b ys (List.mem_append_right _ hb)) j⟩
end
mutual
theorem Tr.inn : ∀ {d : D} {v : V} {as : List Addr}, (∀ a ∈ as, Z.S a) -> Tr K H d v as -> In K H Z d v
 | .non, _, _, _, h => by unfold Tr at h; exact in_non.mpr h.2
 | .bl _, _, _, _, h => by unfold Tr at h; exact in_bl.mpr h.2
 | .int _, _, _, _, h => by unfold Tr at h; exact in_int.mpr h.2
 | .str _, _, _, _, h => by unfold Tr at h; exact in_str.mpr h.2
 | .dct _, _, _, _, h => by unfold Tr at h; exact h.elim
 | .ktup _, _, _, _, h => by unfold Tr at h; exact in_ktup.mpr h.2
 | .lst ds, _, _, k, h => by
  obtain ⟨a, xs, bs, e, rfl, ha, i⟩ := tr_lst.mp h
  exact in_lst.mpr ⟨a, xs, e, .inl ⟨ha, k a List.mem_cons_self⟩, Trs.inn (fun b hb => k b (List.mem_cons_of_mem _ hb)) i⟩
 | .tup ds, _, _, k, h => by
  obtain ⟨a, xs, e, ha, i⟩ := tr_tup.mp h
  exact in_tup.mpr ⟨a, xs, e, ha, Trs.inn k i⟩
theorem Trs.inn : ∀ {ds : List D} {vs : List V} {as : List Addr}, (∀ a ∈ as, Z.S a) -> Trs K H ds vs as -> Ins K H Z ds vs
 | [], _, _, _, h => ins_nil.mpr (trs_nil.mp h).1
 | d :: ds, _, _, k, h => by
  obtain ⟨v, r, bs, cs, e, rfl, i, j⟩ := trs_cons.mp h
  exact ins_cons.mpr ⟨v, r, e, Tr.inn (fun b hb => k b (List.mem_append_left _ hb)) i, Trs.inn (fun b hb => k b (List.mem_append_right _ hb)) j⟩
end
mutual
theorem Tr.of_flat : ∀ {d : D} {v : V}, d.flat = true -> In K H Z d v -> Tr K H d v []
 | .non, _, _, h => by unfold Tr; exact ⟨rfl, in_non.mp h⟩
 | .bl _, _, _, h => by unfold Tr; exact ⟨rfl, in_bl.mp h⟩
 | .int _, _, _, h => by unfold Tr; exact ⟨rfl, in_int.mp h⟩
 | .str _, _, _, h => by unfold Tr; exact ⟨rfl, in_str.mp h⟩
 | .dct _, _, f, _ => by unfold D.flat at f; cases f
 | .ktup _, _, _, h => by unfold Tr; exact ⟨rfl, in_ktup.mp h⟩
 | .lst ds, _, f, _ => by unfold D.flat at f; cases f
 | .tup ds, _, f, h => by
  unfold D.flat at f
  obtain ⟨a, xs, e, l, i⟩ := in_tup.mp h
  exact tr_tup.mpr ⟨a, xs, e, l, Trs.of_flat f i⟩
theorem Trs.of_flat : ∀ {ds : List D} {vs : List V}, flats ds = true -> Ins K H Z ds vs -> Trs K H ds vs []
 | [], _, _, h => trs_nil.mpr ⟨ins_nil.mp h, rfl⟩
 | d :: ds, _, f, h => by
  unfold flats at f
  rw [Bool.and_eq_true] at f
  obtain ⟨v, r, e, i, j⟩ := ins_cons.mp h
  exact trs_cons.mpr ⟨v, r, [], [], e, rfl, Tr.of_flat f.1 i, Trs.of_flat f.2 j⟩
end
mutual
theorem Tr.lsts : ∀ {d : D} {v : V} {as : List Addr}, Tr K H d v as -> ∀ a ∈ as, ∃ xs, H a = some (.lst xs)
 | .non, _, _, h, a, ha => by unfold Tr at h; rw [h.1] at ha; cases ha
 | .bl _, _, _, h, a, ha => by unfold Tr at h; rw [h.1] at ha; cases ha
 | .int _, _, _, h, a, ha => by unfold Tr at h; rw [h.1] at ha; cases ha
 | .str _, _, _, h, a, ha => by unfold Tr at h; rw [h.1] at ha; cases ha
 | .dct _, _, _, h, a, ha => by unfold Tr at h; exact h.elim
 | .ktup _, _, _, h, a, ha => by unfold Tr at h; rw [h.1] at ha; cases ha
 | .lst ds, _, _, h, a, ha => by
  obtain ⟨b, xs, bs, e, rfl, hb, i⟩ := tr_lst.mp h
  rcases List.mem_cons.mp ha with rfl | ha
  · exact ⟨xs, hb⟩
  · exact Trs.lsts i a ha
 | .tup ds, _, _, h, a, ha => by
  obtain ⟨b, xs, e, hb, i⟩ := tr_tup.mp h
  exact Trs.lsts i a ha
theorem Trs.lsts : ∀ {ds : List D} {vs : List V} {as : List Addr}, Trs K H ds vs as -> ∀ a ∈ as, ∃ xs, H a = some (.lst xs)
 | [], _, _, h, a, ha => by rw [(trs_nil.mp h).2] at ha; cases ha
 | d :: ds, _, _, h, a, ha => by
  obtain ⟨v, r, bs, cs, e, rfl, i, j⟩ := trs_cons.mp h
  rcases List.mem_append.mp ha with ha | ha
  · exact Tr.lsts i a ha
  · exact Trs.lsts j a ha
end
end
inductive Slot where
 | pl (fr : Bool) (d : D)
 | ow (fr : Bool) (ds : List D)
 | ow2 (fr : Bool) (dss : List (List D))
 | oa (d : D)
 | sh (p : D -> Prop)
 | owl (l : Addr) (fr : Bool) (ds : List D)
 | od (o : DO)
 | rf (v : V)
 | tr (d : D)
 | trl (u : V) (d : D)
abbrev Rho := List (Option Slot)
structure Fn where
 m : Bool
 Z : Zone
 H : Hp
def zn (F : Fn) (O : Addr -> Prop) (fr : Bool) : Zone := if fr then ⟨true, fun a => F.H a = none ∧ ¬ O a⟩ else ⟨F.Z.m, fun a => F.Z.S a ∧ ¬ O a⟩
def RowsAt (K : PySem.W.Frag) (H : Hp) (Z : Zone) (dss : List (List D)) (as : List Addr) : Prop := Paired (fun ds a => ∃ xs, H a = some (.lst xs) ∧ Ins K H Z ds xs) dss as
def SlotIn (K : PySem.W.Frag) (F : Fn) (H : Hp) (O : Addr -> Prop) (mine : List Addr) (v : V) : Slot -> Prop
 | .pl fr d => In K H (zn F O fr) d v
 | .ow fr ds => ∃ l xs, mine = [l] ∧ v = .ref l ∧ H l = some (.lst xs) ∧ Ins K H (zn F O fr) ds xs
 | .ow2 fr dss => ∃ l as, mine = l :: as ∧ v = .ref l ∧ H l = some (.lst (as.map V.ref)) ∧ RowsAt K H (zn F O fr) dss as
 | .oa d => In K H ⟨true, fun a => a ∈ mine⟩ d v
 | .sh p => ∃ d, p d ∧ In K H ⟨true, fun a => a ∈ mine⟩ d v
 | .owl l fr ds => ∃ xs, mine = [l] ∧ v = .ref l ∧ H l = some (.lst xs) ∧ Ins K H (zn F O fr) ds xs
 | .od o => ∃ l, mine = [l] ∧ v = .ref l ∧ H l = some o.ho
 | .rf u => v = u
 | .tr d => Tr K H d v mine
 | .trl u d => v = u ∧ Tr K H d v mine
abbrev Owned (A : Nat -> List Addr) (a : Addr) : Prop := ∃ j, a ∈ A j
structure StIn (K : PySem.W.Frag) (F : Fn) (H : Hp) (vs : St) (ρ : Rho) (A : Nat -> List Addr) : Prop where
 same : Same F.H H
 opn : F.Z.Open F.H
 nd : ∀ i, (A i).Nodup
 one : ∀ i j a, a ∈ A i -> a ∈ A j -> i = j
 new : ∀ i a, a ∈ A i -> F.H a = none
 lst : ∀ i a, a ∈ A i -> ∃ xs : MO, H a = some xs.ho
 at' : ∀ (i : Nat) sl, ρ[i]? = some (some sl) -> ∃ v, vs[i]? = some (some v) ∧ SlotIn K F H (Owned A) (A i) v sl
section
variable {K : PySem.W.Frag} {F : Fn} {H H' : Hp} {vs : St} {ρ : Rho} {A : Nat -> List Addr} {O O' : Addr -> Prop} {fr : Bool}
theorem RowsAt.carry {Z Z' : Zone} {dss : List (List D)} {as : List Addr} (h : RowsAt K H Z dss as) (k : ∀ a xs, a ∈ as -> H a = some (.lst xs) -> H' a = some (.lst xs)) (c : Carry K H Z H' Z') : RowsAt K H' Z' dss as := by
 induction h with
 | nil => exact .nil
 | cons r t ih =>
  obtain ⟨xs, e, i⟩ := r
  exact .cons ⟨xs, k _ xs (by simp) e, i.carry c⟩ (ih fun a xs ha e => k a xs (by simp [ha]) e)
theorem carry_zn (s : Same H H') (hO : ∀ a (xs : MO), H a = some xs.ho -> ¬ O a -> ¬ O' a) : Carry K H (zn F O fr) H' (zn F O' fr) := by
 unfold zn
 cases fr
 · exact .of s (fun a xs e z => ⟨z.1, hO a xs e z.2⟩) fun m => m
 · exact .of s (fun a xs e z => ⟨z.1, hO a xs e z.2⟩) fun m => m
theorem SlotIn.carry {mine : List Addr} {v : V} {sl : Slot} (h : SlotIn K F H O mine v sl) (k : ∀ a (xs : MO), a ∈ mine -> H a = some xs.ho -> H' a = some xs.ho) (c : ∀ fr, Carry K H (zn F O fr) H' (zn F O' fr)) : SlotIn K F H' O' mine v sl := by
 cases sl with
 | pl fr d => exact In.carry (c fr) h
 | ow fr ds =>
  obtain ⟨l, xs, rfl, e, hl, i⟩ := h
  exact ⟨l, xs, rfl, e, k l (.l xs) (by simp) hl, i.carry (c fr)⟩
 | ow2 fr dss =>
  obtain ⟨l, as, rfl, e, hl, i⟩ := h
  exact ⟨l, as, rfl, e, k l (.l _) (by simp) hl, i.carry (fun a xs ha q => k a (.l xs) (by simp [ha]) q) (c fr)⟩
 | oa d => exact In.carry ⟨fun a xs e z => ⟨k a xs z e, z⟩, fun m => Bool.noConfusion (show true = false from m), (c true).t⟩ h
 | sh p =>
  obtain ⟨d, hp, i⟩ := h
  exact ⟨d, hp, i.carry ⟨fun a xs e z => ⟨k a xs z e, z⟩, fun m => Bool.noConfusion (show true = false from m), (c true).t⟩⟩
 | owl l fr ds =>
  obtain ⟨xs, rfl, e, hl, i⟩ := h
  exact ⟨xs, rfl, e, k l (.l xs) (by simp) hl, i.carry (c fr)⟩
 | od o =>
  obtain ⟨l, rfl, e, hl⟩ := h
  exact ⟨l, rfl, e, k l (.d o) (by simp) hl⟩
 | rf u => exact h
 | tr d => exact Tr.carry (c true).t (fun a xs ha e => k a (.l xs) ha e) h
 | trl u d => exact ⟨h.1, Tr.carry (c true).t (fun a xs ha e => k a (.l xs) ha e) h.2⟩
theorem StIn.grow (S : StIn K F H vs ρ A) (s : Same H H') : StIn K F H' vs ρ A :=
 ⟨S.same.trans s, S.opn, S.nd, S.one, S.new, fun i a ha => let ⟨xs, e⟩ := S.lst i a ha; ⟨xs, s.at e xs.nt⟩, fun i sl e => let ⟨v, a, b⟩ := S.at' i sl e; ⟨v, a, b.carry (fun a xs _ q => s.at q xs.nt) fun fr => carry_zn s fun a xs _ n => n⟩⟩
theorem zn_open (S : StIn K F H vs ρ A) (fr : Bool) : (zn F (Owned A) fr).Open H := ⟨fun a h => by
 have n : ¬ Owned A a := fun ⟨j, hj⟩ => by obtain ⟨xs, e⟩ := S.lst j a hj; rw [h] at e; cases e
 unfold zn
 cases fr
 · exact ⟨S.opn.op a (S.same.free h), n⟩
 · exact ⟨S.same.free h, n⟩, S.same.tabs S.opn.tb⟩
def vz (F : Fn) (O : Addr -> Prop) (ow fr : Bool) : Zone := if ow then (if fr then nw F.H else F.Z) else zn F O fr
theorem vz_open (S : StIn K F H vs ρ A) (ow fr : Bool) : (vz F (Owned A) ow fr).Open H := by
 unfold vz
 cases ow
 · exact zn_open S fr
 · cases fr
   · exact S.opn.same S.same
   · exact nw_open S.opn.tb S.same
def viewS (ow fr : Bool) : Option Slot -> Option D
 | some (.pl f d) => if fr && !f then none else some d
 | some (.ow f ds) => if ow && (!fr || f) then some (.lst ds) else none
 | some (.ow2 f dss) => if ow && (!fr || f) then some (.lst (dss.map .lst)) else none
 | some (.oa d) => if ow then some d else none
 | some (.sh _) => none
 | some (.owl _ _ _) => none
 | some (.od o) => if ow then some (.dct o) else none
 | some (.rf _) => none
 | some (.tr d) => if ow then some d else none
 | some (.trl _ d) => if ow then some d else none
 | none => none
def view (ow fr : Bool) (ρ : Rho) : List (Option D) := ρ.map (viewS ow fr)
theorem zn_vz (op : F.Z.Open F.H) {f ow : Bool} (hf : fr = true -> f = true) : Carry K H (zn F O f) H (vz F O ow fr) := by
 refine .of (Same.refl H) (fun a xs e z => ?_) fun m => ?_
 · unfold vz zn at *
   cases ow <;> cases fr <;> cases f <;> simp at hf z ⊢ <;> first
    | exact z
    | exact z.1
    | exact ⟨op a z.1, z.2⟩
    | exact op a z.1
 · unfold vz zn at *
   cases ow <;> cases fr <;> cases f <;> simp at hf m ⊢ <;> exact m
theorem ins_rows {Z Z' : Zone} {dss : List (List D)} {as : List Addr} (h : RowsAt K H Z dss as) (c : Carry K H Z H Z') (n : ∀ a ∈ as, Z'.S a) : Ins K H Z' (dss.map D.lst) (as.map V.ref) := by
 induction h with
 | nil => exact ins_nil.mpr rfl
 | cons r t ih =>
  obtain ⟨xs, e, i⟩ := r
  exact ins_cons.mpr ⟨_, _, rfl, in_lst.mpr ⟨_, xs, rfl, .inl ⟨e, n _ (by simp)⟩, i.carry c⟩, ih fun a ha => n a (by simp [ha])⟩
theorem slot_view (op : F.Z.Open F.H) {mine : List Addr} {v : V} {sl : Slot} {ow : Bool} {d : D} (new : ∀ a ∈ mine, F.H a = none) (h : SlotIn K F H O mine v sl) (e : viewS ow fr (some sl) = some d) : In K H (vz F O ow fr) d v := by
 have inS : ow = true -> ∀ a ∈ mine, (vz F O ow fr).S a := fun ho a ha => by
  subst ho
  unfold vz
  cases fr
  · exact op a (new a ha)
  · exact new a ha
 cases sl with
 | pl f d' =>
  change (if (fr && !f) = true then none else some d') = some d at e
  by_cases q : (fr && !f) = true
  · rw [if_pos q] at e; cases e
  · rw [if_neg q] at e
    cases e
    refine In.carry (zn_vz op fun hf => ?_) h
    subst hf
    simpa using q
 | ow f ds =>
  change (if (ow && (!fr || f)) = true then some (D.lst ds) else none) = some d at e
  by_cases q : (ow && (!fr || f)) = true
  · rw [if_pos q] at e
    cases e
    obtain ⟨l, xs, rfl, rfl, hl, i⟩ := h
    simp at q
    refine in_lst.mpr ⟨l, xs, rfl, .inl ⟨hl, inS q.1 l (by simp)⟩, i.carry (zn_vz op fun hf => ?_)⟩
    subst hf
    simpa using q.2
  · rw [if_neg q] at e; cases e
 | ow2 f dss =>
  change (if (ow && (!fr || f)) = true then some (D.lst (dss.map D.lst)) else none) = some d at e
  by_cases q : (ow && (!fr || f)) = true
  · rw [if_pos q] at e
    cases e
    obtain ⟨l, as, rfl, rfl, hl, i⟩ := h
    simp at q
    refine in_lst.mpr ⟨l, _, rfl, .inl ⟨hl, inS q.1 l (by simp)⟩, ins_rows i (zn_vz op fun hf => ?_) fun a ha => inS q.1 a (by simp [ha])⟩
    subst hf
    simpa using q.2
  · rw [if_neg q] at e; cases e
 | oa d' =>
  change (if ow = true then some d' else none) = some d at e
  by_cases q : ow = true
  · rw [if_pos q] at e
    cases e
    exact In.carry ⟨fun a xs e z => ⟨e, inS q a z⟩, fun m => Bool.noConfusion (show true = false from m), fun _ _ e => e⟩ h
  · rw [if_neg q] at e; cases e
 | sh p => cases e
 | owl l f ds => cases e
 | rf u => cases e
 | tr d' =>
  change (if ow = true then some d' else none) = some d at e
  by_cases q : ow = true
  · rw [if_pos q] at e
    cases e
    exact Tr.inn (inS q) h
  · rw [if_neg q] at e; cases e
 | trl u d' =>
  change (if ow = true then some d' else none) = some d at e
  by_cases q : ow = true
  · rw [if_pos q] at e
    cases e
    exact Tr.inn (inS q) h.2
  · rw [if_neg q] at e; cases e
 | od o =>
  change (if ow = true then some (D.dct o) else none) = some d at e
  by_cases q : ow = true
  · rw [if_pos q] at e
    cases e
    obtain ⟨l, rfl, rfl, hl⟩ := h
    exact in_dct.mpr ⟨l, rfl, hl, inS q l (by simp)⟩
  · rw [if_neg q] at e; cases e
theorem StIn.env {σ hv : St} {hρ : Rho} (S : StIn K F H (σ ++ hv) (ρ ++ hρ) A) (hl : σ.length = ρ.length) (ow fr : Bool) : EnvIn K H (vz F (Owned A) ow fr) σ (view ow fr ρ) := fun i d e => by
 unfold view at e
 rw [List.getElem?_map] at e
 cases q : ρ[i]? with
 | none => rw [q] at e; cases e
 | some o =>
  rw [q] at e
  cases o with
  | none => simp [viewS] at e
  | some sl =>
   have hi : i < ρ.length := (List.getElem?_eq_some_iff.mp q).1
   obtain ⟨v, a, b⟩ := S.at' i sl (by rw [List.getElem?_append_left hi]; exact q)
   rw [List.getElem?_append_left (by omega)] at a
   exact ⟨v, a, slot_view S.opn (S.new i) b (by simpa using e)⟩
def putA (A : Nat -> List Addr) (i : Nat) (l : List Addr) : Nat -> List Addr := fun j => if j = i then l else A j
theorem putA_same {i : Nat} {l : List Addr} : putA A i l i = l := by unfold putA; rw [if_pos rfl]
theorem putA_ne {i j : Nat} {l : List Addr} (h : j ≠ i) : putA A i l j = A j := by unfold putA; rw [if_neg h]
theorem carry_re {i : Nat} {l : List Addr} {H2 : Hp} (S : StIn K F H vs ρ A) (k : ∀ b o, H b = some o -> isT o = false -> b ∉ A i -> H2 b = some o) (hl : ∀ a ∈ l, a ∈ A i ∨ H a = none) (fr : Bool) : Carry K H (zn F (Owned A) fr) H2 (zn F (Owned (putA A i l)) fr) := by
 have notI : ∀ {a : Addr} {o : HO}, H a = some o -> (∀ xs : MO, o ≠ xs.ho) -> a ∉ A i := fun {a o} e n z => by
  obtain ⟨xs, e'⟩ := S.lst i a z
  rw [e] at e'
  exact n xs (Option.some.inj e')
 refine ⟨fun a xs e z => ?_, fun m => ⟨?_, fun a xs e => ?_⟩, fun a xs e => ?_⟩
 · have key : ¬ Owned A a -> H2 a = some xs.ho ∧ ¬ Owned (putA A i l) a := fun n => ⟨k a _ e xs.nt fun z => n ⟨i, z⟩, fun ⟨k', hk⟩ => by
    by_cases q2 : k' = i
    · rw [q2, putA_same] at hk
      rcases hl a hk with z | z
      · exact n ⟨i, z⟩
      · rw [e] at z; cases z
    · rw [putA_ne q2] at hk
      exact n ⟨k', hk⟩⟩
   unfold zn at z ⊢
   cases fr
   · exact ⟨(key z.2).1, z.1, (key z.2).2⟩
   · exact ⟨(key z.2).1, z.1, (key z.2).2⟩
 · unfold zn at m ⊢
   cases fr
   · exact m
   · exact m
 · rcases e with ⟨o, e⟩ | e
   · exact .inl ⟨o, k a _ e rfl (notI e fun xs z => xs.nfrz z.symm)⟩
   · exact .inr e
 · exact k a _ e rfl (notI e fun xs z => xs.ntup z.symm)
theorem StIn.re {i : Nat} {v : V} {sl : Slot} {l : List Addr} {H2 : Hp} (S : StIn K F H vs ρ A) (hi : i < ρ.length) (hiv : i < vs.length) (sm : Same F.H H2) (k : ∀ b o, H b = some o -> isT o = false -> b ∉ A i -> H2 b = some o) (nd : l.Nodup)
 (hl : ∀ a ∈ l, (a ∈ A i ∨ H a = none) ∧ ∃ xs : MO, H2 a = some xs.ho) (h : SlotIn K F H2 (Owned (putA A i l)) l v sl) : StIn K F H2 (vs.set i (some v)) (ρ.set i (some sl)) (putA A i l) := by
 have disj : ∀ j a, j ≠ i -> a ∈ A j -> a ∉ l := fun j a hj ha hal => by
  rcases (hl a hal).1 with z | z
  · exact hj (S.one j i a ha z)
  · obtain ⟨xs, e⟩ := S.lst j a ha; rw [z] at e; cases e
 refine ⟨sm, S.opn, fun j => ?_, fun j k' a hj hk => ?_, fun j a ha => ?_, fun j a ha => ?_, fun j sl' e => ?_⟩
 · by_cases q : j = i
   · rw [q, putA_same]; exact nd
   · rw [putA_ne q]; exact S.nd j
 · by_cases q : j = i
   · by_cases q2 : k' = i
     · rw [q, q2]
     · rw [q, putA_same] at hj; rw [putA_ne q2] at hk
       exact absurd hj (disj k' a q2 hk)
   · rw [putA_ne q] at hj
     by_cases q2 : k' = i
     · rw [q2, putA_same] at hk
       exact absurd hk (disj j a q hj)
     · rw [putA_ne q2] at hk
       exact S.one j k' a hj hk
 · by_cases q : j = i
   · rw [q, putA_same] at ha
     rcases (hl a ha).1 with z | z
     · exact S.new i a z
     · exact S.same.free z
   · rw [putA_ne q] at ha; exact S.new j a ha
 · by_cases q : j = i
   · rw [q, putA_same] at ha; exact (hl a ha).2
   · rw [putA_ne q] at ha
     obtain ⟨xs, e⟩ := S.lst j a ha
     exact ⟨xs, k a _ e xs.nt fun z => q (S.one j i a ha z)⟩
 · by_cases q : j = i
   · subst q
     rw [List.getElem?_set_self hi] at e
     cases e
     exact ⟨v, by rw [List.getElem?_set_self hiv], by rw [putA_same]; exact h⟩
   · rw [List.getElem?_set_ne (Ne.symm q)] at e
     obtain ⟨w, a, b⟩ := S.at' j sl' e
     refine ⟨w, by rw [List.getElem?_set_ne (Ne.symm q)]; exact a, ?_⟩
     rw [putA_ne q]
     exact b.carry (fun a xs ha e => k a _ e xs.nt fun z => q (S.one j i a ha z)) fun fr => carry_re S k (fun a ha => (hl a ha).1) fr
theorem StIn.put {i : Nat} {v : V} {sl : Slot} {l : List Addr} {H2 : Hp} (S : StIn K F H vs ρ A) (hi : i < ρ.length) (hiv : i < vs.length) (s : Same H H2) (nd : l.Nodup) (hl : ∀ a ∈ l, H a = none ∧ ∃ xs : MO, H2 a = some xs.ho)
 (h : SlotIn K F H2 (Owned (putA A i l)) l v sl) : StIn K F H2 (vs.set i (some v)) (ρ.set i (some sl)) (putA A i l) := S.re hi hiv (S.same.trans s) (fun b o e n _ => s.get b o e n) nd (fun a ha => ⟨.inr (hl a ha).1, (hl a ha).2⟩) h
theorem zn_drop {i : Nat} : Carry K H (zn F (Owned A) fr) H (zn F (Owned (putA A i [])) fr) := by
 have n : ∀ {P : Prop} {a : Addr}, P ∧ ¬ Owned A a -> P ∧ ¬ Owned (putA A i []) a := fun {P a} z => ⟨z.1, fun ⟨k, hk⟩ => by
  by_cases q : k = i
  · rw [q, putA_same] at hk; simp at hk
  · rw [putA_ne q] at hk; exact z.2 ⟨k, hk⟩⟩
 refine .of (Same.refl _) (fun a xs e z => ?_) fun m => ?_
 · unfold zn at z ⊢
   cases fr
   · exact n z
   · exact n z
 · unfold zn at m ⊢
   cases fr
   · exact m
   · exact m
end
structure EndD where
 nx : Rho -> Prop
 rt : D -> Prop
 bk : Rho -> Prop := fun _ => False
 ct : Rho -> Prop := fun _ => False
 rtT : D -> Prop := fun _ => False
 rtM : Rho -> D -> Prop := fun _ _ => False
def StOk (K : PySem.W.Frag) (F : Fn) (hv : St) (hρ : Rho) (N : Rho -> Prop) (σ : St) (H : Hp) : Prop := ∃ ρ A, σ.length = ρ.length ∧ StIn K F H (σ ++ hv) (ρ ++ hρ) A ∧ N ρ
structure Fits (K : PySem.W.Frag) (F : Fn) (hv : St) (hρ : Rho) (Q : EndD) (Q' : Ends) : Prop where
 hl : hv.length = hρ.length
 nx : ∀ σ H, StOk K F hv hρ Q.nx σ H -> Q'.nx σ H
 bk : ∀ σ H, StOk K F hv hρ Q.bk σ H -> Q'.bk σ H
 ct : ∀ σ H, StOk K F hv hρ Q.ct σ H -> Q'.ct σ H
 rt : ∀ v d H, Same F.H H -> In K H (out F.m F.Z F.H) d v -> Q.rt d -> Q'.rt v H
 rtT : ∀ v d H as, Same F.H H -> Tr K H d v as -> as.Nodup -> (∀ a ∈ as, F.H a = none) -> Q.rtT d -> Q'.rt v H
 rtM : ∀ σ H ρ A v d as, σ.length = ρ.length -> StIn K F H (σ ++ hv) (ρ ++ hρ) A -> Tr K H d v as -> as.Nodup -> (∀ a ∈ as, F.H a = none) -> (∀ i a, a ∈ A i -> a ∉ as) -> Q.rtM ρ d -> Q'.rt v H
def tS (K : PySem.W.Frag) (F : Fn) (ρ : Rho) (Q : EndD) : TS := fun Q' σ H => ∃ hv hρ A, σ.length = ρ.length ∧ StIn K F H (σ ++ hv) (ρ ++ hρ) A ∧ Fits K F hv hρ Q Q'
def SD (X : Cx) (F : Fn) (st : List Stmt) (ρ : Rho) (Q : EndD) : Prop := PSs X st (tS X.K F ρ Q)
def SD1 (X : Cx) (F : Fn) (st : Stmt) (ρ : Rho) (Q : EndD) : Prop := PS X st (tS X.K F ρ Q)
theorem PS.mono {X : Cx} {st : Stmt} {t t' : TS} (h : PS X st t) (k : ∀ Q σ H, t' Q σ H -> t Q σ H) : PS X st t' := fun pins s σ H Q I q => h pins s σ H Q I (k Q σ H q)
theorem PSs.mono {X : Cx} {st : List Stmt} {t t' : TS} (h : PSs X st t) (k : ∀ Q σ H, t' Q σ H -> t Q σ H) : PSs X st t' := fun pins s σ H Q I q => h pins s σ H Q I (k Q σ H q)
section
variable {X : Cx} {F : Fn} {ρ : Rho} {Q : EndD} {st : Stmt} {rest body orelse : List Stmt} {e a c : Expr} {d : D} {pos p : Pos} {i : Nat} {x : Str} {fr m1 : Bool}
theorem Fits.step {K : PySem.W.Frag} {hv : St} {hρ : Rho} {Q' : Ends} {N : Rho -> Prop} {n : St -> Hp -> Prop} (f : Fits K F hv hρ Q Q') (h : ∀ σ H, StOk K F hv hρ N σ H -> n σ H) : Fits K F hv hρ { Q with nx := N } { Q' with nx := n } := ⟨f.hl, h, f.bk, f.ct, f.rt, f.rtT, f.rtM⟩
theorem sd_nil (h : Q.nx ρ) : SD X F [] ρ Q := PSs.mono pss_nil fun Q' σ H z0 => el33 z0 fun hv hρ A hl S f => f.nx σ H ⟨ρ, A, hl, S, h⟩
theorem sd_seq {N : Rho -> Prop} (h1 : SD1 X F st ρ { Q with nx := N }) (h2 : ∀ ρ', N ρ' -> SD X F rest ρ' Q) : SD X F (st :: rest) ρ Q :=
 PSs.mono (pss_cons (u := fun Q' σ H => ∃ ρ', N ρ' ∧ tS X.K F ρ' Q Q' σ H) h1 fun pins s σ H Q' I ⟨ρ', n, t⟩ => h2 ρ' n pins s σ H Q' I t) fun Q' σ H ⟨hv, hρ, A, hl, S, f⟩ =>
  ⟨hv, hρ, A, hl, S, f.step fun σ' H' ⟨ρ', A', hl', S', n⟩ => ⟨ρ', n, hv, hρ, A', hl', S', f⟩⟩
theorem sd_then {ρ' : Rho} (h1 : SD1 X F st ρ { Q with nx := fun r => r = ρ' }) (h2 : SD X F rest ρ' Q) : SD X F (st :: rest) ρ Q := sd_seq h1 fun r e => by subst e; exact h2
theorem set_app {α : Type} {l r : List α} {i : Nat} {v : α} (h : i < l.length) : (l ++ r).set i v = l.set i v ++ r := by
 rw [List.set_append_left _ _ h]
theorem put_plA {K : PySem.W.Frag} {hv : St} {hρ : Rho} {σ : St} {H H1 : Hp} {A : Nat -> List Addr} {v : V} (hl : σ.length = ρ.length) (S : StIn K F H (σ ++ hv) (ρ ++ hρ) A) (hi : i < ρ.length) (s : Same H H1) (h : In K H1 (zn F (Owned A) fr) d v) :
 StIn K F H1 (σ.set i (some v) ++ hv) (ρ.set i (some (.pl fr d)) ++ hρ) (putA A i []) := by
 rw [<- set_app (by omega), <- set_app hi]
 exact S.put (by rw [List.length_append]; omega) (by rw [List.length_append]; omega) s List.nodup_nil (fun a ha => by simp at ha) (In.carry zn_drop h)
theorem put_pl {K : PySem.W.Frag} {hv : St} {hρ : Rho} {σ : St} {H H1 : Hp} {A : Nat -> List Addr} {v : V} (hl : σ.length = ρ.length) (S : StIn K F H (σ ++ hv) (ρ ++ hρ) A) (hi : i < ρ.length) (s : Same H H1) (h : In K H1 (zn F (Owned A) fr) d v) :
 StOk K F hv hρ (fun r => r = ρ.set i (some (.pl fr d))) (σ.set i (some v)) H1 := ⟨_, putA A i [], by simp [hl], put_plA hl S hi s h, rfl⟩
theorem sd_setN (i : Nat) {x : Str} {d : D} (he : E X true (view true false ρ) e d) (hr : SD X F rest (ρ.set i (some (.pl true d))) Q) (hN : X.N.Nodup) (hi : X.N[i]? = some x := by rfl)
 (hx : Loc X.env.scope x := by first | exact Or.inl rfl | exact Or.inr rfl) (hρ : i < ρ.length := by exact of_decide_eq_true rfl) (hs : swapsWith e (some (.Name x p)) pos.line X.env = pure false := by rfl) (hf : X.fn x = true ∨ X.env.scope.names.lookup x = some .local := by first | exact .inl rfl | exact .inr rfl) :
 SD X F (.Assign [.Name x p] e pos :: rest) ρ Q :=
 sd_then (PS.mono (ps_set hN hi hx he hs hf) fun Q' σ H z0 => el33 z0 fun hv hρ' A hl S f => ⟨_, vz_open S true false, S.env hl true false, fun v H1 s1 i1 => f.nx _ H1 (put_pl hl S hρ s1 (In.up (zn_open S true) i1))⟩) hr
theorem sd_setF (i : Nat) {x : Str} {d : D} (he : E X m1 (view true false ρ) e d) (fl : d.flat = true) (hr : SD X F rest (ρ.set i (some (.pl true d))) Q) (hN : X.N.Nodup) (hi : X.N[i]? = some x := by rfl)
 (hx : Loc X.env.scope x := by first | exact Or.inl rfl | exact Or.inr rfl) (hρ : i < ρ.length := by exact of_decide_eq_true rfl) (hs : swapsWith e (some (.Name x p)) pos.line X.env = pure false := by rfl) (hf : X.fn x = true ∨ X.env.scope.names.lookup x = some .local := by first | exact .inl rfl | exact .inr rfl) :
 SD X F (.Assign [.Name x p] e pos :: rest) ρ Q := sd_setN i (he.flat fl) hr hN hi hx hρ hs hf
theorem sd_ret (fr : Bool) {d : D} (he : E X m1 (view true fr ρ) e d) (h : Q.rt d) (hm : F.m = true -> fr = true ∨ m1 = true := by intro h; first | exact .inl rfl | exact .inr rfl | cases h) : SD X F (.Return (some e) pos :: rest) ρ Q :=
 sd_seq (N := fun _ => False) (PS.mono (ps_ret he) fun Q' σ H z0 => el33 z0 fun hv hρ A hl S f => ⟨_, vz_open S true fr, S.env hl true fr, fun v H1 s1 i1 => f.rt v d H1 (S.same.trans s1) (by
  have key : (F.m = true -> In X.K H1 (nw F.H) d v) ∧ In X.K H1 F.Z d v := by
   cases m1 with
   | true =>
    have i2 : In X.K H1 (nw F.H) d v := In.later (m := true) (Z := F.Z) S.same i1
    exact ⟨fun _ => i2, i2.up S.opn⟩
   | false =>
    cases fr with
    | true =>
     have i2 : In X.K H1 (nw F.H) d v := i1
     exact ⟨fun _ => i2, i2.up S.opn⟩
    | false =>
     have i2 : In X.K H1 F.Z d v := i1
     exact ⟨fun h => (hm h).elim (fun z => (nomatch z)) (fun z => (nomatch z)), i2⟩
  cases hmm : F.m with
  | false => exact key.2
  | true => exact key.1 hmm) h⟩) fun _ n => n.elim
theorem sd_if {b : Bool} (hc : T X (view true false ρ) c b) (h1 : b = true -> SD X F body ρ { Q with nx := fun r => SD X F rest r Q }) (h2 : b = false -> SD X F orelse ρ { Q with nx := fun r => SD X F rest r Q }) : SD X F (.If c body orelse pos :: rest) ρ Q := by
 refine sd_seq (N := fun r => SD X F rest r Q) ?_ fun _ h => h
 cases b with
 | true =>
  exact PS.mono (ps_if hc (h1 rfl) (pss_never (sts := orelse))) fun Q' σ H z0 => el33 z0 fun hv hρ A hl S f => ⟨_, vz_open S true false, S.env hl true false, fun H1 s1 => by
   refine iteT ?_; exact ⟨hv, hρ, A, hl, S.grow s1, f⟩⟩
 | false =>
  exact PS.mono (ps_if hc (pss_never (sts := body)) (h2 rfl)) fun Q' σ H z0 => el33 z0 fun hv hρ A hl S f => ⟨_, vz_open S true false, S.env hl true false, fun H1 s1 => by
   refine iteF ?_; exact ⟨hv, hρ, A, hl, S.grow s1, f⟩⟩
theorem sd_ifJ (ρ1 : Rho) {b : Bool} (hc : T X (view true false ρ) c b) (h1 : b = true -> SD X F body ρ { Q with nx := fun r => r = ρ1 }) (h2 : b = false -> SD X F orelse ρ { Q with nx := fun r => r = ρ1 }) (h3 : SD X F rest ρ1 Q) : SD X F (.If c body orelse pos :: rest) ρ Q := by
 refine sd_then (ρ' := ρ1) ?_ h3
 cases b with
 | true =>
  exact PS.mono (ps_if hc (h1 rfl) (pss_never (sts := orelse))) fun Q' σ H z0 => el33 z0 fun hv hρ A hl S f => ⟨_, vz_open S true false, S.env hl true false, fun H1 s1 => by
   refine iteT ?_; exact ⟨hv, hρ, A, hl, S.grow s1, f⟩⟩
 | false =>
  exact PS.mono (ps_if hc (pss_never (sts := body)) (h2 rfl)) fun Q' σ H z0 => el33 z0 fun hv hρ A hl S f => ⟨_, vz_open S true false, S.env hl true false, fun H1 s1 => by
   refine iteF ?_; exact ⟨hv, hρ, A, hl, S.grow s1, f⟩⟩
def hid (fr : Bool) (srcs : List D) : Rho := srcs.map fun d => some (.pl fr d)
theorem StIn.hide {K : PySem.W.Frag} {H : Hp} {σ hv : St} {r hρ : Rho} {A : Nat -> List Addr} {srcs : List D} {vs : List V} (S : StIn K F H (σ ++ hv) (r ++ hρ) A) (h1 : σ.length = r.length) (h2 : hv.length = hρ.length) (iz : Ins K H (zn F (Owned A) fr) srcs vs) :
 StIn K F H (σ ++ (hv ++ vs.map some)) (r ++ (hρ ++ hid fr srcs)) A := by
 refine ⟨S.same, S.opn, S.nd, S.one, S.new, S.lst, fun i sl e => ?_⟩
 rw [<- List.append_assoc] at e ⊢
 by_cases hi : i < (r ++ hρ).length
 · rw [List.getElem?_append_left hi] at e
   rw [List.getElem?_append_left (by rw [List.length_append] at hi ⊢; omega)]
   exact S.at' i sl e
 · rw [List.getElem?_append_right (by omega)] at e
   rw [List.getElem?_append_right (by rw [List.length_append] at hi ⊢; omega)]
   have hle : (σ ++ hv).length = (r ++ hρ).length := by rw [List.length_append, List.length_append]; omega
   rw [hle]
   unfold hid at e
   rw [List.getElem?_map] at e
   cases q : srcs[i - (r ++ hρ).length]? with
   | none => rw [q] at e; cases e
   | some d =>
    rw [q] at e
    have e' : some (Slot.pl fr d) = some sl := by simpa using e
    cases e'
    obtain ⟨v, a, b⟩ := iz.get q
    exact ⟨v, by rw [List.getElem?_map, a]; rfl, b⟩
theorem StIn.srcs {K : PySem.W.Frag} {H : Hp} {σ hv : St} {r hρ : Rho} {A : Nat -> List Addr} {srcs : List D} {vs : List V} (S : StIn K F H (σ ++ (hv ++ vs.map some)) (r ++ (hρ ++ hid fr srcs)) A) (h1 : σ.length = r.length) (h2 : hv.length = hρ.length) (hsv : srcs.length = vs.length) :
 Ins K H (zn F (Owned A) fr) srcs vs := by
 refine Ins.of_get hsv fun i d v e1 e2 => ?_
 have hle : (σ ++ hv).length = (r ++ hρ).length := by rw [List.length_append, List.length_append]; omega
 obtain ⟨w, a, b⟩ := S.at' ((r ++ hρ).length + i) (.pl fr d) (by
  rw [<- List.append_assoc, List.getElem?_append_right (by omega), Nat.add_sub_cancel_left]
  unfold hid
  rw [List.getElem?_map, e1]; rfl)
 rw [<- List.append_assoc, List.getElem?_append_right (by omega), hle, Nat.add_sub_cancel_left, List.getElem?_map, e2] at a
 cases a
 exact b
theorem StIn.unhide {K : PySem.W.Frag} {H : Hp} {σ hv e1 : St} {r hρ e2 : Rho} {A : Nat -> List Addr} (S : StIn K F H (σ ++ (hv ++ e1)) (r ++ (hρ ++ e2)) A) (h1 : σ.length = r.length) (h2 : hv.length = hρ.length) : StIn K F H (σ ++ hv) (r ++ hρ) A := by
 refine ⟨S.same, S.opn, S.nd, S.one, S.new, S.lst, fun i sl e => ?_⟩
 have hi : i < (r ++ hρ).length := (List.getElem?_eq_some_iff.mp e).1
 obtain ⟨v, a, b⟩ := S.at' i sl (by rw [<- List.append_assoc, List.getElem?_append_left hi]; exact e)
 rw [<- List.append_assoc, List.getElem?_append_left (by rw [List.length_append] at hi ⊢; omega)] at a
 exact ⟨v, a, b⟩
theorem sd_forG {tg iter : Expr} {ds : List D} {mi : Bool} {g : TG} (fr : Bool) (G : D -> Rho -> Rho) (P : Nat -> Rho -> Prop) (hi : IT X tg mi (view false fr ρ) iter ds) (h0 : P 0 ρ) (hg : PG X tg g)
 (hG : ∀ n d r (hv : St) (hρ : Rho) (σ : St) (H H1 : Hp) (A : Nat -> List Addr) (v : V) (Q : St -> Hp -> Prop), ds[n]? = some d -> P n r -> σ.length = r.length -> StIn X.K F H (σ ++ hv) (r ++ hρ) A -> Same H H1 -> In X.K H1 (zn F (Owned A) fr) d v ->
  (∀ σ' H', StOk X.K F hv hρ (fun r' => r' = G d r) σ' H' -> Q σ' H') -> g v σ H1 Q)
 (hb : ∀ n d r, ds[n]? = some d -> P n r -> SD X F body (G d r) { Q with nx := P (n + 1), ct := P (n + 1), bk := fun r => SD X F rest r Q }) (hd : ∀ r, P ds.length r -> SD X F rest r Q)
 (hc : X.calm = true := by rfl) (hs : ∀ x, foldedSetIterable iter X.env x = pure x := by intro _; rfl) (hp : PassesOwn (model X.prog X.w) X.A X.env X.xe := by exact PassesOwn.never) : SD X F (.For tg iter body [] pos :: rest) ρ Q := by
 refine sd_seq (N := fun r => SD X F rest r Q) ?_ fun _ h => h
 refine PS.mono (ps_for (g := g) (tb := fun Q' σ H => ∃ n d r, ds[n]? = some d ∧ P n r ∧ tS X.K F (G d r) { Q with nx := P (n + 1), ct := P (n + 1), bk := fun r => SD X F rest r Q } Q' σ H) hp hc hi hg
  (fun pins s σ H Q' I ⟨n, d, r, e, pr, q⟩ => hb n d r e pr pins s σ H Q' I q) hs) fun Q' σ H z0 => el33 z0 fun hv hρ A hl S f => ?_
 refine ⟨_, vz_open S false fr, S.env hl false fr, fun J H1 vs srcs s1 i1 Y => ?_⟩
 have iz : Ins X.K H1 (zn F (Owned A) fr) srcs vs := by
  cases mi
  · exact i1
  · exact i1.up (zn_open S fr)
 have hsv := iz.length
 refine ⟨fun n m σ H => m = ds.length - n ∧ n <= ds.length ∧ ∃ r A, P n r ∧ σ.length = r.length ∧ StIn X.K F H (σ ++ (hv ++ vs.map some)) (r ++ (hρ ++ hid fr srcs)) A, ⟨_, rfl, Nat.zero_le _, ρ, A, h0, hl, (S.grow s1).hide hl f.hl iz⟩, ?_⟩
 rintro n m σ1 H2 ⟨rfl, hn, r, A1, pr, hl1, S1⟩
 have iz1 := S1.srcs hl1 f.hl hsv
 by_cases hlt : n < ds.length
 · have hdn : ds[n]? = some ds[n] := by simp [hlt]
   obtain ⟨go, yl⟩ := Y.go _ H2 (zn_open S1 fr) iz1 n ds[n] hdn
   refine .inr ⟨go, StOk X.K F (hv ++ vs.map some) (hρ ++ hid fr srcs) (P (n + 1)), fun σ' H' ⟨r', A', hl', S', p'⟩ => ⟨ds.length - (n + 1), by omega, rfl, hlt, r', A', p', hl', S'⟩, fun y H3 hy => ?_⟩
   obtain ⟨s3, iy⟩ := yl y H3 hy
   refine hG n ds[n] r _ _ σ1 H2 H3 A1 y _ hdn pr hl1 S1 s3 iy fun σ4 H4 ⟨r4, A4, hl4, S4, e4⟩ => ?_
   subst e4
   refine ⟨n, ds[n], r, hdn, pr, _, _, A4, hl4, S4, ⟨by simp [hid, f.hl, hsv], fun _ _ h => h, fun σ5 H5 ⟨r5, A5, hl5, S5, q5⟩ => f.nx σ5 H5 ⟨r5, A5, hl5, S5.unhide hl5 f.hl, q5⟩, fun _ _ h => h, f.rt, f.rtT, fun σ6 H6 r6 A6 v6 d6 as6 hl6 S6 => f.rtM σ6 H6 r6 A6 v6 d6 as6 hl6 (S6.unhide hl6 f.hl)⟩⟩
 · have e : n = ds.length := by omega
   subst e
   exact .inl ⟨Y.stop _ H2 (zn_open S1 fr) iz1, f.nx _ _ ⟨r, A1, hl1, S1.unhide hl1 f.hl, hd r pr⟩⟩
theorem sd_forF (k : Nat) {x : Str} {px : Pos} {iter : Expr} {ds : List D} {mi : Bool} (P : Nat -> Rho -> Prop) (hi : IT X (.Name x px) mi (view false false ρ) iter ds) (fl : ∀ d ∈ ds, d.flat = true) (h0 : P 0 ρ) (hlen : ∀ n r, P n r -> k < r.length)
 (hb : ∀ (n : Nat) d r, ds[n]? = some d -> P n r -> SD X F body (r.set k (some (.pl true d))) { Q with nx := P (n + 1), ct := P (n + 1), bk := fun r => SD X F rest r Q }) (hd : ∀ r, P ds.length r -> SD X F rest r Q)
 (hN : X.N.Nodup) (hx : X.N[k]? = some x := by rfl) (hxl : Loc X.env.scope x := by first | exact Or.inl rfl | exact Or.inr rfl) (hf : X.fn x = true ∨ X.env.scope.names.lookup x = some .local := by first | exact .inl rfl | exact .inr rfl) (hc : X.calm = true := by rfl)
 (hs : ∀ x, foldedSetIterable iter X.env x = pure x := by intro _; rfl) (hp : PassesOwn (model X.prog X.w) X.A X.env X.xe := by exact PassesOwn.never) : SD X F (.For (.Name x px) iter body [] pos :: rest) ρ Q :=
 sd_forG false (fun d r => r.set k (some (.pl true d))) P hi h0 (pg_name hN hx hxl hf) (fun n d r hv hρ σ H H1 A v q e pr hl S s i h => h _ _ (put_pl hl S (hlen n r pr) s (i.flat' (fl d (List.mem_of_getElem? e))))) hb hd hc hs hp
theorem sd_for2 (k l : Nat) (fr : Bool) {x y : Str} {px py pt : Pos} {kt : Nat} {iter : Expr} {ds : List D} {mi : Bool} (P : Nat -> Rho -> Prop) (hi : IT X (.Tuple [.Name x px, .Name y py] kt pt) mi (view false fr ρ) iter ds) (h0 : P 0 ρ)
 (hlen : ∀ n r, P n r -> k < r.length ∧ l < r.length) (hpair : ∀ d ∈ ds, ∃ d1 d2, d = .tup [d1, d2])
 (hb : ∀ n d1 d2 r, ds[n]? = some (.tup [d1, d2]) -> P n r -> SD X F body ((r.set k (some (.pl fr d1))).set l (some (.pl fr d2))) { Q with nx := P (n + 1), ct := P (n + 1), bk := fun r => SD X F rest r Q }) (hd : ∀ r, P ds.length r -> SD X F rest r Q)
 (hN : X.N.Nodup) (hx : X.N[k]? = some x := by rfl) (hy : X.N[l]? = some y := by rfl) (hxl : Loc X.env.scope x := by first | exact Or.inl rfl | exact Or.inr rfl) (hyl : Loc X.env.scope y := by first | exact Or.inl rfl | exact Or.inr rfl)
 (hf : X.fn x = true ∨ X.env.scope.names.lookup x = some .local := by first | exact .inl rfl | exact .inr rfl) (hf' : X.fn y = true ∨ X.env.scope.names.lookup y = some .local := by first | exact .inl rfl | exact .inr rfl) (hc : X.calm = true := by rfl)
 (hs : ∀ x, foldedSetIterable iter X.env x = pure x := by intro _; rfl) (hp : PassesOwn (model X.prog X.w) X.A X.env X.xe := by exact PassesOwn.never)
 (hes : (assignEach [.Name x px, .Name y py] X.env).map (·.2) = [assign (.Name x px) X.env, assign (.Name y py) X.env] := by rfl) (hes2 : (assignEach [.Name y py] X.env).map (·.2) = [assign (.Name y py) X.env] := by rfl)
 (hen : (assignEach [.Name x px, .Name y py] X.env).length = 2 := by rfl) (hst : (assignEach [.Name x px, .Name y py] X.env).findIdx? (·.1) = none := by rfl) : SD X F (.For (.Tuple [.Name x px, .Name y py] kt pt) iter body [] pos :: rest) ρ Q := by
 refine sd_forG (g := gTup X.K 2 (gCons (gName k) (gCons (gName l) gNil))) fr (fun d r => match d with | .tup [d1, d2] => (r.set k (some (.pl fr d1))).set l (some (.pl fr d2)) | _ => r) P hi h0
  (pg_tup hc (pgs_cons (pg_name hN hx hxl hf) (pgs_cons (pg_name hN hy hyl hf') pgs_nil (by rw [hes2]; rfl)) (by rw [hes, hes2])) hen hst) (fun n d r hv hρ σ H H1 A v q e pr hl S s i h => ?_) (fun n d r e pr => ?_) hd hc hs hp
 · obtain ⟨d1, d2, rfl⟩ := hpair d (List.mem_of_getElem? e)
   obtain ⟨a, xs, rfl, t, j⟩ := in_tupS i
   obtain ⟨v1, r1, rfl, i1, j1⟩ := ins_cons.mp j
   obtain ⟨v2, r2, rfl, i2, j2⟩ := ins_cons.mp j1
   cases ins_nil.mp j2
   refine ⟨a, _, rfl, t, rfl, v1, _, rfl, v2, _, rfl, rfl, ?_⟩
   exact h _ _ (put_pl (by simp [hl]) (put_plA (fr := fr) hl S (hlen n r pr).1 s i1) (by simpa using (hlen n r pr).2) (Same.refl _) (i2.carry zn_drop))
 · obtain ⟨d1, d2, rfl⟩ := hpair d (List.mem_of_getElem? e)
   exact hb n d1 d2 r e pr
end
def spD (K : PySem.W.Frag) (m : Bool) (G : List D -> D -> Prop) : Sp := fun vs H Q _ => ∃ (Z : Zone) (ds : List D) (d : D), Z.Open H ∧ Ins K H Z ds vs ∧ G ds d ∧ ∀ v H', Same H H' -> In K H' (out m Z H) d v -> Q v H'
structure Def (P : Program) (w : World) (K : PySem.W.Frag) (mg : Str -> Option Value) (base : Heap) (k : Nat) (x : Str) (m : Bool) (G : List D -> D -> Prop) : Prop where
 ex : ∃ f fd ps, FnOk P w K mg base CX0 k f fd ps (spD K m G) ∧ mg x = some (.ref f) ∧ PySem.W.keepIn K (.ref f) = true ∧ Binds K fd ps []
section
variable {X : Cx} {ρ : List (Option D)} {m : Bool} {e : Expr} {es : List Expr} {ds : List D} {d : D} {pos p : Pos} {k : Nat} {x : Str} {G : List D -> D -> Prop}
theorem e_call (Df : Def X.prog X.w X.K X.mg X.base k x m G) (hr : Room k X.A) (ha : EA X ρ (e :: es) ds) (h : G ds d) (hg : Gl X x := by rfl) (hdb : (x == ("__debug__" : Str)) = false := by decide)
 (he : starEach (e :: es) X.env = (false, eval e X.env) :: starEach es X.env := by rfl) (hpl : (backTo pos (starEach es X.env)).any (·.1) = false := by rfl) : E X m ρ (.Call (.Name x p) (e :: es) [] pos) d := by
 obtain ⟨f, fd, ps, a, b, c, dd⟩ := Df.ex
 exact PE.mono (pe_call a hr hg b c dd .nil pass0 ha hdb he hpl) fun σ H Q z0 => el13 z0 fun Z oz en k => ⟨Z, oz, en, fun vs H1 s1 i1 => by
  show spD X.K m G (vs ++ []) H1 Q E0
  rw [List.append_nil]
  exact ⟨Z, ds, d, oz.same s1, i1, h, fun v H' s' i => k v H' (s1.trans s') (i.later s1)⟩⟩
end
def startD (N : List Str) (ds : List D) : Rho := ds.map (fun d => some (.pl false d)) ++ List.replicate (N.length - ds.length) none
theorem start_in {K : PySem.W.Frag} {Z : Zone} {H : Hp} {m : Bool} {N : List Str} {ds : List D} {vs : List V} (oz : Z.Open H) (h : Ins K H Z ds vs) : StIn K ⟨m, Z, H⟩ H (L2.start N vs ++ []) (startD N ds ++ []) (fun _ => []) := by
 refine ⟨Same.refl H, oz, fun _ => List.nodup_nil, fun i j a ha => by simp at ha, fun i a ha => by simp at ha, fun i a ha => by simp at ha, fun i sl e => ?_⟩
 rw [List.append_nil] at e ⊢
 unfold startD at e
 unfold L2.start
 by_cases hi : i < ds.length
 · rw [List.getElem?_append_left (by simpa using hi), List.getElem?_map] at e
   have hd : ds[i]? = some ds[i] := by simp [hi]
   rw [hd] at e
   have e' : some (Slot.pl false ds[i]) = some sl := by simpa using e
   cases e'
   obtain ⟨v, a, b⟩ := h.get hd
   have hv : i < vs.length := (List.getElem?_eq_some_iff.mp a).1
   refine ⟨v, by rw [List.getElem?_append_left (by simpa using hv), List.getElem?_map, a]; rfl, ?_⟩
   exact In.carry (Z' := ⟨Z.m, fun a => Z.S a ∧ ¬ Owned (fun _ => []) a⟩) (Carry.of (Same.refl H) (fun a xs e z => ⟨z, fun ⟨j, hj⟩ => by simp at hj⟩) fun m => m) b
 · rw [List.getElem?_append_right (by simpa using hi), List.getElem?_replicate] at e
   split at e <;> cases e
section
variable {P : Program} {w : World} {K : PySem.W.Frag} {mg : Str -> Option Value} {base : Heap}
theorem fnD {x qual : Str} {st : Stmt} {f : Addr} {fd : FuncData} {N ps : List Str} {k : Nat} {m : Bool} {G : List D -> D -> Prop} (Fx : Fun K x qual st f fd) (S : FnScope N ps (defScope st))
 (hlen : ∀ ds d, G ds d -> ds.length = ps.length)
 (body : ∀ (cdv : Value) (A : Around) (outer : List Env) (s : Shared) (H : Hp) (E : XK) (Z : Zone) (ds : List D) (d : D), Room k (A.deeper (envOfC qual (defScope st) s.heap.objs.size f cdv)) -> G ds d ->
  SD (cxOf CX0 P w K mg base N qual (defScope st) f cdv A outer s H E).nox ⟨m, Z, H⟩ (defBody st) (startD N ds) { nx := fun _ => d = .non, rt := fun d' => d' = d }) : FnOk P w K mg base CX0 (k + 1) f fd ps (spD K m G) := by
 refine Fx.ok S (fun vs H Q E ⟨Z, ds, d, oz, i, g, kk⟩ => ?_) (fun cdv A outer s H vs Q E hr ⟨Z, ds, d, oz, i, g, kk⟩ => ?_)
 · rw [<- i.length]; exact hlen ds d g
 · refine ⟨_, body cdv A outer s H E Z ds d hr g, [], [], fun _ => [], ?_, start_in oz i, ⟨rfl, fun σ H' ⟨r, A', hl, S', e⟩ => ?_, fun σ H' ⟨r, A', hl, S', e⟩ => e.elim, fun σ H' ⟨r, A', hl, S', e⟩ => e.elim, fun v d' H' s' i' e => ?_, fun _ _ _ _ _ _ _ _ e => e.elim, fun _ _ _ _ _ _ _ _ _ _ _ _ _ e => e.elim⟩⟩
   · have := i.length
     simp [L2.start, startD]; omega
   · subst e
     exact kk .non H' S'.same (in_non.mpr rfl)
   · subst e
     exact kk v H' s' i'
theorem def_of {x qual : Str} {st : Stmt} {f : Addr} {fd : FuncData} {N ps : List Str} {k : Nat} {m : Bool} {G : List D -> D -> Prop} (Fx : Fun K x qual st f fd) (S : FnScope N ps (defScope st)) (hmg : mg x = some (.ref f)) (hb : Binds K fd ps [])
 (hlen : ∀ ds d, G ds d -> ds.length = ps.length)
 (body : ∀ (cdv : Value) (A : Around) (outer : List Env) (s : Shared) (H : Hp) (E : XK) (Z : Zone) (ds : List D) (d : D), Room k (A.deeper (envOfC qual (defScope st) s.heap.objs.size f cdv)) -> G ds d ->
  SD (cxOf CX0 P w K mg base N qual (defScope st) f cdv A outer s H E).nox ⟨m, Z, H⟩ (defBody st) (startD N ds) { nx := fun _ => d = .non, rt := fun d' => d' = d }) : Def P w K mg base (k + 1) x m G := ⟨f, fd, ps, fnD Fx S hlen body, hmg, Fx.kp, hb⟩
def lawG (ds : List D) (d : D) : Prop := ∃ ns : List Int, ns.length <= 63 ∧ ds = [.lst (ns.map D.int)] ∧ d = .bl true
def spLaw (K : PySem.W.Frag) : Sp := fun vs H Q _ => ∃ (a : Addr) (ns : List Int), vs = [.ref a] ∧ SqL K H a (ns.map V.int) ∧ ns.length <= 63 ∧ TabsOk H ∧ ∀ H', Q (.bl true) H'
theorem spLaw_of {H : Hp} {vs : List V} {Q : VK} {E : XK} (h : spLaw K vs H Q E) : spD K false lawG vs H Q E := by
 obtain ⟨a, ns, rfl, hS, hl, tb, q⟩ := h
 refine ⟨anyZ, [.lst (ns.map D.int)], .bl true, anyZ_open tb, Ins.one (in_lst.mpr ⟨a, _, rfl, ?_, ins_ints ns⟩), ⟨ns, hl, rfl, rfl⟩, fun v H' s i => ?_⟩
 · rcases hS with (h | h) | h
   · exact .inl ⟨h, trivial⟩
   · exact .inr ⟨rfl, .inl h⟩
   · exact .inr ⟨rfl, .inr h⟩
 · rw [in_bl.mp i]; exact q H'
theorem law_of {k : Nat} {f : Addr} {fd : FuncData} {ps : List Str} (h : FnOk P w K mg base CX0 k f fd ps (spD K false lawG)) : FnOk P w K mg base CX0 k f fd ps (spLaw K) := h.imp fun _ _ _ _ q => spLaw_of q
theorem walk {l : PySem.W.OpenLaw} {q : Program} {loose : List Str} {XP : (Str -> Option Value) -> Heap -> Prop} {YP : World -> Heap -> Prop} {d : DefRec} {K : Params -> PySem.W.Frag} {x : Str} {k : Nat} (hn : l.most = some 63) (hdf : d.params.defaults = []) (hr : Room k callerA)
 (hY : ∀ (w : World) (h : Heap), YP w h -> (K w.params).In h)
 (F : ∀ (w : World) (mg : Str -> Option Value) (fa : Addr) (h : Heap), (K w.params).In h -> h.Ns mainGlobals mg -> mg d.name = some (.ref fa) ->
  ∃ fd : FuncData, (∀ (s : Shared) (u : Value), BindsTo s fd ⟨[u], []⟩ [(x, u)]) ∧ ∀ base : Heap, (K w.params).In base -> base.Ns mainGlobals mg -> FnOk l.prog w (K w.params) mg base CX0 k fa fd [x] (spLaw (K w.params))) (h0 : Tabs.T = [] := by rfl) :
 PySem.W.WalkO q loose XP YP l.row.toRowW d [] (fun f vs => PySem.call f vs) :=
 L2.walk_of (n := 63) (k := k) (x := x) (CX := fun _ => CX0) (sp := fun w => spLaw (K w.params)) hn (by decide) hdf hr hY F (fun _ _ a ns hl _ hS => ⟨a, ns, rfl, hS, hl, (fun P hP => by rw [h0] at hP; cases hP), fun _ => rfl⟩) fun _ _ _ _ _ z => z
end
section
variable {X : Cx} {F : Fn} {ρ : Rho} {Q : EndD} {rest : List Stmt} {e : Expr} {d : D} {pos p : Pos} {x : Str} {fr m1 : Bool} {ds : List D} {dss : List (List D)}
theorem nodup1 {a : Addr} : [a].Nodup := by simp
theorem sd_own (i : Nat) {x : Str} {ds : List D} (he : E X true (view true false ρ) e (.lst ds)) (fl : flats ds = true) (hr : SD X F rest (ρ.set i (some (.ow true ds))) Q) (hN : X.N.Nodup) (hi : X.N[i]? = some x := by rfl)
 (hx : Loc X.env.scope x := by first | exact Or.inl rfl | exact Or.inr rfl) (hρ : i < ρ.length := by exact of_decide_eq_true rfl) (hs : swapsWith e (some (.Name x p)) pos.line X.env = pure false := by rfl) (hf : X.fn x = true ∨ X.env.scope.names.lookup x = some .local := by first | exact .inl rfl | exact .inr rfl) :
 SD X F (.Assign [.Name x p] e pos :: rest) ρ Q :=
 sd_then (PS.mono (ps_set hN hi hx he hs hf) fun Q' σ H z0 => el33 z0 fun hv hρ' A hl S f => ⟨_, vz_open S true false, S.env hl true false, fun v H1 s1 i1 => by
  obtain ⟨l, xs, rfl, at', j⟩ := in_lst.mp i1
  obtain ⟨e1, e2⟩ : H1 l = some (.lst xs) ∧ H l = none := by
   rcases at' with z | z
   · exact z
   · exact absurd z.1 (by simp [out, nw])
  refine f.nx _ H1 ⟨_, putA A i [l], by simp [hl], ?_, rfl⟩
  rw [<- set_app (by omega), <- set_app hρ]
  exact S.put (by rw [List.length_append]; omega) (by rw [List.length_append]; omega) s1 nodup1 (fun a ha => by
   have : a = l := by simpa using ha
   subst this
   exact ⟨e2, .l xs, e1⟩) ⟨l, xs, rfl, rfl, e1, j.flat' fl⟩⟩) hr
theorem set_self {α : Type} {l : List α} {i : Nat} {v : α} (h : l[i]? = some v) : l.set i v = l := by
 obtain ⟨hi, e⟩ := List.getElem?_eq_some_iff.mp h
 rw [<- e, List.set_getElem_self]
theorem StIn.ow {K : PySem.W.Frag} {H : Hp} {σ hv : St} {hρ : Rho} {A : Nat -> List Addr} {i : Nat} (S : StIn K F H (σ ++ hv) (ρ ++ hρ) A) (hl : σ.length = ρ.length) (h : ρ[i]? = some (some (.ow fr ds))) :
 ∃ l xs, σ[i]? = some (some (.ref l)) ∧ A i = [l] ∧ H l = some (.lst xs) ∧ Ins K H (zn F (Owned A) fr) ds xs := by
 have hi : i < ρ.length := (List.getElem?_eq_some_iff.mp h).1
 obtain ⟨v, a, l, xs, e1, rfl, e2, j⟩ := S.at' i _ (by rw [List.getElem?_append_left hi]; exact h)
 rw [List.getElem?_append_left (by omega)] at a
 exact ⟨l, xs, a, e1, e2, j⟩
theorem put_ow {K : PySem.W.Frag} {hv : St} {hρ : Rho} {σ : St} {H : Hp} {A : Nat -> List Addr} {i : Nat} {l : Addr} {xs ys : List V} {es : List D} (hl : σ.length = ρ.length) (S : StIn K F H (σ ++ hv) (ρ ++ hρ) A) (h : σ[i]? = some (some (.ref l))) (hA : A i = [l]) (hx : H l = some (.lst xs))
 (j : Ins K H (zn F (Owned A) fr) es ys) : StOk K F hv hρ (fun r => r = ρ.set i (some (.ow fr es))) σ (upd H l (.lst ys)) := by
 have hi : i < σ.length := (List.getElem?_eq_some_iff.mp h).1
 refine ⟨_, putA A i [l], by simp [hl], ?_, rfl⟩
 have key := S.re (i := i) (v := .ref l) (sl := .ow fr es) (l := [l]) (H2 := upd H l (.lst ys)) (by rw [List.length_append]; omega) (by rw [List.length_append]; omega) (S.same.write (S.new i l (by rw [hA]; simp)) hx) (fun b o e _ hb => ?_) nodup1 (fun a ha => ?_) ⟨l, ys, rfl, rfl, upd_same, ?_⟩
 · rw [set_self (by rw [List.getElem?_append_left hi]; exact h), set_app (by omega)] at key
   exact key
 · rw [hA] at hb
   have : b ≠ l := by simpa using hb
   rw [upd_ne this]; exact e
 · have : a = l := by simpa using ha
   subst this
   exact ⟨.inl (by rw [hA]; simp), .l ys, upd_same⟩
 · have eqA : putA A i [l] = A := by
    funext k
    by_cases q : k = i
    · rw [q, putA_same, hA]
    · rw [putA_ne q]
   rw [eqA]
   refine j.carry (.write hx ?_)
   unfold zn
   have o : Owned A l := ⟨i, by rw [hA]; simp⟩
   cases fr
   · exact fun z => z.2 o
   · exact fun z => z.2 o
end
theorem strsAre_of {zs : List Str} : ∀ {us : List Value}, Vals (zs.map V.str) us -> StrsAre us zs := by
 induction zs with
 | nil => intro us r; rw [List.map_nil] at r; cases r; exact .nil
 | cons n ns ih =>
  intro us r
  rw [List.map_cons] at r
  cases r with
  | cons r1 r2 =>
   obtain ⟨t, e⟩ := r1
   subst e
   exact .cons n t (ih r2)
theorem vals_of_strs : ∀ (l : List (Str × Tok)), Vals ((l.map (·.1)).map V.str) (strValues l)
 | [] => .nil
 | (x, t) :: l => .cons ⟨t, rfl⟩ (vals_of_strs l)
section
variable {X : Cx}
theorem mt_join : MtR X "str.join" (fun x xs H Q => ∃ sep l zs, x = .str sep ∧ xs = [.ref l] ∧ SqL X.K H l (zs.map V.str) ∧ sep.length <= 16 ∧ (zs.map (·.length)).sum + zs.length <= 1048576 ∧ Q (.str (Txt.join sep zs)) H) := by
 intro pins s σ H x xs v us Q I rx rs h
 obtain ⟨sep, l, zs, rfl, rfl, hl, h1, h2, q⟩ := h
 obtain ⟨t, rfl⟩ := rx
 obtain ⟨u, rfl, ru⟩ := Vals.one rs
 cases ru
 obtain ⟨its, r, pl, hz⟩ := I.list hl
 exact join_listW pl.isList (by simpa using strsAre_of r) h1 h2 fun t' k => ⟨.str (Txt.join sep zs), H, I.tok _, ⟨_, rfl⟩, q⟩
theorem mt_lower : MtR X "str.lower" (fun x xs H Q => ∃ z, x = .str z ∧ xs = [] ∧ z.length <= 5592405 ∧ Q (.str (Txt.lower z)) H) := by
 intro pins s σ H x xs v us Q I rx rs h
 obtain ⟨z, rfl, rfl, h1, q⟩ := h
 obtain ⟨t, rfl⟩ := rx
 cases Vals.zero rs
 exact SCL.lower h1 fun _ => ⟨.str (Txt.lower z), H, I.tok _, ⟨_, rfl⟩, q⟩
theorem newStrs {pins : List (Addr × Obj)} {σ : St} {H : Hp} {s : Shared} (I : Inv X pins σ H s) {l : List (Str × Tok)} {k : Nat} (hz : l.length <= sizeLine) :
 Inv X pins σ (upd H s.heap.objs.size (.lst ((l.map (·.1)).map V.str))) { s with heap := s.heap.push { cls := .type "list", data := .seq (strValues l).toArray }, toks := k } :=
 I.laid (fun b u e => Heap.get?_push_of_some _ e) (Nat.le_refl _) ⟨by simpa using hz, strValues l, 0, vals_of_strs l, Heap.get?_push_size _ rfl⟩
theorem mt_split1 : MtR X "str.split" (fun x xs H Q => ∃ z y, x = .str z ∧ xs = [.str y] ∧ (y.length == 0) = false ∧ z.length <= sizeLine ∧ (Builtin.Str.partsBetween z (Builtin.Str.occurrences z y 0 z.length (z.length + 1)) y.length).length <= sizeLine ∧
 ∀ p, H p = none -> Q (.ref p) (upd H p (.lst ((Txt.split z y).map V.str)))) := by
 intro pins s σ H x xs v us Q I rx rs h
 obtain ⟨z, y, rfl, rfl, hy, h1, h2, q⟩ := h
 obtain ⟨t, rfl⟩ := rx
 obtain ⟨u', rfl, ru⟩ := Vals.one rs
 obtain ⟨u, rfl⟩ := ru
 have fr := I.hok.fresh (Nat.le_refl _)
 have one : ∀ k, Txt.split z y = [z] -> EP X pins σ Q (.ref s.heap.objs.size) { s with heap := s.heap.push { cls := .type "list", data := .seq (strValues [(z, t)]).toArray }, toks := k } := fun k e => by
  refine ⟨.ref s.heap.objs.size, _, newStrs I (l := [(z, t)]) (k := k) (by simp; exact Nat.le_of_lt (small1000 (by decide))), rfl, ?_⟩
  have e' : [(z, t)].map (·.1) = Txt.split z y := e.symm
  rw [e']
  exact q _ fr
 cases h3 : (decide (z.length < y.length) || decide (Builtin.Str.strKind z < Builtin.Str.strKind y))
 · cases hf : (Builtin.Str.occurrences z y 0 z.length (z.length + 1)).isEmpty
   · refine call_meets F.slot_str_split (typeIs_str _ _ _) F.entry_str_split (F.args_str_split_2 _ _) (meets_str_split_sep z y t u h3 hy hf h1 h2) ?_
     show wants _ _ _ { s with toks := _, heap := s.heap.push { cls := .type "list", data := .seq (strsFrom s.toks (Builtin.Str.partsBetween z (Builtin.Str.occurrences z y 0 z.length (z.length + 1)) y.length)).toArray } }
     rw [strsFrom_eq]
     have e : (numbered s.toks (Builtin.Str.partsBetween z (Builtin.Str.occurrences z y 0 z.length (z.length + 1)) y.length)).map (·.1) = Txt.split z y := (numbered_texts _ _).trans ((if_neg (ne_true_of_eq_false h3)).trans (if_neg (ne_true_of_eq_false hf))).symm
     have hl : (numbered s.toks (Builtin.Str.partsBetween z (Builtin.Str.occurrences z y 0 z.length (z.length + 1)) y.length)).length <= sizeLine := by
      have : ∀ l : List (Str × Tok), l.length = (l.map (·.1)).length := fun l => by simp
      rw [this, numbered_texts]
      exact h2
     refine ⟨.ref s.heap.objs.size, _, newStrs I hl, rfl, ?_⟩
     rw [e]
     exact q _ fr
   · exact call_meets F.slot_str_split (typeIs_str _ _ _) F.entry_str_split (F.args_str_split_2 _ _) (meets_str_split_not_found z y t u h3 hy hf)
      (one s.toks ((if_neg (ne_true_of_eq_false h3)).trans (if_pos hf)))
 · exact call_meets F.slot_str_split (typeIs_str _ _ _) F.entry_str_split (F.args_str_split_2 _ _) (meets_str_split_cannot_occur z y t u h3) (one s.toks (if_pos h3))
theorem sl_str : SlR X (fun x lo hi H Q => ∃ z, x = .str z ∧ z.length <= sizeLine ∧ Q (.str (Txt.slice z lo hi)) H) := by
 intro pins s σ H x v vl vu lo hi sl Q I rx hs pl pu h
 obtain ⟨z, rfl, hz, q⟩ := h
 obtain ⟨t, rfl⟩ := rx
 refine ⟨"str", _, F.slot_str_getitem.lookup, typeIs_str _ _ _, ?_⟩
 have fin : ∀ t' k, EP X pins σ Q (.str (Txt.slice z lo hi) t') { s with toks := k } := fun t' k => ⟨.str (Txt.slice z lo hi), H, I.tok k, ⟨_, rfl⟩, q⟩
 have key : ∀ (l u : Option (Int × Tok)), vl = partValue l -> vu = partValue u -> l.map (·.1) = lo -> u.map (·.1) = hi -> wpAny (model X.prog X.w) X.A (getItem (.str z t) (.ref sl)) (EP X pins σ Q) X.xe s := fun l u e1 e2 e3 e4 => by
  subst e1 e2 e3 e4
  exact wpAny_getItem_str_slice (l := l) (u := u) (st := none) hs rfl (post_val_or_str ⟨Nat.le_trans (Txt.slice_le z _ _) hz, fun t' k => fin t' k⟩)
 cases pl with
 | none =>
  cases pu with
  | none => exact key none none rfl rfl rfl rfl
  | int j tj => exact key none (some (j, tj)) rfl rfl rfl rfl
 | int i ti =>
  cases pu with
  | none => exact key (some (i, ti)) none rfl rfl rfl rfl
  | int j tj => exact key (some (i, ti)) (some (j, tj)) rfl rfl rfl rfl
inductive IsiV (K : PySem.W.Frag) (H : Hp) : V -> String -> Bool -> Prop where
 | bb (b : Bool) : IsiV K H (.bl b) "bool" true
 | bi (b : Bool) : IsiV K H (.bl b) "int" true
 | ii (i : Int) : IsiV K H (.int i) "int" true
 | ib (i : Int) : IsiV K H (.int i) "bool" false
 | ss (x : Str) : IsiV K H (.str x) "str" true
 | ll {a : Addr} {xs : List V} (h : SqL K H a xs) : IsiV K H (.ref a) "list" true
 | tt {a : Addr} {xs : List V} (h : SqT K H a xs) : IsiV K H (.ref a) "tuple" true
theorem call_isinst : CallR X (.builtin "isinstance") (fun xs H Q => ∃ x T b, xs = [x, .ty T] ∧ IsiV X.K H x T b ∧ Q (.bl b) H) := by
 intro pins s σ H xs us Q I r h
 obtain ⟨x, T, b, rfl, hi, q⟩ := h
 obtain ⟨u, w', rfl, ru, rw'⟩ := vals2 r
 cases rw'
 have fin : ∀ k, EP X pins σ Q (.bool b) { s with toks := k } := fun k => ⟨.bl b, H, I.tok k, rfl, q⟩
 cases hi with
 | bb => cases ru; exact IsiPair.bool_bool (fin s.toks)
 | bi => cases ru; exact IsiPair.bool_int (fin s.toks)
 | ii => obtain ⟨t, rfl⟩ := ru; exact IsiPair.int_int (fin s.toks)
 | ib => obtain ⟨t, rfl⟩ := ru; exact IsiPair.int_bool (fin _)
 | ss => obtain ⟨t, rfl⟩ := ru; exact IsiPair.str_str (fin s.toks)
 | ll h =>
  cases ru
  obtain ⟨its, _, ⟨o, n, e, c, _⟩, _⟩ := I.list h
  exact IsiPair.list_list e c (fin s.toks)
 | tt h =>
  cases ru
  obtain ⟨its, _, ⟨o, e, c, _⟩, _⟩ := I.tuple h
  exact IsiPair.tuple_tuple e c (fin s.toks)
theorem call_all : CallR X (.builtin "all") (fun xs H Q => X.A.handled = none ∧ ∃ (l : Addr) (bs : List Bool), xs = [.ref l] ∧ SqL X.K H l (bs.map V.bl) ∧ Q (.bl (bs.all id)) H) := by
 intro pins s σ H xs us Q I r h
 obtain ⟨hh, l, bs, rfl, hl, q⟩ := h
 obtain ⟨u, rfl, ru⟩ := vals1 r
 cases ru
 obtain ⟨its, rv, pl, hz⟩ := I.list hl
 have hget : ∀ (i : Nat) (v : Value), its.toArray[i]? = some v -> v = Value.bool (bs.getD i false) := fun i v e => by
  have e' : its[i]? = some v := by simpa using e
  have hi : i < its.length := (List.getElem?_eq_some_iff.mp e').1
  have hlen := rv.length
  simp at hlen
  obtain ⟨w', h1, h2⟩ := rv.get (i := i) (x := .bl bs[i]) (by simp)
  rw [e'] at h1
  cases h1
  have h2 : v = .bool bs[i] := h2
  have hb : i < bs.length := by omega
  rw [h2]
  simp [hb]
 refine call_all_walk (wpAny_pyIter_list pl.isList ?_)
 obtain ⟨o, n, ho, hc, hd, hs⟩ := id pl
 refine ⟨s.heap.objs.size, _, _, _, _, _, fun i => bs.getD i false, rfl, Walks.list (A := X.A.in1) hh s.heap.objs.size l (Nat.ne_of_lt (Heap.lt_size ho)) its.toArray, ⟨⟨_, Heap.get?_push_size _ rfl, rfl, rfl⟩, ⟨o, Heap.get?_push_of_some _ ho, hc, n, hs⟩⟩, ?_, fun h' tk hk => ?_⟩
 · intro i v s' Q' E' hP hQ
   rw [hget i v hP]
   exact wpAny_truthy_bool hQ
 · refine ⟨.bl (bs.all id), H, I.kept (h' := h') (t' := tk) (fun b ob e => hk b ob (by simp; exact Nat.ne_of_lt (Heap.lt_size e)) (Heap.get?_push_of_some _ e)), ?_, q⟩
   show Value.bool _ = Value.bool _
   congr 1
   have hlen := rv.length
   simp at hlen
   rw [List.size_toArray, <- hlen]
   rw [Bool.eq_iff_iff, List.all_eq_true, List.all_eq_true]
   constructor
   · intro hq b hb
     obtain ⟨i, hi, e⟩ := List.mem_iff_getElem.mp hb
     have := hq i (by simpa using hi)
     simp [hi, e] at this
     exact this
   · intro hq i hi
     have hi' : i < bs.length := by simpa using hi
     have := hq bs[i] (List.getElem_mem hi')
     simp [hi']
     exact this
end
section
variable {X : Cx} {ρ : List (Option D)} {m m1 m2 : Bool} {a e o : Expr} {d : D} {pos p ap cp : Pos} {ds : List D}
theorem e_join {sep : Str} {zs : List Str} (ho : E X m1 ρ o (.str sep)) (ha : E X m2 ρ a (.lst (zs.map D.str))) (h1 : sep.length <= 16) (h2 : (zs.map (·.length)).sum + zs.length <= 1048576)
 (hbase : attributeBase o "join" X.env (eval o X.env) = eval o X.env := by rfl) (hline : (ap.endLine == cp.line) = true := by rfl) (hs : starEach [a] X.env = [(false, eval a X.env)] := by rfl) : E X true ρ (.Call (.Attribute o "join" ap) [a] [] cp) (.str (Txt.join sep zs)) :=
 PE.mono (pe_bm F.plainAttrs_str F.slot_str_join F.type_str_join mt_join ho (pa_cons ha pa_nil (by rw [hs]; rfl)) hbase (by rw [hs]; rfl) hline (by rw [hs]; rfl) rfl) fun σ H Q z0 => el13 z0 fun Z oz en k => ⟨Z, oz, en, fun x H1 s1 i1 => by
  cases in_str.mp (i1.plain oz)
  refine ⟨rfl, Z, oz.same s1, en.same s1, fun y H2 s2 i2 => ?_⟩
  obtain ⟨l, xs, rfl, at', j⟩ := in_lst.mp (i2.plain (oz.same s1))
  rw [ins_strs_inv j] at at'
  exact ⟨sep, l, zs, rfl, rfl, at'.sq, h1, h2, k _ H2 (s1.trans s2) (in_str.mpr rfl)⟩⟩
theorem e_lower {z : Str} (ho : E X m1 ρ o (.str z)) (h1 : z.length <= 5592405) (hbase : attributeBase o "lower" X.env (eval o X.env) = eval o X.env := by rfl) (hline : (ap.endLine == cp.line) = true := by rfl) : E X true ρ (.Call (.Attribute o "lower" ap) [] [] cp) (.str (Txt.lower z)) :=
 PE.mono (pe_bm0 F.plainAttrs_str F.slot_str_lower F.type_str_lower mt_lower ho hbase hline) fun σ H Q z0 => el13 z0 fun Z oz en k => ⟨Z, oz, en, fun x H1 s1 i1 => by
  cases in_str.mp (i1.plain oz)
  exact ⟨rfl, z, rfl, rfl, h1, k _ H1 s1 (in_str.mpr rfl)⟩⟩
theorem e_slS {z : Str} {lo hi : Option Expr} {l u : Option Int} {p2 : Pos} (ha : E X m1 ρ a (.str z)) (hl : EO X ρ lo l) (hu : EO X ρ hi u) (hz : z.length <= sizeLine) : E X true ρ (.Subscript a (.Slice lo hi none p2) pos) (.str (Txt.slice z l u)) :=
 PE.mono (pe_slice sl_str ha hl hu) fun σ H Q z0 => el13 z0 fun Z oz en k => ⟨Z, oz, en, fun x H1 s1 i1 => ⟨Z, oz.same s1, en.same s1, fun H2 s2 => ⟨Z, oz.same (s1.trans s2), en.same (s1.trans s2), fun H3 s3 =>
  ⟨z, in_str.mp (i1.plain oz), hz, k _ H3 ((s1.trans s2).trans s3) (in_str.mpr rfl)⟩⟩⟩⟩
theorem e_split1 {z y : Str} (ho : E X m1 ρ o (.str z)) (ha : E X m2 ρ a (.str y)) (hy : (y.length == 0) = false) (h1 : z.length <= sizeLine) (h2 : (Builtin.Str.partsBetween z (Builtin.Str.occurrences z y 0 z.length (z.length + 1)) y.length).length <= sizeLine)
 (hbase : attributeBase o "split" X.env (eval o X.env) = eval o X.env := by rfl) (hline : (ap.endLine == cp.line) = true := by rfl) (hs : starEach [a] X.env = [(false, eval a X.env)] := by rfl) :
 E X true ρ (.Call (.Attribute o "split" ap) [a] [] cp) (.lst ((Txt.split z y).map D.str)) :=
 E.mode (PE.mono (pe_bm F.plainAttrs_str F.slot_str_split F.type_str_split mt_split1 ho (pa_cons ha pa_nil (by rw [hs]; rfl)) hbase (by rw [hs]; rfl) hline (by rw [hs]; rfl) rfl) fun σ H Q z0 => el13 z0 fun Z oz en k => ⟨Z, oz, en, fun x H1 s1 i1 => by
  cases in_str.mp (i1.plain oz)
  refine ⟨rfl, Z, oz.same s1, en.same s1, fun w H2 s2 i2 => ?_⟩
  cases in_str.mp (i2.plain (oz.same s1))
  exact ⟨z, y, rfl, rfl, hy, h1, h2, fun p hp => k _ _ ((s1.trans s2).trans (same_new hp)) (in_lst.mpr ⟨p, _, rfl, .inl ⟨upd_same, (s1.trans s2).free hp⟩, ins_strs _⟩)⟩⟩)
theorem e_lenL (ha : E X m1 ρ a (.lst ds)) (hm : X.mg "len" = none) (hg : Gl X "len" := by rfl) (hs : starEach [a] X.env = [(false, eval a X.env)] := by rfl) : E X true ρ (.Call (.Name "len" p) [a] [] pos) (.int ds.length) :=
 PE.mono (pe_callB call_len_seq hg hm PySem.boot_len (pa_cons ha pa_nil (by rw [hs]; rfl)) (by decide) (by decide) (by rw [hs]; rfl) rfl) fun σ H Q z0 => el13 z0 fun Z oz en k => ⟨Z, oz, en, fun x H1 s1 i1 => by
  obtain ⟨l, xs, rfl, at', j⟩ := in_lst.mp (i1.plain oz)
  exact ⟨l, xs, rfl, .inl at'.sq, k _ H1 s1 (in_int.mpr (by rw [j.length]))⟩⟩
theorem e_lenT (ha : E X m1 ρ a (.tup ds)) (hm : X.mg "len" = none) (hg : Gl X "len" := by rfl) (hs : starEach [a] X.env = [(false, eval a X.env)] := by rfl) : E X true ρ (.Call (.Name "len" p) [a] [] pos) (.int ds.length) :=
 PE.mono (pe_callB call_len_seq hg hm PySem.boot_len (pa_cons ha pa_nil (by rw [hs]; rfl)) (by decide) (by decide) (by rw [hs]; rfl) rfl) fun σ H Q z0 => el13 z0 fun Z oz en k => ⟨Z, oz, en, fun x H1 s1 i1 => by
  obtain ⟨l, xs, rfl, at', j⟩ := in_tupS (i1.plain oz)
  exact ⟨l, xs, rfl, .inr at', k _ H1 s1 (in_int.mpr (by rw [j.length]))⟩⟩
def isiD : D -> String -> Option Bool
 | .bl _, "bool" => some true
 | .bl _, "int" => some true
 | .int _, "int" => some true
 | .int _, "bool" => some false
 | .str _, "str" => some true
 | .lst _, "list" => some true
 | .tup _, "tuple" => some true
 | _, _ => none
theorem isiV_of {K : PySem.W.Frag} {H : Hp} {Z : Zone} {v : V} {ty : String} {b : Bool} (i : In K H Z d v) (h : isiD d ty = some b) : IsiV K H v ty b := by
 unfold isiD at h
 split at h <;> first
  | (cases h; done)
  | (cases h; rw [in_bl.mp i]; exact .bb _)
  | (cases h; rw [in_bl.mp i]; exact .bi _)
  | (cases h; rw [in_int.mp i]; exact .ii _)
  | (cases h; rw [in_int.mp i]; exact .ib _)
  | (cases h; rw [in_str.mp i]; exact .ss _)
  | (cases h; obtain ⟨a, xs, rfl, at', _⟩ := in_lst.mp i; exact .ll at'.sq)
  | (cases h; obtain ⟨a, xs, rfl, at', _⟩ := in_tupS i; exact .tt at')
theorem e_isi {ty : String} {tn : Str} {p2 : Pos} {b : Bool} (ha : E X m1 ρ a d) (h : isiD d ty = some b) (hv : bootBuiltins tn = some (.type ty)) (hm : X.mg "isinstance" = none) (hm2 : X.mg tn = none) (hg : Gl X "isinstance" := by rfl) (hg2 : Gl X tn := by rfl)
 (hs : starEach [a, .Name tn p2] X.env = [(false, eval a X.env), (false, eval (.Name tn p2) X.env)] := by rfl) (hs2 : starEach [.Name tn p2] X.env = [(false, eval (.Name tn p2) X.env)] := by rfl) (hn : tn ≠ "__name__" := by decide) (hdb : (tn == ("__debug__" : Str)) = false := by decide) :
 E X true ρ (.Call (.Name "isinstance" p) [a, .Name tn p2] [] pos) (.bl b) :=
 PE.mono (pe_callB call_isinst hg hm boot_isinstance (pa_cons ha (pa_cons (pe_bltn (v := .ty ty) hg2 hm2 hv rfl hn hdb) pa_nil (by rw [hs2]; rfl)) (by rw [hs, hs2])) (by decide) (by decide) (by rw [hs, hs2]) (by rw [hs2]; rfl)) fun σ H Q z0 => el13 z0 fun Z oz en k => ⟨Z, oz, en, fun x H1 s1 i1 =>
  ⟨x, ty, b, rfl, isiV_of (i1.plain oz) h, k _ H1 s1 (in_bl.mpr rfl)⟩⟩
theorem ins_bls_inv {K : PySem.W.Frag} {H : Hp} {Z : Zone} : ∀ {bs : List Bool} {vs : List V}, Ins K H Z (bs.map D.bl) vs -> vs = bs.map V.bl
 | [], _, h => ins_nil.mp h
 | n :: ns, _, h => by
  obtain ⟨v, r, rfl, a, j⟩ := ins_cons.mp h
  rw [in_bl.mp a, ins_bls_inv j]; rfl
theorem e_all {bs : List Bool} (ha : E X m1 ρ a (.lst (bs.map D.bl))) (hh : X.A.handled = none) (hm : X.mg "all" = none) (hg : Gl X "all" := by rfl) (hs : starEach [a] X.env = [(false, eval a X.env)] := by rfl) : E X true ρ (.Call (.Name "all" p) [a] [] pos) (.bl (bs.all id)) :=
 PE.mono (pe_callB call_all hg hm boot_all (pa_cons ha pa_nil (by rw [hs]; rfl)) (by decide) (by decide) (by rw [hs]; rfl) rfl) fun σ H Q z0 => el13 z0 fun Z oz en k => ⟨Z, oz, en, fun x H1 s1 i1 => by
  obtain ⟨l, xs, rfl, at', j⟩ := in_lst.mp (i1.plain oz)
  rw [ins_bls_inv j] at at'
  exact ⟨hh, l, bs, rfl, at'.sq, k _ H1 s1 (in_bl.mpr rfl)⟩⟩
end
def keq : Key -> D -> Bool
 | .inl a, .int b => a == b
 | .inl a, .bl b => a == (if b then 1 else 0)
 | .inr a, .str b => a == b
 | _, _ => false
def keqs : List Key -> List D -> Bool
 | [], [] => true
 | k :: ks, d :: ds => keq k d && keqs ks ds
 | _, _ => false
mutual
def deq : D -> D -> Bool
 | .non, .non => true
 | .bl a, .bl b => a == b
 | .bl a, .int b => (if a then 1 else 0) == b
 | .int a, .bl b => a == (if b then 1 else 0)
 | .int a, .int b => a == b
 | .str a, .str b => a == b
 | .lst a, .lst b => deqs a b
 | .tup a, .tup b => deqs a b
 | .tup a, .ktup ks => deqs a (ks.map kD)
 | .dct _, .dct _ => true
 | .ktup ks, .tup b => keqs ks b
 | .ktup ks, .ktup ks' => keqs ks (ks'.map kD)
 | _, _ => false
def deqs : List D -> List D -> Bool
 | [], [] => true
 | a :: as, b :: bs => deq a b && deqs as bs
 | _, _ => false
end
mutual
def D.dep : D -> Nat
 | .lst ds => deps ds + 1
 | .tup ds => deps ds + 1
 | .dct _ => 100000
 | .ktup _ => 1
 | _ => 0
def deps : List D -> Nat
 | [] => 0
 | d :: ds => max d.dep (deps ds)
end
theorem deps_mem : ∀ {ds : List D} {d : D}, d ∈ ds -> d.dep <= deps ds
 | [], _, h => by simp at h
 | e :: ds, d, h => by
  unfold deps
  rcases List.mem_cons.mp h with rfl | h
  · exact Nat.le_max_left _ _
  · exact Nat.le_trans (deps_mem h) (Nat.le_max_right _ _)
theorem keqs_refl : ∀ ks : List Key, keqs ks (ks.map kD) = true
 | [] => rfl
 | .inl a :: ks => by simp [keqs, keq, kD, keqs_refl ks]
 | .inr a :: ks => by simp [keqs, keq, kD, keqs_refl ks]
mutual
theorem deq_refl : ∀ d : D, deq d d = true
 | .non => by simp [deq]
 | .bl _ => by simp [deq]
 | .int _ => by simp [deq]
 | .str _ => by simp [deq]
 | .lst ds => by simp [deq, deqs_refl ds]
 | .tup ds => by simp [deq, deqs_refl ds]
 | .dct _ => by simp [deq]
 | .ktup ks => by simp only [deq]; exact keqs_refl ks
theorem deqs_refl : ∀ ds : List D, deqs ds ds = true
 | [] => by simp [deqs]
 | d :: ds => by simp [deqs, deq_refl d, deqs_refl ds]
end
theorem deqs_range : ∀ (ds es : List D), ((List.range (min ds.length es.length)).all (fun j => deq (ds.getD j .non) (es.getD j .non)) && ds.length == es.length) = deqs ds es
 | [], [] => by simp [deqs]
 | [], _ :: _ => by simp [deqs]
 | _ :: _, [] => by simp [deqs]
 | a :: as, b :: bs => by
  have ih := deqs_range as bs
  rw [deqs, <- ih]
  have hm : min (a :: as).length (b :: bs).length = min as.length bs.length + 1 := by simp <;> omega
  rw [hm, List.range_succ_eq_map, List.all_cons, List.all_map]
  simp [Function.comp_def, Bool.and_assoc]
section
variable {X : Cx} {pins : List (Addr × Obj)} {σ : St} {H : Hp} {s : Shared} {Z Z' : Zone}
theorem dct_at {a : Addr} {o : DO} (I : Inv X pins σ H s) (h : H a = some o.ho) : DEq.IsDct s.heap a := by
 cases o with
 | k kvs =>
  obtain ⟨_, _, vs, _, ⟨cls, dd, data, sl⟩, es, ep, h1, h2, h3, _⟩ := dk_of I.hok h
  have hc : cls = .type "dict" := h2.1
  have hd : data = .dict es ep := h3
  subst hc hd
  exact ⟨dd, es, ep, sl, h1⟩
 | t kvs =>
  obtain ⟨_, _, vs, _, ⟨cls, dd, data, sl⟩, es, ep, h1, h2, h3, _⟩ := dt_of I.hok h
  have hc : cls = .type "dict" := h2.1
  have hd : data = .dict es ep := h3
  subst hc hd
  exact ⟨dd, es, ep, sl, h1⟩
theorem kfree {a : Addr} {ks : List Key} (I : Inv X pins σ H s) (h : KTup X.K a ks) : H a = none := by
 obtain ⟨o, _, _, hk, _⟩ := h
 exact (I.bs a o (I.mod.kin a o hk)).2
theorem sq_not_dct {a : Addr} {xs : List V} {o : DO} (I : Inv X pins σ H s) (h : SqL X.K H a xs) (h' : H a = some o.ho) : False := by
 obtain ⟨_, _, ⟨ob, n, e, c, _⟩, _⟩ := I.list h
 obtain ⟨dd, es, ep, sl, e'⟩ := dct_at I h'
 rw [e] at e'
 cases e'
 exact absurd c (by simp)
theorem lst_not_tup {a : Addr} {xs ys : List V} (I : Inv X pins σ H s) (h : SqL X.K H a xs) (h' : SqT X.K H a ys) : False := by
 obtain ⟨_, _, ⟨o, n, e, c, _⟩, _⟩ := I.list h
 obtain ⟨_, _, ⟨o', e', c', _⟩, _⟩ := I.tuple h'
 rw [e] at e'; cases e'
 rw [c] at c'
 exact absurd c' (by decide)
mutual
theorem In.inj (I : Inv X pins σ H s) : ∀ {d d' : D} {v : V}, In X.K H Z d v -> In X.K H Z' d' v -> d = d'
 | .non, d', v, h, h' => by
  rw [in_non.mp h] at h'
  cases d' with
  | non => rfl
  | bl b => cases in_bl.mp h'
  | int b => cases in_int.mp h'
  | str b => cases in_str.mp h'
  | lst b => obtain ⟨_, _, e, _⟩ := in_lst.mp h'; cases e
  | tup b => obtain ⟨_, _, e, _⟩ := in_tupS h'; cases e
  | dct b => obtain ⟨_, e, _⟩ := in_dct.mp h'; cases e
  | ktup b => obtain ⟨_, e, _⟩ := in_ktup.mp h'; cases e
 | .bl x, d', v, h, h' => by
  rw [in_bl.mp h] at h'
  cases d' with
  | non => cases in_non.mp h'
  | bl b => cases in_bl.mp h'; rfl
  | int b => cases in_int.mp h'
  | str b => cases in_str.mp h'
  | lst b => obtain ⟨_, _, e, _⟩ := in_lst.mp h'; cases e
  | tup b => obtain ⟨_, _, e, _⟩ := in_tupS h'; cases e
  | dct b => obtain ⟨_, e, _⟩ := in_dct.mp h'; cases e
  | ktup b => obtain ⟨_, e, _⟩ := in_ktup.mp h'; cases e
 | .int x, d', v, h, h' => by
  rw [in_int.mp h] at h'
  cases d' with
  | non => cases in_non.mp h'
  | bl b => cases in_bl.mp h'
  | int b => cases in_int.mp h'; rfl
  | str b => cases in_str.mp h'
  | lst b => obtain ⟨_, _, e, _⟩ := in_lst.mp h'; cases e
  | tup b => obtain ⟨_, _, e, _⟩ := in_tupS h'; cases e
  | dct b => obtain ⟨_, e, _⟩ := in_dct.mp h'; cases e
  | ktup b => obtain ⟨_, e, _⟩ := in_ktup.mp h'; cases e
 | .str x, d', v, h, h' => by
  rw [in_str.mp h] at h'
  cases d' with
  | non => cases in_non.mp h'
  | bl b => cases in_bl.mp h'
  | int b => cases in_int.mp h'
  | str b => cases in_str.mp h'; rfl
  | lst b => obtain ⟨_, _, e, _⟩ := in_lst.mp h'; cases e
  | tup b => obtain ⟨_, _, e, _⟩ := in_tupS h'; cases e
  | dct b => obtain ⟨_, e, _⟩ := in_dct.mp h'; cases e
  | ktup b => obtain ⟨_, e, _⟩ := in_ktup.mp h'; cases e
 | .lst ds, d', v, h, h' => by
  obtain ⟨a, xs, rfl, l, j⟩ := in_lst.mp h
  cases d' with
  | non => cases in_non.mp h'
  | bl b => cases in_bl.mp h'
  | int b => cases in_int.mp h'
  | str b => cases in_str.mp h'
  | lst es =>
   obtain ⟨_, ys, e, l', j'⟩ := in_lst.mp h'
   cases e
   have := I.list_inj l.sq l'.sq
   subst this
   rw [Ins.inj I j j']
  | tup es =>
   obtain ⟨_, ys, e, l', j'⟩ := in_tupS h'
   cases e
   exact (lst_not_tup I l.sq l').elim
  | dct o =>
   obtain ⟨_, e, l', _⟩ := in_dct.mp h'
   cases e
   exact (sq_not_dct I l.sq l').elim
  | ktup ks =>
   obtain ⟨_, e, l'⟩ := in_ktup.mp h'
   cases e
   exact (lst_not_tup I l.sq l'.sq).elim
 | .tup ds, d', v, h, h' => by
  obtain ⟨a, xs, rfl, l, j⟩ := in_tupS h
  cases d' with
  | non => cases in_non.mp h'
  | bl b => cases in_bl.mp h'
  | int b => cases in_int.mp h'
  | str b => cases in_str.mp h'
  | lst es =>
   obtain ⟨_, ys, e, l', j'⟩ := in_lst.mp h'
   cases e
   exact (lst_not_tup I l'.sq l).elim
  | tup es =>
   obtain ⟨_, ys, e, l', j'⟩ := in_tupS h'
   cases e
   have := I.tuple_inj l l'
   subst this
   rw [Ins.inj I j j']
  | dct o =>
   obtain ⟨_, e, l', _⟩ := in_dct.mp h'
   cases e
   obtain ⟨_, _, e, l, _⟩ := in_tup.mp h
   cases e
   rw [l] at l'
   exact ((MO.d o).ntup (Option.some.inj l').symm).elim
  | ktup ks =>
   obtain ⟨_, e, l'⟩ := in_ktup.mp h'
   cases e
   obtain ⟨_, _, e, l, _⟩ := in_tup.mp h
   cases e
   rw [kfree I l'] at l
   cases l
 | .ktup ks, d', v, h, h' => by
  obtain ⟨a, rfl, l⟩ := in_ktup.mp h
  cases d' with
  | non => cases in_non.mp h'
  | bl b => cases in_bl.mp h'
  | int b => cases in_int.mp h'
  | str b => cases in_str.mp h'
  | lst es =>
   obtain ⟨_, ys, e, l', _⟩ := in_lst.mp h'
   cases e
   exact (lst_not_tup I l'.sq l.sq).elim
  | tup es =>
   obtain ⟨_, ys, e, l', _⟩ := in_tup.mp h'
   cases e
   rw [kfree I l] at l'
   cases l'
  | dct o =>
   obtain ⟨_, e, l', _⟩ := in_dct.mp h'
   cases e
   rw [kfree I l] at l'
   cases l'
  | ktup ks' =>
   obtain ⟨_, e, l'⟩ := in_ktup.mp h'
   cases e
   rw [kVs_inj (I.tuple_inj (l.sq (H := H)) (l'.sq (H := H)))]
 | .dct o, d', v, h, h' => by
  obtain ⟨a, rfl, l, _⟩ := in_dct.mp h
  cases d' with
  | non => cases in_non.mp h'
  | bl b => cases in_bl.mp h'
  | int b => cases in_int.mp h'
  | str b => cases in_str.mp h'
  | lst es =>
   obtain ⟨_, ys, e, l', _⟩ := in_lst.mp h'
   cases e
   exact (sq_not_dct I l'.sq l).elim
  | tup es =>
   obtain ⟨_, ys, e, l', _⟩ := in_tup.mp h'
   cases e
   rw [l'] at l
   exact ((MO.d o).ntup (Option.some.inj l).symm).elim
  | dct o' =>
   obtain ⟨_, e, l', _⟩ := in_dct.mp h'
   cases e
   rw [l] at l'
   rw [DO.inj (Option.some.inj l')]
  | ktup ks =>
   obtain ⟨_, e, l'⟩ := in_ktup.mp h'
   cases e
   rw [kfree I l'] at l
   cases l
theorem Ins.inj (I : Inv X pins σ H s) : ∀ {ds ds' : List D} {vs : List V}, Ins X.K H Z ds vs -> Ins X.K H Z' ds' vs -> ds = ds'
 | [], ds', _, h, h' => by
  rw [ins_nil.mp h] at h'
  cases ds' with
  | nil => rfl
  | cons d ds => obtain ⟨_, _, e, _⟩ := ins_cons.mp h'; cases e
 | d :: ds, ds', _, h, h' => by
  obtain ⟨v, r, rfl, i, j⟩ := ins_cons.mp h
  cases ds' with
  | nil => cases ins_nil.mp h'
  | cons d' ds' =>
   obtain ⟨v', r', e, i', j'⟩ := ins_cons.mp h'
   cases e
   rw [In.inj I i i', Ins.inj I j j']
end
theorem keqs_is : ∀ (ks : List Key) (ds : List D), keqs ks ds = deqs (ks.map kD) ds
 | [], [] => by simp [keqs, deqs]
 | [], _ :: _ => by simp [keqs, deqs]
 | _ :: _, [] => by simp [keqs, deqs]
 | .inl a :: ks, d :: ds => by
  simp only [keqs, List.map_cons, deqs, kD]
  rw [keqs_is ks ds]
  cases d <;> simp [keq, deq]
 | .inr a :: ks, d :: ds => by
  simp only [keqs, List.map_cons, deqs, kD]
  rw [keqs_is ks ds]
  cases d <;> simp [keq, deq]
theorem deps_kD : ∀ ks : List Key, deps (ks.map kD) = 0
 | [] => by simp [deps]
 | .inl a :: ks => by simp [deps, kD, D.dep, deps_kD ks]
 | .inr a :: ks => by simp [deps, kD, D.dep, deps_kD ks]
open PySem.SeqAt in
theorem eqAt_D (I : Inv X pins σ H s) : ∀ (n : Nat) {A : Around} {d d' : D} {v v' : V} {u u' : Value}, In X.K H Z d v -> In X.K H Z' d' v' -> RelV v u -> RelV v' u' -> d.dep <= n -> A.units + n < cLine -> EqAt A s u u' (deq d d') := by
 intro n
 induction n with
 | zero =>
  intro A d d' v v' u u' i i' r r' hd hu
  have hu0 : A.units < cLine := by omega
  have key : ∀ {x : V}, flatV x = true -> v = x -> (∀ y, In X.K H Z' d' y -> RelV y u' -> EqAt A s u u' (deq d d')) -> EqAt A s u u' (deq d d') := fun _ _ h => h v' i' r'
  cases d with
  | lst ds => unfold D.dep at hd; omega
  | tup ds => unfold D.dep at hd; omega
  | dct o => unfold D.dep at hd; omega
  | ktup o => unfold D.dep at hd; omega
  | non =>
   cases in_non.mp i; cases r
   cases d' with
   | non => cases in_non.mp i'; cases r'; simp only [deq]; exact EqAt.same _
   | bl b => cases in_bl.mp i'; cases r'; simp only [deq]; exact EqAt.none_bool b
   | int b => cases in_int.mp i'; obtain ⟨t, rfl⟩ := r'; simp only [deq]; exact EqAt.none_int b t
   | str b => cases in_str.mp i'; obtain ⟨t, rfl⟩ := r'; simp only [deq]; exact EqAt.none_str b t
   | lst b => obtain ⟨a, xs, rfl, l, j⟩ := in_lst.mp i'; cases r'; obtain ⟨its, _, pl, _⟩ := I.list l.sq; simp only [deq]; exact EqAt.none_list pl.isList hu0
   | tup b => obtain ⟨a, xs, rfl, l, j⟩ := in_tupS i'; cases r'; obtain ⟨its, _, pl, _⟩ := I.tuple l; simp only [deq]; exact EqAt.none_tuple pl hu0
   | dct b => obtain ⟨a, rfl, l, _⟩ := in_dct.mp i'; cases r'; simp only [deq]; exact DEq.at_none (dct_at I l) hu0
   | ktup b => obtain ⟨a, rfl, l⟩ := in_ktup.mp i'; cases r'; obtain ⟨its, _, pl, _⟩ := I.tuple (l.sq (H := H)); simp only [deq]; exact EqAt.none_tuple pl hu0
  | bl x =>
   cases in_bl.mp i; cases r
   cases d' with
   | non => cases in_non.mp i'; cases r'; simp only [deq]; exact EqAt.bool_none x
   | bl b => cases in_bl.mp i'; cases r'; simp only [deq]; exact EqAt.bool_bool x b
   | int b => cases in_int.mp i'; obtain ⟨t, rfl⟩ := r'; simp only [deq]; exact EqAt.bool_int x b t
   | str b => cases in_str.mp i'; obtain ⟨t, rfl⟩ := r'; simp only [deq]; exact EqAt.bool_str x b t
   | lst b => obtain ⟨a, xs, rfl, l, j⟩ := in_lst.mp i'; cases r'; obtain ⟨its, _, pl, _⟩ := I.list l.sq; simp only [deq]; exact EqAt.bool_list x pl.isList hu0
   | tup b => obtain ⟨a, xs, rfl, l, j⟩ := in_tupS i'; cases r'; obtain ⟨its, _, pl, _⟩ := I.tuple l; simp only [deq]; exact EqAt.bool_tuple x pl hu0
   | dct b => obtain ⟨a, rfl, l, _⟩ := in_dct.mp i'; cases r'; simp only [deq]; exact DEq.at_bool x (dct_at I l) hu0
   | ktup b => obtain ⟨a, rfl, l⟩ := in_ktup.mp i'; cases r'; obtain ⟨its, _, pl, _⟩ := I.tuple (l.sq (H := H)); simp only [deq]; exact EqAt.bool_tuple x pl hu0
  | int x =>
   cases in_int.mp i; obtain ⟨t0, rfl⟩ := r
   cases d' with
   | non => cases in_non.mp i'; cases r'; simp only [deq]; exact EqAt.int_none x t0
   | bl b => cases in_bl.mp i'; cases r'; simp only [deq]; exact EqAt.int_bool x t0 b
   | int b => cases in_int.mp i'; obtain ⟨t, rfl⟩ := r'; simp only [deq]; exact EqAt.int_int x t0 b t
   | str b => cases in_str.mp i'; obtain ⟨t, rfl⟩ := r'; simp only [deq]; exact EqAt.int_str x t0 b t
   | lst b => obtain ⟨a, xs, rfl, l, j⟩ := in_lst.mp i'; cases r'; obtain ⟨its, _, pl, _⟩ := I.list l.sq; simp only [deq]; exact EqAt.int_list x t0 pl.isList hu0
   | tup b => obtain ⟨a, xs, rfl, l, j⟩ := in_tupS i'; cases r'; obtain ⟨its, _, pl, _⟩ := I.tuple l; simp only [deq]; exact EqAt.int_tuple x t0 pl hu0
   | dct b => obtain ⟨a, rfl, l, _⟩ := in_dct.mp i'; cases r'; simp only [deq]; exact DEq.at_int x t0 (dct_at I l) hu0
   | ktup b => obtain ⟨a, rfl, l⟩ := in_ktup.mp i'; cases r'; obtain ⟨its, _, pl, _⟩ := I.tuple (l.sq (H := H)); simp only [deq]; exact EqAt.int_tuple x t0 pl hu0
  | str x =>
   cases in_str.mp i; obtain ⟨t0, rfl⟩ := r
   cases d' with
   | non => cases in_non.mp i'; cases r'; simp only [deq]; exact EqAt.str_none x t0
   | bl b => cases in_bl.mp i'; cases r'; simp only [deq]; exact EqAt.str_bool x t0 b
   | int b => cases in_int.mp i'; obtain ⟨t, rfl⟩ := r'; simp only [deq]; exact EqAt.str_int x t0 b t
   | str b => cases in_str.mp i'; obtain ⟨t, rfl⟩ := r'; simp only [deq]; exact EqAt.str_str x t0 b t
   | lst b => obtain ⟨a, xs, rfl, l, j⟩ := in_lst.mp i'; cases r'; obtain ⟨its, _, pl, _⟩ := I.list l.sq; simp only [deq]; exact EqAt.str_list x t0 pl.isList hu0
   | tup b => obtain ⟨a, xs, rfl, l, j⟩ := in_tupS i'; cases r'; obtain ⟨its, _, pl, _⟩ := I.tuple l; simp only [deq]; exact EqAt.str_tuple x t0 pl hu0
   | dct b => obtain ⟨a, rfl, l, _⟩ := in_dct.mp i'; cases r'; simp only [deq]; exact DEq.at_str x t0 (dct_at I l) hu0
   | ktup b => obtain ⟨a, rfl, l⟩ := in_ktup.mp i'; cases r'; obtain ⟨its, _, pl, _⟩ := I.tuple (l.sq (H := H)); simp only [deq]; exact EqAt.str_tuple x t0 pl hu0
 | succ n ih =>
  intro A d d' v v' u u' i i' r r' hd hu
  have hu0 : A.units < cLine := by omega
  have hu1 : A.in1.units + n < cLine := by show A.units + 1 + n < cLine; omega
  have small : d.dep <= n -> EqAt A s u u' (deq d d') := fun h => ih i i' r r' h (by omega)
  -- the items, one by one
  have items : ∀ {ds es : List D} {xs ys : List V} {its its2 : List Value}, deps ds <= n -> Ins X.K H Z ds xs -> Ins X.K H Z' es ys -> Vals xs its -> Vals ys its2 -> ∀ j (h1 : j < its.toArray.size) (h2 : j < its2.toArray.size),
   EqAt A.in1 s its.toArray[j] its2.toArray[j] (deq (ds.getD j .non) (es.getD j .non)) := fun {ds es xs ys its its2} hdn jx jy rx ry j h1 h2 => by
   have z1 := jx.length; have z2 := jy.length; have z3 := rx.length; have z4 := ry.length
   simp at h1 h2
   have hj1 : j < ds.length := by omega
   have hj2 : j < es.length := by omega
   obtain ⟨x, ex, ix⟩ := jx.get (i := j) (d := ds[j]) (by simp [hj1])
   obtain ⟨y, ey, iy⟩ := jy.get (i := j) (d := es[j]) (by simp [hj2])
   obtain ⟨w1, f1, q1⟩ := rx.get ex
   obtain ⟨w2, f2, q2⟩ := ry.get ey
   have g1 : its.toArray[j] = w1 := by
    have := (List.getElem?_eq_some_iff.mp f1).2
    simpa using this
   have g2 : its2.toArray[j] = w2 := by
    have := (List.getElem?_eq_some_iff.mp f2).2
    simpa using this
   rw [g1, g2]
   have e1 : ds.getD j .non = ds[j] := by simp [hj1]
   have e2 : es.getD j .non = es[j] := by simp [hj2]
   rw [e1, e2]
   exact ih ix iy q1 q2 (Nat.le_trans (deps_mem (List.getElem_mem hj1)) hdn) hu1
  cases d with
  | non => exact small (by simp [D.dep])
  | bl x => exact small (by simp [D.dep])
  | int x => exact small (by simp [D.dep])
  | str x => exact small (by simp [D.dep])
  | dct o => exact absurd hu (by unfold D.dep at hd; have : cLine = 9900 := rfl; omega)
  | ktup ks0 =>
   obtain ⟨a, rfl, l⟩ := in_ktup.mp i
   cases r
   obtain ⟨its, rx, pl, _⟩ := I.tuple (l.sq (H := H))
   have j : Ins X.K H Z (ks0.map kD) (ks0.map kV) := ins_kV ks0
   have hdn : deps (ks0.map kD) <= n := by rw [deps_kD]; exact Nat.zero_le _
   cases d' with
   | non => cases in_non.mp i'; cases r'; simp only [deq]; exact EqAt.tuple_none pl hu0
   | bl b => cases in_bl.mp i'; cases r'; simp only [deq]; exact EqAt.tuple_bool b pl hu0
   | int b => cases in_int.mp i'; obtain ⟨t, rfl⟩ := r'; simp only [deq]; exact EqAt.tuple_int b t pl hu0
   | str b => cases in_str.mp i'; obtain ⟨t, rfl⟩ := r'; simp only [deq]; exact EqAt.tuple_str b t pl hu0
   | lst es => obtain ⟨a', ys, rfl, l', j'⟩ := in_lst.mp i'; cases r'; obtain ⟨its2, _, pl2, _⟩ := I.list l'.sq; simp only [deq]; exact EqAt.tuple_list pl pl2.isList hu0
   | dct b => obtain ⟨a', rfl, l', _⟩ := in_dct.mp i'; cases r'; simp only [deq]; exact DEq.at_tuple pl (dct_at I l') hu0
   | ktup ks =>
    obtain ⟨a', rfl, l'⟩ := in_ktup.mp i'
    cases r'
    obtain ⟨its2, ry, pl2, _⟩ := I.tuple (l'.sq (H := H))
    by_cases haa : a = a'
    · subst haa
      have e : D.ktup ks0 = D.ktup ks := In.inj I i i'
      rw [e, deq_refl]
      exact EqAt.same _
    have j' : Ins X.K H Z' (ks.map kD) (ks.map kV) := ins_kV ks
    refine EqAt.of_refs haa ?_
    have z1 := j.length; have z2 := j'.length; have z3 := rx.length; have z4 := ry.length
    simp only [deq]
    rw [keqs_is, <- deqs_range]
    have := RcAt.tuples (e := fun k => deq ((ks0.map kD).getD k .non) ((ks.map kD).getD k .non)) pl pl2 hu0 (items hdn j j' rx ry)
    have e1 : its.toArray.size = (ks0.map kD).length := by simp at z1 z3 ⊢; omega
    have e2 : its2.toArray.size = (ks.map kD).length := by simp at z2 z4 ⊢; omega
    rw [e1, e2] at this
    exact this
   | tup es =>
    obtain ⟨a', ys, rfl, l', j'⟩ := in_tupS i'
    cases r'
    obtain ⟨its2, ry, pl2, _⟩ := I.tuple l'
    have haa : a ≠ a' := fun z => by
     subst z
     obtain ⟨_, _, e, lt, _⟩ := in_tup.mp i'
     cases e
     rw [kfree I l] at lt
     cases lt
    refine EqAt.of_refs haa ?_
    have z1 := j.length; have z2 := j'.length; have z3 := rx.length; have z4 := ry.length
    simp only [deq]
    rw [keqs_is, <- deqs_range]
    have := RcAt.tuples (e := fun k => deq ((ks0.map kD).getD k .non) (es.getD k .non)) pl pl2 hu0 (items hdn j j' rx ry)
    have e1 : its.toArray.size = (ks0.map kD).length := by simp at z1 z3 ⊢; omega
    have e2 : its2.toArray.size = es.length := by simp at z2 z4 ⊢; omega
    rw [e1, e2] at this
    exact this
  | lst ds =>
   have hdn : deps ds <= n := by unfold D.dep at hd; omega
   obtain ⟨a, xs, rfl, l, j⟩ := in_lst.mp i
   cases r
   obtain ⟨its, rx, pl, _⟩ := I.list l.sq
   cases d' with
   | non => cases in_non.mp i'; cases r'; simp only [deq]; exact EqAt.list_none pl.isList hu0
   | bl b => cases in_bl.mp i'; cases r'; simp only [deq]; exact EqAt.list_bool b pl.isList hu0
   | int b => cases in_int.mp i'; obtain ⟨t, rfl⟩ := r'; simp only [deq]; exact EqAt.list_int b t pl.isList hu0
   | str b => cases in_str.mp i'; obtain ⟨t, rfl⟩ := r'; simp only [deq]; exact EqAt.list_str b t pl.isList hu0
   | tup es => obtain ⟨a', ys, rfl, l', j'⟩ := in_tupS i'; cases r'; obtain ⟨its2, _, pl2, _⟩ := I.tuple l'; simp only [deq]; exact EqAt.list_tuple pl.isList pl2 hu0
   | dct b => obtain ⟨a', rfl, l', _⟩ := in_dct.mp i'; cases r'; simp only [deq]; exact DEq.at_list pl.isList (dct_at I l') hu0
   | ktup b => obtain ⟨a', rfl, l'⟩ := in_ktup.mp i'; cases r'; obtain ⟨its2, _, pl2, _⟩ := I.tuple (l'.sq (H := H)); simp only [deq]; exact EqAt.list_tuple pl.isList pl2 hu0
   | lst es =>
    obtain ⟨a', ys, rfl, l', j'⟩ := in_lst.mp i'
    cases r'
    obtain ⟨its2, ry, pl2, _⟩ := I.list l'.sq
    by_cases haa : a = a'
    · subst haa
      have e : D.lst ds = D.lst es := In.inj I i i'
      rw [e, deq_refl]
      exact EqAt.same _
    · refine EqAt.of_refs haa ?_
      have z1 := j.length; have z2 := j'.length; have z3 := rx.length; have z4 := ry.length
      simp only [deq]
      rw [<- deqs_range]
      by_cases hsz : its.toArray.size = its2.toArray.size
      · have := RcAt.lists (e := fun k => deq (ds.getD k .non) (es.getD k .non)) pl.isList pl2.isList hsz hu0 (items hdn j j' rx ry)
        have e1 : its.toArray.size = min ds.length es.length := by simp at hsz ⊢; omega
        have e2 : (ds.length == es.length) = true := by simp at hsz ⊢; omega
        rw [e1] at this
        rw [e2, Bool.and_true]
        exact this
      · have e2 : (ds.length == es.length) = false := by simp at hsz ⊢; omega
        rw [e2, Bool.and_false]
        exact RcAt.lists_lengths pl.isList pl2.isList (by simpa using hsz) hu0
  | tup ds =>
   have hdn : deps ds <= n := by unfold D.dep at hd; omega
   obtain ⟨a, xs, rfl, l, j⟩ := in_tupS i
   cases r
   obtain ⟨its, rx, pl, _⟩ := I.tuple l
   cases d' with
   | non => cases in_non.mp i'; cases r'; simp only [deq]; exact EqAt.tuple_none pl hu0
   | bl b => cases in_bl.mp i'; cases r'; simp only [deq]; exact EqAt.tuple_bool b pl hu0
   | int b => cases in_int.mp i'; obtain ⟨t, rfl⟩ := r'; simp only [deq]; exact EqAt.tuple_int b t pl hu0
   | str b => cases in_str.mp i'; obtain ⟨t, rfl⟩ := r'; simp only [deq]; exact EqAt.tuple_str b t pl hu0
   | lst es => obtain ⟨a', ys, rfl, l', j'⟩ := in_lst.mp i'; cases r'; obtain ⟨its2, _, pl2, _⟩ := I.list l'.sq; simp only [deq]; exact EqAt.tuple_list pl pl2.isList hu0
   | dct b => obtain ⟨a', rfl, l', _⟩ := in_dct.mp i'; cases r'; simp only [deq]; exact DEq.at_tuple pl (dct_at I l') hu0
   | ktup ks =>
    obtain ⟨a', rfl, l'⟩ := in_ktup.mp i'
    cases r'
    obtain ⟨its2, ry, pl2, _⟩ := I.tuple (l'.sq (H := H))
    have j' : Ins X.K H Z' (ks.map kD) (ks.map kV) := ins_kV ks
    have haa : a ≠ a' := fun z => by
     subst z
     obtain ⟨_, _, e, lt, _⟩ := in_tup.mp i
     cases e
     rw [kfree I l'] at lt
     cases lt
    refine EqAt.of_refs haa ?_
    have z1 := j.length; have z2 := j'.length; have z3 := rx.length; have z4 := ry.length
    simp only [deq]
    rw [<- deqs_range]
    have := RcAt.tuples (e := fun k => deq (ds.getD k .non) ((ks.map kD).getD k .non)) pl pl2 hu0 (items hdn j j' rx ry)
    have e1 : its.toArray.size = ds.length := by simp; omega
    have e2 : its2.toArray.size = (ks.map kD).length := by simp at z2 z4 ⊢; omega
    rw [e1, e2] at this
    exact this
   | tup es =>
    obtain ⟨a', ys, rfl, l', j'⟩ := in_tupS i'
    cases r'
    obtain ⟨its2, ry, pl2, _⟩ := I.tuple l'
    by_cases haa : a = a'
    · subst haa
      have e : D.tup ds = D.tup es := In.inj I i i'
      rw [e, deq_refl]
      exact EqAt.same _
    · refine EqAt.of_refs haa ?_
      have z1 := j.length; have z2 := j'.length; have z3 := rx.length; have z4 := ry.length
      simp only [deq]
      rw [<- deqs_range]
      have := RcAt.tuples (e := fun k => deq (ds.getD k .non) (es.getD k .non)) pl pl2 hu0 (items hdn j j' rx ry)
      have e1 : its.toArray.size = ds.length := by simp; omega
      have e2 : its2.toArray.size = es.length := by simp; omega
      rw [e1, e2] at this
      exact this
end
section
variable {X : Cx}
open PySem.SeqAt
def pairD : D -> D -> Bool
 | .lst _, .lst _ => true
 | .tup _, .tup _ => true
 | _, _ => false
theorem op_eqD : OpR X (compareOp .Eq) (fun x y H Q => ∃ d d' Z Z', In X.K H Z d x ∧ In X.K H Z' d' y ∧ pairD d d' = true ∧ X.A.units + d.dep < cLine ∧ Q (.bl (deq d d')) H) := by
 intro pins s σ H x y v u Q I rx ry h
 obtain ⟨d, d', Z, Z', i, i', hp, hu, q⟩ := h
 have fin : EP X pins σ Q (.bool (deq d d')) s := ⟨.bl (deq d d'), H, I, rfl, q⟩
 have hu0 : X.A.units < cLine := by omega
 have items : ∀ {ds es : List D} {xs ys : List V} {its its2 : List Value}, deps ds < d.dep -> Ins X.K H Z ds xs -> Ins X.K H Z' es ys -> Vals xs its -> Vals ys its2 -> ∀ j (h1 : j < its.toArray.size) (h2 : j < its2.toArray.size),
  EqAt X.A.in1 s its.toArray[j] its2.toArray[j] (deq (ds.getD j .non) (es.getD j .non)) := fun {ds es xs ys its its2} hdn jx jy rx ry j h1 h2 => by
  have z1 := jx.length; have z2 := jy.length; have z3 := rx.length; have z4 := ry.length
  simp at h1 h2
  have hj1 : j < ds.length := by omega
  have hj2 : j < es.length := by omega
  obtain ⟨x, ex, ix⟩ := jx.get (i := j) (d := ds[j]) (by simp [hj1])
  obtain ⟨y, ey, iy⟩ := jy.get (i := j) (d := es[j]) (by simp [hj2])
  obtain ⟨w1, f1, q1⟩ := rx.get ex
  obtain ⟨w2, f2, q2⟩ := ry.get ey
  have g1 : its.toArray[j] = w1 := by
   have := (List.getElem?_eq_some_iff.mp f1).2
   simpa using this
  have g2 : its2.toArray[j] = w2 := by
   have := (List.getElem?_eq_some_iff.mp f2).2
   simpa using this
  rw [g1, g2]
  have e1 : ds.getD j .non = ds[j] := by simp [hj1]
  have e2 : es.getD j .non = es[j] := by simp [hj2]
  rw [e1, e2]
  exact eqAt_D I (d.dep - 1) ix iy q1 q2 (by have := deps_mem (List.getElem_mem hj1); omega) (by show X.A.units + 1 + (d.dep - 1) < cLine; omega)
 unfold pairD at hp
 split at hp
 · rename_i ds es
   obtain ⟨a, xs, rfl, l, j⟩ := in_lst.mp i
   obtain ⟨a', ys, rfl, l', j'⟩ := in_lst.mp i'
   cases rx; cases ry
   obtain ⟨its, rx, pl, _⟩ := I.list l.sq
   obtain ⟨its2, ry, pl2, _⟩ := I.list l'.sq
   have z1 := j.length; have z2 := j'.length; have z3 := rx.length; have z4 := ry.length
   simp only [deq] at fin
   rw [<- deqs_range] at fin
   by_cases hsz : its.toArray.size = its2.toArray.size
   · have e1 : its.toArray.size = min ds.length es.length := by simp at hsz ⊢; omega
     have e2 : (ds.length == es.length) = true := by simp at hsz ⊢; omega
     rw [e2, Bool.and_true, <- e1] at fin
     exact eq_listAt (e := fun k => deq (ds.getD k .non) (es.getD k .non)) pl.isList pl2.isList hsz hu0 (items (by simp [D.dep]) j j' rx ry) fin
   · have e2 : (ds.length == es.length) = false := by simp at hsz ⊢; omega
     rw [e2, Bool.and_false] at fin
     exact eq_list_lengthsAt pl.isList pl2.isList (by simpa using hsz) hu0 fin
 · rename_i ds es
   obtain ⟨a, xs, rfl, l, j⟩ := in_tupS i
   obtain ⟨a', ys, rfl, l', j'⟩ := in_tupS i'
   cases rx; cases ry
   obtain ⟨its, rx, pl, _⟩ := I.tuple l
   obtain ⟨its2, ry, pl2, _⟩ := I.tuple l'
   have z1 := j.length; have z2 := j'.length; have z3 := rx.length; have z4 := ry.length
   simp only [deq] at fin
   rw [<- deqs_range] at fin
   have e1 : its.toArray.size = ds.length := by simp; omega
   have e2 : its2.toArray.size = es.length := by simp; omega
   rw [<- e1, <- e2] at fin
   exact eq_tupleAt (e := fun k => deq (ds.getD k .non) (es.getD k .non)) pl pl2 hu0 (items (by simp [D.dep]) j j' rx ry) fin
 · cases hp
theorem op_neD : OpR X (compareOp .NotEq) (fun x y H Q => ∃ d d' Z Z', In X.K H Z d x ∧ In X.K H Z' d' y ∧ pairD d d' = true ∧ X.A.units + d.dep < cLine ∧ Q (.bl (!deq d d')) H) := by
 intro pins s σ H x y v u Q I rx ry h
 obtain ⟨d, d', Z, Z', i, i', hp, hu, q⟩ := h
 have fin : EP X pins σ Q (.bool (!deq d d')) s := ⟨.bl (!deq d d'), H, I, rfl, q⟩
 have hu0 : X.A.units < cLine := by omega
 have items : ∀ {ds es : List D} {xs ys : List V} {its its2 : List Value}, deps ds < d.dep -> Ins X.K H Z ds xs -> Ins X.K H Z' es ys -> Vals xs its -> Vals ys its2 -> ∀ j (h1 : j < its.toArray.size) (h2 : j < its2.toArray.size),
  EqAt X.A.in1 s its.toArray[j] its2.toArray[j] (deq (ds.getD j .non) (es.getD j .non)) := fun {ds es xs ys its its2} hdn jx jy rx ry j h1 h2 => by
  have z1 := jx.length; have z2 := jy.length; have z3 := rx.length; have z4 := ry.length
  simp at h1 h2
  have hj1 : j < ds.length := by omega
  have hj2 : j < es.length := by omega
  obtain ⟨x, ex, ix⟩ := jx.get (i := j) (d := ds[j]) (by simp [hj1])
  obtain ⟨y, ey, iy⟩ := jy.get (i := j) (d := es[j]) (by simp [hj2])
  obtain ⟨w1, f1, q1⟩ := rx.get ex
  obtain ⟨w2, f2, q2⟩ := ry.get ey
  have g1 : its.toArray[j] = w1 := by
   have := (List.getElem?_eq_some_iff.mp f1).2
   simpa using this
  have g2 : its2.toArray[j] = w2 := by
   have := (List.getElem?_eq_some_iff.mp f2).2
   simpa using this
  rw [g1, g2]
  have e1 : ds.getD j .non = ds[j] := by simp [hj1]
  have e2 : es.getD j .non = es[j] := by simp [hj2]
  rw [e1, e2]
  exact eqAt_D I (d.dep - 1) ix iy q1 q2 (by have := deps_mem (List.getElem_mem hj1); omega) (by show X.A.units + 1 + (d.dep - 1) < cLine; omega)
 unfold pairD at hp
 split at hp
 · rename_i ds es
   obtain ⟨a, xs, rfl, l, j⟩ := in_lst.mp i
   obtain ⟨a', ys, rfl, l', j'⟩ := in_lst.mp i'
   cases rx; cases ry
   obtain ⟨its, rx, pl, _⟩ := I.list l.sq
   obtain ⟨its2, ry, pl2, _⟩ := I.list l'.sq
   have z1 := j.length; have z2 := j'.length; have z3 := rx.length; have z4 := ry.length
   simp only [deq] at fin
   rw [<- deqs_range] at fin
   by_cases hsz : its.toArray.size = its2.toArray.size
   · have e1 : its.toArray.size = min ds.length es.length := by simp at hsz ⊢; omega
     have e2 : (ds.length == es.length) = true := by simp at hsz ⊢; omega
     rw [e2, Bool.and_true, <- e1] at fin
     exact RcNeAt.lists (e := fun k => deq (ds.getD k .non) (es.getD k .non)) pl.isList pl2.isList hsz hu0 (items (by simp [D.dep]) j j' rx ry) _ _ _ _ fin
   · have e2 : (ds.length == es.length) = false := by simp at hsz ⊢; omega
     rw [e2, Bool.and_false] at fin
     exact RcNeAt.lists_lengths pl.isList pl2.isList (by simpa using hsz) hu0 _ _ _ _ fin
 · rename_i ds es
   obtain ⟨a, xs, rfl, l, j⟩ := in_tupS i
   obtain ⟨a', ys, rfl, l', j'⟩ := in_tupS i'
   cases rx; cases ry
   obtain ⟨its, rx, pl, _⟩ := I.tuple l
   obtain ⟨its2, ry, pl2, _⟩ := I.tuple l'
   have z1 := j.length; have z2 := j'.length; have z3 := rx.length; have z4 := ry.length
   simp only [deq] at fin
   rw [<- deqs_range] at fin
   have e1 : its.toArray.size = ds.length := by simp; omega
   have e2 : its2.toArray.size = es.length := by simp; omega
   rw [<- e1, <- e2] at fin
   exact RcNeAt.tuples (e := fun k => deq (ds.getD k .non) (es.getD k .non)) pl pl2 hu0 (items (by simp [D.dep]) j j' rx ry) _ _ _ _ fin
 · cases hp
end
section
variable {X : Cx} {ρ : List (Option D)} {m1 m2 : Bool} {a b : Expr} {d d' : D} {pos : Pos}
theorem e_eqD (ha : E X m1 ρ a d) (hb : E X m2 ρ b d') (hp : pairD d d' = true) (hu : X.A.units + d.dep < cLine) : E X true ρ (.Compare a [.Eq] [b] pos) (.bl (deq d d')) :=
 e_cmp op_eqD ha hb (fun x y H Z Q _ i1 i2 k => ⟨d, d', Z, Z, i1, i2, hp, hu, k _ _ (Same.refl H) (in_bl.mpr rfl)⟩) (nomark _)
theorem t_eqD (ha : E X m1 ρ a d) (hb : E X m2 ρ b d') (hp : pairD d d' = true) (hu : X.A.units + d.dep < cLine) : T X ρ (.Compare a [.Eq] [b] pos) (deq d d') :=
 t_cmp op_eqD ha hb (fun x y H Z Q _ i1 i2 k => ⟨d, d', Z, Z, i1, i2, hp, hu, k _ (Same.refl H)⟩) (nomark _)
theorem t_neD (ha : E X m1 ρ a d) (hb : E X m2 ρ b d') (hp : pairD d d' = true) (hu : X.A.units + d.dep < cLine) : T X ρ (.Compare a [.NotEq] [b] pos) (!deq d d') :=
 t_cmp op_neD ha hb (fun x y H Z Q _ i1 i2 k => ⟨d, d', Z, Z, i1, i2, hp, hu, k _ (Same.refl H)⟩) (nomark _)
end
section
variable {X : Cx} {pins : List (Addr × Obj)} {σ : St} {H H' : Hp} {s : Shared} {h' : Heap}
theorem turnedL {t' : Nat} {ch : List Addr} (I : Inv X pins σ H s) (k : ∀ b o, b ∉ ch -> s.heap.get? b = some o -> h'.get? b = some o) (hf : ∀ b ∈ ch, FpOk X pins H b) : Inv X pins σ H { s with heap := h', toks := t' } := by
 have nit : ∀ b u, H b = some u -> b ∉ ch := fun b u e z => by rw [(hf b z).1] at e; cases e
 refine I.step (g' := s.gens) (d' := s.drawn) (ch := ch) (fun b hb => ⟨(hf b hb).2.2.2.1, (hf b hb).2.1, (hf b hb).2.2.2.2.1, (hf b hb).2.2.2.2.2⟩) (fun b o _ _ hc e _ => k b o hc e) (fun b o _ _ hc e _ => ⟨o.slots, k b o hc e⟩) (fun _ _ _ _ n => n)
  (fun b o hc e => ⟨o, k b o hc e⟩) (fun _ _ e => e) (fun _ _ _ e => e) (fun b ps e => ⟨#[], by rw [e]; simp⟩) (fun m hm => ?_) (fun b u e => ?_) I.bare
 · obtain ⟨o, es, ep, ho, r⟩ := hm
   exact ⟨o, es, ep, k _ o (fun z => (hf _ z).2.1 rfl) ho, r⟩
 · refine (I.hok b u e).stay (fun c v hc q => k c v ?_ q) (fun _ q => q) fun _ _ q => q
   rcases hc with z | z
   · rw [z]; exact nit b u e
   · exact nit c _ z
theorem track {a : Addr} {o : HO} (I : Inv X pins σ H s) (f : FpOk X pins H a) (ha : X.s₀.heap.objs.size <= a) (new : ObjOk X.prog X.w (upd H a o) s.heap a o) : Inv X pins σ (upd H a o) s := by
 have hn := f.1
 have ne0 : ∀ b ob, X.s₀.heap.get? b = some ob -> b ≠ a := fun b ob e => Nat.ne_of_lt (Nat.lt_of_lt_of_le (Heap.lt_size e) ha)
 refine ⟨I.ok, I.os, I.bare, ⟨I.base.keep, I.base.slot, fun b ob e n hx => ?_, I.base.there, fun b xs e => ?_, fun b ob u e => ?_, fun b ps e => ?_⟩, I.loc, I.cell, ?_, fun x c e => ?_, fun p hp => ?_, fun b u e => ?_, I.len⟩
 · rw [upd_ne (ne0 b ob e)]; exact I.base.free b ob e n hx
 · have := I.base.tups b xs e
   rw [upd_ne (ne_of_none this hn)]; exact this
 · have := I.base.frzs b ob u e
   rw [upd_ne (ne_of_none this hn)]; exact this
 · obtain ⟨m, e1⟩ := I.base.tbls b ps e
   exact ⟨m, by rw [upd_ne (ne_of_none e1 hn)]; exact e1⟩
 · rw [upd_ne (Ne.symm f.2.1)]; exact I.free
 · rw [upd_ne (f.2.2.2.2.1 x c e)]; exact I.freeC x c e
 · obtain ⟨h1, h2, h3, h4, h5⟩ := I.pin p hp
   exact ⟨h1, by rw [upd_ne (f.2.2.2.2.2 p hp)]; exact h2, h3, h4, h5⟩
 · by_cases hb : b = a
   · subst hb; rw [upd_same] at e; cases e; exact new
   · rw [upd_ne hb] at e
     exact (I.hok b u e).stay (fun c v _ q => q) (fun c q => by rw [upd_ne (ne_of_none q hn)]; exact q) fun c xs q => by rw [upd_ne (ne_of_none q hn)]; exact q
end
def Ite (K : PySem.W.Frag) (a : Addr) : It :=
 ⟨fun i H => ∃ xs x, SqL K H a xs ∧ xs[i]? = some x, fun i H y H' => ∃ p x, H p = none ∧ y = .ref p ∧ (∀ xs, SqL K H a xs -> xs[i]? = some x) ∧ H' = upd H p (.tup [.int i, x]), fun i H => ∃ xs, SqL K H a xs ∧ xs.length <= i⟩
theorem turn_enum {P : Program} {w : World} {K : PySem.W.Frag} {es : List Expr} {kt : Nat} {pt : Pos} (a e it : Addr) (hne : e ≠ it) : Turn P w K (.Tuple es kt pt) (Ite K a) [e, it] e (fun i h => (∃ old, IsEnum h e it (i : Nat) old) ∧ h.IsListIter it a i) where
 mem := by simp
 obj := fun i h st b hb => by
  obtain ⟨⟨old, he⟩, o, e1, c, d⟩ := st
  rcases List.mem_cons.mp hb with rfl | hb
  · exact ⟨_, he, fun v z => by
     have z' : Data.fields _ = Data.cell v := z
     cases z'⟩
  · have e2 : b = it := by simpa using hb
    subst e2
    exact ⟨o, e1, fun v z => by rw [d] at z; cases z⟩
 keep := fun i h h' st k => by
  obtain ⟨⟨old, he⟩, hit⟩ := st
  exact ⟨⟨old, k e (by simp) _ he⟩, hit.at fun o q => k it (by simp) o q⟩
 item := by
  intro X hP hw hK hc i pins s σ H E I hf st hg
  subst hP hw hK
  obtain ⟨⟨old, he⟩, hit⟩ := st
  obtain ⟨xs, x, hq, hx⟩ := hg
  obtain ⟨its, rv, p, hz⟩ := I.list hq
  obtain ⟨u, hu, ru⟩ := rv.get hx
  refine wpAny_pyNext_enum_item he hit p.isList (x := u) (by simpa using hu) hne fun h1 he1 hit1 ht1 hz1 hk1 => ?_
  refine ⟨_, rfl, wpAny_letOwnedTupleGo_enum (s := { s with heap := h1, toks := s.toks + 1 }) he1 fun h2 he2 sb2 => ?_⟩
  have hlt : e < s.heap.objs.size := Heap.lt_size he
  have kk : ∀ b o, b ∉ [e, it] -> s.heap.get? b = some o -> h2.get? b = some o := fun b o hb q => by
   have b1 : b ≠ e := fun z => hb (by simp [z])
   have b2 : b ≠ it := fun z => hb (by simp [z])
   exact (sb2.2 b b1).trans (hk1 b o b1 b2 q)
  have I2 : Inv X pins σ H { s with heap := h2, toks := s.toks + 1 } := turnedL I kk hf
  have fresh := I.hok.fresh (Nat.le_refl s.heap.objs.size)
  have tup : h2.get? s.heap.objs.size = some { cls := .type "tuple", data := .seq #[.int i s.toks, u] } := (sb2.2 _ (Nat.ne_of_gt hlt)).trans ht1
  have I3 := track (o := .tup [.int (i : Nat), x]) I2 (I.fpOk (Nat.le_refl _) fresh) (Nat.le_trans I.sz (Nat.le_refl _)) ⟨by show 2 <= sizeLine; exact Nat.le_of_lt (small1000 (by decide)), [.int i s.toks, u], .cons ⟨_, rfl⟩ (.cons ru .nil), ⟨_, tup, rfl, _, rfl⟩⟩
  refine ⟨.ref s.heap.objs.size, _, I3, rfl, ⟨s.heap.objs.size, x, fresh, rfl, fun ys hy => by rw [I.list_inj hy hq]; exact hx, rfl⟩, ⟨⟨u, ?_⟩, ?_⟩, fun b hb => ?_⟩
  · have : ((i : Int) + 1) = ((i + 1 : Nat) : Int) := by omega
    rw [<- this]; exact he2
  · obtain ⟨o, q, c, d⟩ := hit1
    exact ⟨o, (sb2.2 it (Ne.symm hne)).trans q, c, d⟩
  · have hb' : b < s.heap.objs.size := by
     rcases List.mem_cons.mp hb with rfl | hb
     · exact hlt
     · have e2 : b = it := by simpa using hb
       subst e2
       obtain ⟨o, q, _⟩ := hit
       exact Heap.lt_size q
    rw [upd_ne (Nat.ne_of_lt hb')]; exact (hf b hb).1
 done := by
  intro X hP hw hK hc i pins s σ H E I hf st hg
  subst hP hw hK
  obtain ⟨⟨old, he⟩, hit⟩ := st
  obtain ⟨xs, hq, hx⟩ := hg
  obtain ⟨its, rv, p, hz⟩ := I.list hq
  have hl := rv.length
  exact wpAny_pyNext_enum_end (I.ok.hd hc) he hit p.isList (by simp; omega) fun h' eb => ⟨rfl, turnedL (t' := s.toks) (ch := [it]) I (fun b o hb q => eb b o (by simpa using hb) q) fun b hb => hf b (by
   have : b = it := by simpa using hb
   simp [this])⟩
 self := fun _ _ _ _ _ st h => by
  obtain ⟨⟨old, he⟩, _⟩ := st
  exact wpAny_pyIter_enum he h
section
variable {X : Cx} {ρ : List (Option D)} {m m1 m2 : Bool} {es : List Expr} {kt : Nat} {pt p pos : Pos} {a b : Expr} {ds es' : List D}
def iEnum (K : PySem.W.Frag) (ta : TA) : TI := fun σ H R => ta σ H fun vs H1 => ∃ l, vs = [.ref l] ∧ (∃ xs, SqL K H1 l xs) ∧ R (Ite K l) H1
theorem pi_enum {ta : TA} (hg : Gl X "enumerate") (hm : X.mg "enumerate" = none) (ha : PA X [a] ta) (hs : starEach [a] X.env = [(false, eval a X.env)] := by rfl) : PI X (.Tuple es kt pt) (.Call (.Name "enumerate" p) [a] [] pos) (iEnum X.K ta) := by
 intro pins s σ H R I h
 refine Call_ (ld_blt I hg hm boot_enumerate (PyProof.Rows.callWith_type1 (thn (ha pos pins s σ H _ I h) fun us s1 ⟨vs, H1, I1, r1, q1⟩ => ?_) hs rfl))
 obtain ⟨l, e, ⟨xs, hq⟩, q⟩ := q1
 subst e
 obtain ⟨u, rfl, ru⟩ := vals1 r1
 cases ru
 obtain ⟨its, rv, pl, hz⟩ := I1.list hq
 refine call_enumerate_list pl.isList fun h' he hit hz' hk => ?_
 have I2 : Inv X pins σ H1 { s1 with heap := h' } := I1.kept (t' := s1.toks) hk
 refine wpAny_pyIter_enum (s := { s1 with heap := h' }) he ⟨s1.heap.objs.size + 1, [s1.heap.objs.size + 1, s1.heap.objs.size], _, _, H1, rfl, I2, turn_enum l _ _ (Nat.succ_ne_self _), ⟨⟨_, he⟩, hit⟩, fun b hb => ?_, q⟩
 rcases List.mem_cons.mp hb with rfl | hb
 · exact I1.fpOk (Nat.le_succ _) (I1.hok.fresh (Nat.le_succ _))
 · have e : b = s1.heap.objs.size := by simpa using hb
   subst e
   exact I1.fpOk (Nat.le_refl _) (I1.hok.fresh (Nat.le_refl _))
def enumD (ds : List D) : List D := (List.range ds.length).map fun i => D.tup [.int (i : Nat), ds.getD i .non]
theorem enumD_get {i : Nat} {d : D} (h : (enumD ds)[i]? = some d) : ∃ d', ds[i]? = some d' ∧ d = .tup [.int (i : Nat), d'] := by
 unfold enumD at h
 rw [List.getElem?_map] at h
 by_cases hi : i < ds.length
 · rw [List.getElem?_range hi] at h
   refine ⟨ds[i], by simp [hi], ?_⟩
   have := Option.some.inj h
   rw [<- this]; simp [hi]
 · rw [List.getElem?_eq_none (by simpa using hi)] at h
   cases h
theorem enumD_len : (enumD ds).length = ds.length := by simp [enumD]
theorem it_enum (h : E X m ρ a (.lst ds)) (hm : X.mg "enumerate" = none) (hg : Gl X "enumerate" := by rfl) (hs : starEach [a] X.env = [(false, eval a X.env)] := by rfl) :
 IT X (.Tuple es kt pt) m ρ (.Call (.Name "enumerate" p) [a] [] pos) (enumD ds) := PI.mono (pi_enum hg hm (pa_cons h pa_nil (by rw [hs]; rfl)) hs) fun σ H R z0 => el13 z0 fun Z oz en k => ⟨Z, oz, en, fun v H1 s1 i1 => by
 obtain ⟨l, xs, rfl, at', j⟩ := in_lst.mp i1
 refine ⟨l, rfl, ⟨xs, at'.sq⟩, k _ H1 [.ref l] [.lst ds] s1 (Ins.one i1) ⟨fun Z2 H2 o2 j2 i d e => ?_, fun Z2 H2 o2 j2 => ?_⟩⟩
 · obtain ⟨d', e', rfl⟩ := enumD_get e
   obtain ⟨w, r, e1, j3, j4⟩ := ins_cons.mp j2
   cases e1
   obtain ⟨a', ys, e2, l2, j5⟩ := in_lst.mp j3
   cases e2
   obtain ⟨v, e3, iv⟩ := j5.get e'
   refine ⟨⟨ys, v, l2.sq, e3⟩, fun x H3 ⟨q, y, hq, ex, hy, eH⟩ => ?_⟩
   subst ex eH
   have := hy ys l2.sq
   rw [e3] at this
   cases this
   exact ⟨same_new hq, in_tup.mpr ⟨q, _, rfl, upd_same, ins_cons.mpr ⟨_, _, rfl, in_int.mpr rfl, Ins.one (iv.same (same_new hq))⟩⟩⟩
 · obtain ⟨w, r, e1, j3, j4⟩ := ins_cons.mp j2
   cases e1
   obtain ⟨a', ys, e2, l2, j5⟩ := in_lst.mp j3
   cases e2
   exact ⟨ys, l2.sq, by rw [enumD_len]; exact Nat.le_of_eq j5.length.symm⟩⟩
end
theorem cut_map {α β : Type} (f : α -> β) (l : List α) (a b : Option Int) : cut (l.map f) a b = (cut l a b).map f := by
 unfold cut
 rw [List.length_map, List.map_take, List.map_drop]
theorem cut_le {α : Type} (l : List α) (a b : Option Int) : (cut l a b).length <= l.length := by
 unfold cut
 rw [List.length_take, List.length_drop]; omega
theorem smallL {n : Nat} (h : n <= 1000) : n <= sizeLine := Nat.le_of_lt (small1000 h)
theorem atI_get {α : Type} {xs : List α} {i : Int} {a : α} (h0 : 0 <= i) (h : xs[i.toNat]? = some a) : atI xs i = some a := by
 obtain ⟨k, rfl⟩ := Int.eq_ofNat_of_zero_le h0
 exact atI_nat (by simpa using h)
section
variable {X : Cx} {pins : List (Addr × Obj)} {σ : St} {H : Hp} {s : Shared}
theorem Inv.listX {a : Addr} {xs : List V} (I : Inv X pins σ H s) (h : SqL X.K H a xs) : ∃ (its : List Value) (n : Nat) (sl : Array (Option Value)), Vals xs its ∧ s.heap.get? a = some { cls := .type "list", dict := none, data := .seq its.toArray n, slots := sl } ∧ xs.length <= sizeLine := by
 obtain ⟨its, r, ⟨o, n, e, hc, hd, hs⟩, z⟩ := I.list h
 obtain ⟨cls, dict, data, slots⟩ := o
 simp only at hc hd hs
 subst hc hd hs
 exact ⟨its, n, slots, r, e, z⟩
end
section
variable {X : Cx}
theorem op_catL : OpR X (binaryOp .Add) (fun x y H Q => ∃ l b xs zs, x = .ref l ∧ y = .ref b ∧ SqL X.K H l xs ∧ SqL X.K H b zs ∧ xs.length + zs.length <= sizeLine ∧ ∀ p, H p = none -> Q (.ref p) (upd H p (.lst (xs ++ zs)))) := by
 intro pins s σ H x y v u Q I rx ry h
 obtain ⟨l, b, xs, zs, rfl, rfl, hH, hB, hz, q⟩ := h
 cases rx
 cases ry
 obtain ⟨its, n, sl, r, e, z⟩ := Inv.listX I hH
 obtain ⟨its2, n2, sl2, r2, e2, z2⟩ := Inv.listX I hB
 have h1 := r.length
 have h2 := r2.length
 refine concat_meets ⟨_, e, rfl⟩ ⟨_, e2, rfl⟩ PySem.noFill_list_add PySem.seq_list_add F.slot_list_add F.entry_list_add (F.args_list_add_2 _ _) (list_addW l b its.toArray its2.toArray n n2 none none sl sl2 (by rw [List.size_toArray, List.size_toArray]; omega)) ⟨e, e2, ?_⟩
 have ea : its.toArray ++ its2.toArray = (its ++ its2).toArray := by simp
 rw [ea]
 exact ⟨.ref _, _, I.lnew (t' := s.toks) (r.append r2) (by rw [List.length_append]; omega), rfl, q _ I.fresh⟩
variable {ρ : List (Option D)} {m m1 m2 : Bool} {a b : Expr} {ds es : List D} {pos : Pos}
theorem e_catL (ha : E X m1 ρ a (.lst ds)) (hb : E X m2 ρ b (.lst es)) (hz : ds.length + es.length <= sizeLine) (hm : m = true -> (m1 = true ∨ flats ds = true) ∧ (m2 = true ∨ flats es = true) := by intro h; first | cases h | exact ⟨.inl rfl, .inl rfl⟩) : E X m ρ (.BinOp a .Add b pos) (.lst (ds ++ es)) :=
 PE.mono (pe_op op_catL ha hb) fun σ H Q z0 => el13 z0 fun Z oz en k => ⟨Z, oz, en, fun x H1 s1 i1 => ⟨Z, oz.same s1, en.same s1, fun y H2 s2 i2 => by
  have s := s1.trans s2
  obtain ⟨p, xs, rfl, lq, j⟩ := in_lst.mp (In.same s2 i1)
  obtain ⟨p', ys, rfl, lq', j'⟩ := in_lst.mp (In.later s1 i2)
  refine ⟨p, p', xs, ys, rfl, rfl, lq.sq, lq'.sq, by rw [<- j.length, <- j'.length]; exact hz, fun q hq => k (.ref q) _ (s.trans (same_new hq)) (in_lst.mpr ⟨q, _, rfl, .inl ⟨upd_same, ?_⟩, ?_⟩)⟩
  · cases m
    · exact oz q (s.free hq)
    · exact s.free hq
  · have jc := j.same (same_new (o := .lst (xs ++ ys)) hq)
    have jc' := j'.same (same_new (o := .lst (xs ++ ys)) hq)
    cases m
    · refine Ins.append ?_ ?_
      · cases m1
        · exact jc
        · exact jc.up oz
      · cases m2
        · exact jc'
        · exact jc'.up oz
    · obtain ⟨q1, q2⟩ := hm rfl
      refine Ins.append ?_ ?_
      · rcases q1 with h | h
        · subst h; exact jc
        · exact jc.flat' h
      · rcases q2 with h | h
        · subst h; exact jc'
        · exact jc'.flat' h⟩⟩
end
end Y
namespace Y
open PySem PySem.Spec PyProof.Rows L2
def KD0 {α : Type} : Sem α -> Prop
 | .pure _ => True
 | .raise _ => True
 | .unsupported _ => True
 | .finish _ => True
 | .rule _ k => KD0 (k ())
 | .at _ k => KD0 (k ())
 | .load _ _ k => ∀ o, KD0 (k o)
 | .update _ _ f k => (∀ o, (f o).dict = o.dict ∧ (f o).isFreed = o.isFreed) ∧ KD0 (k ())
 | .alloc _ k => ∀ n, KD0 (k n)
 | .loadIfAlive _ k => ∀ o, KD0 (k o)
 | .point _ k => KD0 (k ())
 | .fresh k => ∀ n, KD0 (k n)
 | .ask k => ∀ n, KD0 (k n)
 | .choose _ _ k => ∀ n, KD0 (k n)
 | .handled _ k => ∀ n, KD0 (k n)
 | .genState _ k => ∀ n, KD0 (k n)
 | .stack k => ∀ n, KD0 (k n)
 | .thread k => ∀ n, KD0 (k n)
 | _ => False
def DK (h h' : Heap) : Prop := ∀ b o, h.get? b = some o -> ∃ o', h'.get? b = some o' ∧ o'.dict = o.dict
theorem DK.refl (h : Heap) : DK h h := fun _ o e => ⟨o, e, rfl⟩
theorem DK.trans {h h1 h2 : Heap} (x : DK h h1) (y : DK h1 h2) : DK h h2 := fun b o e =>
 let ⟨o1, e1, d1⟩ := x b o e
 let ⟨o2, e2, d2⟩ := y b o1 e1
 ⟨o2, e2, d2.trans d1⟩
theorem DK.push {h : Heap} {o : Obj} : DK h (h.push o) := fun _ o e => ⟨o, Heap.get?_push_of_some _ e, rfl⟩
theorem get_freed {h : Heap} {a : Addr} {o : Obj} (e : h.get? a = some o) : o.isFreed = false := (Heap.get?_some_iff.mp e).2
theorem DK.update {h : Heap} {a : Addr} {f : Obj -> Obj} (hf : ∀ o, (f o).dict = o.dict ∧ (f o).isFreed = o.isFreed) : DK h (h.update a f) := fun b o e => by
 by_cases q : a = b
 · subst q
   exact ⟨f o, Heap.get?_update_self f e ((hf o).2.trans (get_freed e)), (hf o).1⟩
 · exact ⟨o, (Heap.get?_update_other _ _ q).trans e, rfl⟩
theorem wp_kd {α : Type} {M : Model} {Γ : PySem.Ctx} {Q : α -> Pos -> Shared -> Prop} {E : Value -> Pos -> Shared -> Prop} {h0 : Heap} :
 ∀ (t : Sem α) (p : Pos) (s : Shared), KD0 t -> DK h0 s.heap -> Sem.wp M Γ t Q E p s -> Sem.wp M Γ t (fun a p s' => Q a p s' ∧ DK h0 s'.heap) E p s
 | .pure a, p, s, _, d, h => ⟨h, d⟩
 | .raise _, _, _, _, _, h => h
 | .unsupported _, _, _, _, _, h => h.elim
 | .finish _, _, _, _, _, h => h.elim
 | .rule _ k, p, s, c, d, h => wp_kd (k ()) p s c d h
 | .at p' k, p, s, c, d, h => wp_kd (k ()) p' s c d h
 | .load _ _ k, p, s, c, d, ⟨o, e, h⟩ => ⟨o, e, wp_kd (k o) p s (c o) d h⟩
 | .update _ _ f k, p, s, c, d, ⟨e, h⟩ => ⟨e, wp_kd (k ()) p _ c.2 (d.trans (DK.update c.1)) h⟩
 | .alloc o k, p, s, c, d, h => wp_kd (k _) p _ (c _) (d.trans DK.push) h
 | .loadIfAlive _ k, p, s, c, d, h => wp_kd (k _) p s (c _) d h
 | .point _ k, p, s, c, d, h => wp_kd (k ()) p s c d h
 | .fresh k, p, s, c, d, h => wp_kd (k _) p { s with toks := s.toks + 1 } (c _) d h
 | .ask k, p, s, c, d, h => wp_kd (k _) p s (c _) d h
 | .choose src n k, p, s, c, d, ⟨e, h⟩ => ⟨e, wp_kd (k _) p { s with drawn := s.drawn.bump src } (c _) d h⟩
 | .handled _ k, p, s, c, d, h => wp_kd (k _) p s (c _) d h
 | .genState _ k, p, s, c, d, ⟨st, e, h⟩ => ⟨st, e, wp_kd (k _) p s (c _) d h⟩
 | .stack k, p, s, c, d, h => wp_kd (k _) p s (c _) d h
 | .thread k, p, s, c, d, h => wp_kd (k _) p s (c _) d h
 | .register _ _, _, _, c, _, _ => c.elim
 | .os _ _ _, _, _, c, _, _ => c.elim
 | .call _ _ _ _ _, _, _, c, _, _ => c.elim
 | .newGen _ _, _, _, c, _, _ => c.elim
 | .resume _ _ _ _, _, _, c, _, _ => c.elim
 | .yield _ _ _ _, _, _, c, _, _ => c.elim
 | .fork _ _, _, _, c, _, _ => c.elim
 | .await _ _ _ _ _, _, _, c, _, _ => c.elim
theorem wpAny_kd {α : Type} {M : Model} {A : Around} {t : Sem α} {Q : α -> Shared -> Prop} {E : Value -> Shared -> Prop} {s : Shared} (c : KD0 t) (h : wpAny M A t Q E s) : wpAny M A t (fun a s' => Q a s' ∧ DK s.heap s'.heap) E s :=
 fun Γ p hΓ => wp_kd t p s c (DK.refl _) (h Γ p hΓ)
theorem kd_bind {α β : Type} {f : α -> Sem β} (hf : ∀ a, KD0 (f a)) : ∀ {m : Sem α}, KD0 m -> KD0 (m.bind f)
 | .pure a, _ => hf a
 | .raise _, _ => trivial
 | .unsupported _, _ => trivial
 | .finish _, _ => trivial
 | .rule _ k, c => kd_bind (m := k ()) hf c
 | .at _ k, c => kd_bind (m := k ()) hf c
 | .load _ _ k, c => fun o => kd_bind hf (c o)
 | .update _ _ _ k, c => ⟨c.1, kd_bind (m := k ()) hf c.2⟩
 | .alloc _ k, c => fun o => kd_bind hf (c o)
 | .loadIfAlive _ k, c => fun o => kd_bind hf (c o)
 | .point _ k, c => kd_bind (m := k ()) hf c
 | .fresh k, c => fun o => kd_bind hf (c o)
 | .ask k, c => fun o => kd_bind hf (c o)
 | .choose _ _ k, c => fun o => kd_bind hf (c o)
 | .handled _ k, c => fun o => kd_bind hf (c o)
 | .genState _ k, c => fun o => kd_bind hf (c o)
 | .stack k, c => fun o => kd_bind hf (c o)
 | .thread k, c => fun o => kd_bind hf (c o)
 | .register _ _, c => c.elim
 | .os _ _ _, c => c.elim
 | .call _ _ _ _ _, c => c.elim
 | .newGen _ _, c => c.elim
 | .resume _ _ _ _, c => c.elim
 | .yield _ _ _ _, c => c.elim
 | .fork _ _, c => c.elim
 | .await _ _ _ _ _, c => c.elim
theorem kd_then {α β : Type} {m : Sem α} {f : α -> Sem β} (c : KD0 m) (hf : ∀ a, KD0 (f a)) : KD0 (m >>= f) := kd_bind hf c
theorem kd_pure {α : Type} {a : α} : KD0 (pure a : Sem α) := trivial
theorem kd_load {a : Addr} : KD0 (load a) := fun _ => trivial
theorem kd_update {a : Addr} {f : Obj -> Obj} (h : ∀ o, (f o).dict = o.dict ∧ (f o).isFreed = o.isFreed) : KD0 (update a f) := ⟨h, trivial⟩
theorem kd_uns {α : Type} {w : String} : KD0 (unsupported w : Sem α) := trivial
theorem kd_stack : KD0 stack := fun _ => trivial
theorem kd_field {v : Value} {i : Nat} : KD0 (field v i) := by
 unfold field
 refine kd_then ?_ fun vs => ?_
 · unfold fieldsOf
   split
   · refine kd_then kd_load fun o => ?_
     split
     · exact kd_pure
     · exact kd_uns
   · exact kd_uns
 · split
   · exact kd_pure
   · exact kd_uns
theorem mapFields_keeps {f : Array Value -> Array Value} (o : Obj) : (o.mapFields f).dict = o.dict ∧ (o.mapFields f).isFreed = o.isFreed := by
 obtain ⟨c, d, dt, sl⟩ := o
 cases dt <;> exact ⟨rfl, rfl⟩
theorem kd_setField {v x : Value} {i : Nat} : KD0 (setField v i x) := by
 unfold setField
 split
 · unfold updateField
   refine kd_then kd_load fun o => ?_
   split
   · split
     · exact kd_update mapFields_keeps
     · exact kd_uns
   · exact kd_uns
 · exact kd_uns
theorem kd_setFlight {e : Value} {f : Option Addr} : KD0 (setFlight e f) := by
 unfold setFlight
 refine kd_then kd_field fun tb => ?_
 split
 · exact kd_setField
 · exact kd_pure
theorem kd_asIs {ty : String} {d : Data} : KD0 (newObjAsIs (.type ty) d) := fun _ => trivial
theorem kd_newFields {ty : String} {vs : List Value} : KD0 (newFields ty vs) := by
 unfold newFields newObj
 dsimp only
 split
 · exact trivial
 · exact kd_asIs
theorem kd_ready : ∀ (l : List Env), KD0 (readyFrames l)
 | [] => trivial
 | env :: outer => by
  unfold readyFrames
  split
  · refine kd_then kd_load fun o => ?_
    split
    · exact kd_pure
    · refine kd_then ?_ fun b => kd_then ?_ fun back => kd_then (kd_update fun o => by obtain ⟨c, d, dt, sl⟩ := o; cases dt <;> exact ⟨rfl, rfl⟩) fun _ => kd_ready outer
      · unfold behindIsImport
        split
        · exact kd_pure
        · split
          · exact kd_pure
          · exact kd_then kd_field fun _ => kd_pure
      · unfold keptBack
        split
        · split
          · exact kd_pure
          · unfold underTheClaimsCaller
            exact kd_then (kd_then kd_stack fun _ => kd_pure) fun _ => kd_pure
        · exact kd_pure
  · exact kd_uns
theorem kd_frameOf {env : Env} : KD0 (PySem.frameOf env) := by
 unfold PySem.frameOf frameEnvs
 refine kd_then (kd_then kd_stack fun _ => kd_pure) fun l => kd_then ?_ fun r => ?_
 · unfold frameObject
   split
   · exact kd_pure
   · exact kd_then (kd_ready _) fun _ => kd_pure
 · split
   · exact kd_pure
   · exact kd_uns
theorem kd_note {e : Value} {env : Env} : KD0 (noteFrame e env) := by
 unfold noteFrame
 split
 · refine kd_then kd_field fun head => ?_
   have fin : KD0 (do setField e 1 (<- EntryCells.newEntry head (<- PySem.frameOf env) .none (rawInt ‹Addr›) .none (<- entryPlaceOf ‹Addr› (head != .none)))) := by
    refine kd_then kd_frameOf fun a => kd_then ?_ fun pl => kd_then kd_newFields fun b => kd_setField
    unfold entryPlaceOf
    refine kd_then kd_stack fun acts => ?_
    split <;> exact trivial
   split
   · refine kd_then kd_field fun x => ?_
     split
     · exact kd_pure
     · exact kd_then kd_setField fun _ => fin
   · exact fin
 · exact kd_uns
theorem kd_leaving {e : Value} {env : Env} : KD0 (leaving env e) := kd_then kd_note fun _ => kd_setFlight
end Y
namespace Y
open PySem PySem.Spec PyProof.Rows L2
variable [Tabs]
def ground (l : List Addr) (h : Heap) : Heap := { h with objs := h.objs.mapIdx fun i o => if i ∈ l then { o with data := .freed } else o }
theorem ground_out {l : List Addr} {h : Heap} {b : Addr} (hb : b ∈ l) : (ground l h).get? b = none := by
 unfold ground Heap.get?
 simp only [Array.getElem?_mapIdx]
 cases h.objs[b]? with
 | none => rfl
 | some o => simp [hb]
theorem ground_in {l : List Addr} {h : Heap} {b : Addr} (hb : b ∉ l) : (ground l h).get? b = h.get? b := by
 unfold ground Heap.get?
 simp only [Array.getElem?_mapIdx]
 cases h.objs[b]? with
 | none => rfl
 | some o => simp [hb]
theorem ground_stays {l : List Addr} {h : Heap} : (ground l h).StaysIn h := fun b o e => by
 by_cases hb : b ∈ l
 · rw [ground_out hb] at e; cases e
 · rw [ground_in hb] at e; exact e
theorem frames_ground {h base : Heap} : ∀ {l : List Env} {fs : List Addr}, h.FunFrames base l -> (∀ b ∈ frs l, b ∈ fs) -> h.FunFrames (ground fs h) l
 | [], _, _, _ => trivial
 | env :: rest, fs, x, m => by
  obtain ⟨hk, ⟨L, o, hf, hn, ho, hd⟩, hr⟩ := x
  refine ⟨hk, ⟨L, o, hf, ground_out (m L ?_), ho, hd⟩, frames_ground hr fun b hb => m b ?_⟩
  · unfold frs; rw [List.filterMap_cons, hf]; exact List.mem_cons_self
  · unfold frs at hb ⊢; rw [List.filterMap_cons, hf]; exact List.mem_cons_of_mem _ hb
structure Fly (P : Program) (w : World) (outer : List Env) (H : Hp) (s : Shared) (H' : Hp) (a : Addr) (cls : Value) (dct : Option Addr) (s' : Shared) : Prop where
 os : s'.os = s.os
 bare : AllBare s'.gens
 un : Un (frs outer) [] H H' s.heap s'.heap
 hok : HOk P w H' s'.heap
 dt : ∃ oe, s'.heap.get? a = some oe ∧ oe.dict = dct
 fl : ∃ B a0, Heap.FlyingW B outer a cls a0 s'.heap ∧ (∀ b, H' b ≠ none -> B.get? b ≠ none) ∧ (∀ b o, s.heap.get? b = some o -> b ∉ frs outer -> B.get? b ≠ none)
def CX1 (P : Program) (w : World) : CXT := fun outer H s E e s' => ∃ a cls dct H', e = .ref a ∧ Fly P w outer H s H' a cls dct s' ∧ E cls dct H'
theorem ObjOk.obj {P : Program} {w : World} {H : Hp} {h : Heap} {a : Addr} {o : HO} (x : ObjOk P w H h a o) : ∃ u, h.get? a = some u := by
 cases o with
 | lst xs => obtain ⟨_, _, _, _, e⟩ := x; exact ⟨_, e⟩
 | tup xs => obtain ⟨_, _, _, ob, e, _⟩ := x; exact ⟨_, e⟩
 | dK kvs => obtain ⟨_, _, _, _, o, _, _, e, _⟩ := x; exact ⟨_, e⟩
 | dT kvs => obtain ⟨_, _, _, _, o, _, _, e, _⟩ := x; exact ⟨_, e⟩
 | set S n => obtain ⟨o, _, _, _, e, _⟩ := x; exact ⟨_, e⟩
 | ins C dx fs => obtain ⟨_, _, _, e, _⟩ := x; exact ⟨_, e⟩
 | own y => exact x
 | xd fs => obtain ⟨_, ⟨_, _, _, e, _⟩, _⟩ := x; exact ⟨_, e⟩
 | rng lo hi => obtain ⟨_, _, _, e⟩ := x; exact ⟨_, e⟩
 | frz ob u => obtain ⟨e, _⟩ := x; exact ⟨_, e⟩
 | tbl ps => exact ⟨_, (show h.get? a = some _ from x)⟩
 | met f y => exact ⟨_, (show h.get? a = some _ from x)⟩
 | ext φ => obtain ⟨_, e, _⟩ := x; exact e
theorem HOk.kept' {P : Program} {w : World} {H : Hp} {h h' : Heap} (x : HOk P w H h) (k : ∀ b u, H b ≠ none -> h.get? b = some u -> h'.get? b = some u) : HOk P w H h' := fun a o e =>
 (x a o e).stay (fun b u hb q => k b u (by
  rcases hb with rfl | hb
  · rw [e]; simp
  · rw [hb]; simp) q) (fun _ q => q) fun _ _ q => q
section
variable {P : Program} {w : World} {K : PySem.W.Frag} {mg : Str -> Option Value} {base : Heap} {N : List Str} {qual : Str} {scope : Scope} {f : Addr} {cd : Value} {A : Around} {outer : List Env} {s0 : Shared} {H0 : Hp} {Ex : XK}
theorem xe_gen {pins : List (Addr × Obj)} {σ : L2.St} {H : Hp} {s : Shared} {e : Addr} {oe : Obj} {vs : Array Value} {a0 : Value}
 (I : Inv (cxOf (CX1 P w) P w K mg base N qual scope f cd A outer s0 H0 Ex) pins σ H s) (he : s.heap.get? e = some oe) (hH : H e = none) (hs0 : s0.heap.get? e = none) (hd : oe.data = .fields vs) (h1 : vs[1]? = some .none) (h0 : vs[0]? = some a0) (hE : Ex oe.cls oe.dict H) :
 (cxOf (CX1 P w) P w K mg base N qual scope f cd A outer s0 H0 Ex).xe (.ref e) s := by
 have hst := I.stack
 have hfree := I.stkFree
 have hlt : ∀ b o, s0.heap.get? b = some o -> b ≠ s0.heap.objs.size := fun b o q => Nat.ne_of_lt (Heap.lt_size q)
 have hmem : ∀ b, b ∈ frs (envOfC qual scope s0.heap.objs.size f cd :: outer) -> b = s0.heap.objs.size ∨ b ∈ frs outer := fun b hb => by
  unfold frs at hb ⊢
  rw [List.filterMap_cons] at hb
  exact List.mem_cons.mp hb
 refine wpAny_mono (wpAny_kd kd_leaving (wpAny_leaving_firstW (M := model P w) (E := fun _ _ => False) (Q := fun _ s' => ∃ h', s' = { s with heap := h' } ∧ Heap.LeftW (ground (e :: frs (envOfC qual scope s0.heap.objs.size f cd :: outer)) s.heap) (envOfC qual scope s0.heap.objs.size f cd :: outer) e oe.cls a0 s.heap h')
  I.ok.frames (frames_ground hst fun b hb => List.mem_cons_of_mem _ hb) rfl he ground_stays (ground_out List.mem_cons_self) hd h1 h0 fun h' hL => ⟨h', rfl, hL⟩)) (fun _ s' ⟨⟨h2, e2, hfl⟩, dk⟩ => ?_) fun _ _ z => z.elim
 subst e2
 obtain ⟨stay, ⟨_, _, frm⟩, tr, hup⟩ := hfl
 have keep : ∀ b o, s.heap.get? b = some o -> b ≠ e -> b ∉ frs (envOfC qual scope s0.heap.objs.size f cd :: outer) -> h2.get? b = some o := fun b o q ne nb => stay b o (by rw [ground_in fun hm => (List.mem_cons.mp hm).elim ne nb]; exact q)
 have ne0 : ∀ b o, s0.heap.get? b = some o -> b ≠ e := fun b o q z => by rw [z, hs0] at q; cases q
 refine ⟨e, oe.cls, oe.dict, H, rfl, ⟨I.os, I.bare, ⟨fun b o q n nf ne => ?_, fun b o q n nf ne => ?_, fun b o q n ne => I.base.free b o q n ne, fun b o q ne => ?_, I.base.tups, I.base.frzs, I.base.tbls⟩, ?_, dk e oe he, ⟨_, _, ⟨stay, ground_out List.mem_cons_self, frm, tr⟩, fun b hb => ?_, fun b o q nb => ?_⟩⟩, hE⟩
 · exact keep b o (I.base.keep b o q n nf ne) (ne0 b o q) fun hm => (hmem b hm).elim (hlt b o q) nf
 · obtain ⟨sl, q2⟩ := I.base.slot b o q n nf ne
   obtain ⟨_, o3, q3, nfd⟩ := hst.mem (b := b) (by
    show b ∈ (envOfC qual scope s0.heap.objs.size f cd :: outer).filterMap (·.frame)
    rw [List.filterMap_cons]
    exact List.mem_cons_of_mem _ nf)
   rw [q2] at q3
   cases q3
   obtain ⟨sl2, q4⟩ := hup b _ q2 nfd
   exact ⟨sl2, q4⟩
 · obtain ⟨o', q2⟩ := I.base.there b o q ne
   by_cases hm : b ∈ frs (envOfC qual scope s0.heap.objs.size f cd :: outer)
   · obtain ⟨_, o3, q3, nfd⟩ := hst.mem (b := b) hm
     obtain ⟨sl2, q4⟩ := hup b _ q3 nfd
     exact ⟨_, q4⟩
   · exact ⟨_, keep b o' q2 (ne0 b o q) hm⟩
 · exact HOk.kept' I.hok fun b u hb q => keep b u q (fun z => hb (by rw [z]; exact hH)) fun hm => hb (hfree b hm)
 · cases q : H b with
   | none => exact absurd q hb
   | some o =>
    obtain ⟨u, q2⟩ := ObjOk.obj (I.hok b o q)
    rw [ground_in (l := e :: frs (envOfC qual scope s0.heap.objs.size f cd :: outer)) fun hm => (List.mem_cons.mp hm).elim (fun z => hb (by rw [z]; exact hH)) fun hm => hb (hfree b hm), q2]
    simp
 · obtain ⟨o', q2⟩ := I.base.there b o q (by intro z; cases z)
   rw [ground_in fun hm => (List.mem_cons.mp hm).elim (ne0 b o q) fun hm => (hmem b hm).elim (hlt b o q) nb, q2]
   simp
theorem xe_made {pins : List (Addr × Obj)} {σ : L2.St} {H : Hp} {s : Shared} {h' : Heap} {e : Addr} {cls : Value} {args : List Value}
 (I : Inv (cxOf (CX1 P w) P w K mg base N qual scope f cd A outer s0 H0 Ex) pins σ H s) (hx : Heap.MadeExcOf s.heap h' e cls args) (hE : Ex cls none H) :
 (cxOf (CX1 P w) P w K mg base N qual scope f cd A outer s0 H0 Ex).xe (.ref e) { s with heap := h' } := by
 obtain ⟨t, he, _, _⟩ := hx.there
 have I' : Inv (cxOf (CX1 P w) P w K mg base N qual scope f cd A outer s0 H0 Ex) pins σ H { s with heap := h' } := I.kept (t' := s.toks) fun b o q => hx.keeps b o q
 refine xe_gen I' he ?_ ?_ rfl rfl rfl hE
 · cases q : H e with
   | none => rfl
   | some o => obtain ⟨u, q2⟩ := ObjOk.obj (I.hok e o q); rw [hx.new] at q2; cases q2
 · cases q : s0.heap.get? e with
   | none => rfl
   | some o => obtain ⟨u, q2⟩ := I.base.there e o q (by intro z; cases z); rw [hx.new] at q2; cases q2
end
def XE (X : Cx) (Ex : XK) : Prop := ∀ (pins : List (Addr × Obj)) (σ : L2.St) (H : Hp) (s : Shared) (h' : Heap) (e : Addr) (cls : Value) (args : List Value), Inv X pins σ H s -> Heap.MadeExcOf s.heap h' e cls args -> Ex cls none H -> X.xe (.ref e) { s with heap := h' }
def XE2 (X : Cx) (Ex : XK) : Prop := ∀ (pins : List (Addr × Obj)) (σ : L2.St) (H : Hp) (s : Shared) (e : Addr) (oe : Obj) (vs : Array Value) (a0 : Value), Inv X pins σ H s -> s.heap.get? e = some oe -> H e = none -> X.s₀.heap.get? e = none -> oe.data = .fields vs -> vs[1]? = some .none -> vs[0]? = some a0 -> Ex oe.cls oe.dict H -> X.xe (.ref e) s
def ExcO (K : PySem.W.Frag) (C : Addr) (bm : List Value) : Prop := ∃ (nm q : Str) (N : Addr) (bs : List Value) (hdct : Bool) (sn : List Str) (sub : List Value) (ab : Bool) (col : Option Bool) (dd : Option Addr) (k0 k1 k2 k3 k5 : Option Value) (nid : String),
 K.lookup C = some (excClassObj nm q C N bs bm hdct sn sub ab col dd k0 k1 k2 k3 k5 nid)
structure XD where
 c : Addr
 n : Option Int := none
def XD.E (x : XD) (E : XK) (H : Hp) : Prop := match x.n with
 | none => ∀ H', Same H H' -> E (.ref x.c) none H'
 | some n => ∀ H' dx, Same H H' -> H dx = none -> H' dx = some (.xd [("at", .int n)]) -> E (.ref x.c) (some dx) H'
theorem XD.E.same {x : XD} {E : XK} {H H1 : Hp} (s : Same H H1) (h : x.E E H) : x.E E H1 := by
 unfold XD.E at h ⊢
 split
 · rename_i q; rw [q] at h; exact fun H' s' => h H' (s.trans s')
 · rename_i n q; rw [q] at h; exact fun H' dx s' e => h H' dx (s.trans s') (s.free e)
def spX (K : PySem.W.Frag) (m : Bool) (G : List D -> D -> Prop) (R : List D -> XD -> Prop) : Sp := fun vs H Q E => ∃ (Z : Zone) (ds : List D), Z.Open H ∧ Ins K H Z ds vs ∧
 ((∃ d, G ds d ∧ ∀ v H', Same H H' -> In K H' (out m Z H) d v -> Q v H') ∨ ∃ c, R ds c ∧ c.E E H)
structure DefX (P : Program) (w : World) (K : PySem.W.Frag) (mg : Str -> Option Value) (base : Heap) (k : Nat) (x : Str) (m : Bool) (G : List D -> D -> Prop) (R : List D -> XD -> Prop) : Prop where
 ex : ∃ f fd ps, FnOk P w K mg base (CX1 P w) k f fd ps (spX K m G R) ∧ mg x = some (.ref f) ∧ PySem.W.keepIn K (.ref f) = true ∧ Binds K fd ps []
section
variable {P : Program} {w : World} {K : PySem.W.Frag} {mg : Str -> Option Value} {base : Heap}
theorem def_ofX {x qual : Str} {st : Stmt} {f : Addr} {fd : FuncData} {N ps : List Str} {k : Nat} {m : Bool} {G : List D -> D -> Prop} {R : List D -> XD -> Prop} (Fx : Fun K x qual st f fd) (S : FnScope N ps (defScope st)) (hmg : mg x = some (.ref f)) (hb : Binds K fd ps [])
 (hlen : ∀ ds d, G ds d -> ds.length = ps.length) (hlenR : ∀ ds c, R ds c -> ds.length = ps.length)
 (body : ∀ (cdv : Value) (A : Around) (outer : List Env) (s : Shared) (H : Hp) (E : XK) (Z : Zone) (ds : List D) (d : D), Room k (A.deeper (envOfC qual (defScope st) s.heap.objs.size f cdv)) -> G ds d ->
  SD (cxOf (CX1 P w) P w K mg base N qual (defScope st) f cdv A outer s H E).nox ⟨m, Z, H⟩ (defBody st) (startD N ds) { nx := fun _ => d = .non, rt := fun d' => d' = d })
 (bodyR : ∀ (cdv : Value) (A : Around) (outer : List Env) (s : Shared) (H : Hp) (E : XK) (Z : Zone) (ds : List D) (c : XD), Room k (A.deeper (envOfC qual (defScope st) s.heap.objs.size f cdv)) -> R ds c -> c.E E H ->
  XE (cxOf (CX1 P w) P w K mg base N qual (defScope st) f cdv A outer s H E) E -> XE2 (cxOf (CX1 P w) P w K mg base N qual (defScope st) f cdv A outer s H E) E -> SD (cxOf (CX1 P w) P w K mg base N qual (defScope st) f cdv A outer s H E) ⟨m, Z, H⟩ (defBody st) (startD N ds) { nx := fun _ => False, rt := fun _ => False }) :
 DefX P w K mg base (k + 1) x m G R := by
 refine ⟨f, fd, ps, ?_, hmg, Fx.kp, hb⟩
 obtain ⟨oc, od, kV, doc, pm, an, cdv, ct, osl, rfl, lk, hcd⟩ := Fx.ex
 refine fn_of lk hcd S (fun vs H Q E ⟨Z, ds, oz, i, g⟩ => ?_) fun A outer s H vs Q E hr ⟨Z, ds, oz, i, g⟩ => ?_
 · rw [<- i.length]
   rcases g with ⟨d, g, _⟩ | ⟨c, g, _⟩
   · exact hlen ds d g
   · exact hlenR ds c g
 · have hl : (L2.start N vs).length = (startD N ds).length := by
    have := i.length
    simp [L2.start, startD]; omega
   rcases g with ⟨d, g, kk⟩ | ⟨c, g, kk⟩
   · refine ⟨_, (body cdv A outer s H E Z ds d hr g).nox, [], [], fun _ => [], hl, start_in oz i, ⟨rfl, fun σ H' ⟨r, A', hl, S', e⟩ => ?_, fun σ H' ⟨r, A', hl, S', e⟩ => e.elim, fun σ H' ⟨r, A', hl, S', e⟩ => e.elim, fun v d' H' s' i' e => ?_, fun _ _ _ _ _ _ _ _ e => e.elim, fun _ _ _ _ _ _ _ _ _ _ _ _ _ e => e.elim⟩⟩
     · subst e
       exact kk .non H' S'.same (in_non.mpr rfl)
     · subst e
       exact kk v H' s' i'
   · exact ⟨_, bodyR cdv A outer s H E Z ds c hr g kk (fun pins σ H1 s1 h' e cls args I hmk hE => xe_made I hmk hE) (fun pins σ H1 s1 e oe vs a0 I h1 h2 h3 h4 h5 h6 h7 => xe_gen I h1 h2 h3 h4 h5 h6 h7), [], [], fun _ => [], hl, start_in oz i, ⟨rfl, fun σ H' ⟨r, A', hl, S', e⟩ => e.elim, fun σ H' ⟨r, A', hl, S', e⟩ => e.elim, fun σ H' ⟨r, A', hl, S', e⟩ => e.elim, fun v d' H' s' i' e => e.elim, fun _ _ _ _ _ _ _ _ e => e.elim, fun _ _ _ _ _ _ _ _ _ _ _ _ _ e => e.elim⟩⟩
end
section
variable {P : Program} {w : World} {outer : List Env} {H H' : Hp} {s s' : Shared} {a : Addr} {cls a0 : Value} {dct : Option Addr} {B h5 : Heap}
structure FlyB (P : Program) (w : World) (outer : List Env) (H : Hp) (s : Shared) (H' : Hp) (a : Addr) (cls : Value) (dct : Option Addr) (B : Heap) (a0 : Value) (s' : Shared) : Prop where
 os : s'.os = s.os
 bare : AllBare s'.gens
 un : Un (frs outer) [] H H' s.heap s'.heap
 hok : HOk P w H' s'.heap
 dt : ∃ oe, s'.heap.get? a = some oe ∧ oe.dict = dct
 fl : Heap.FlyingW B outer a cls a0 s'.heap
 hB : ∀ b, H' b ≠ none -> B.get? b ≠ none
 sB : ∀ b o, s.heap.get? b = some o -> b ∉ frs outer -> B.get? b ≠ none
theorem Fly.b (f : Fly P w outer H s H' a cls dct s') : ∃ B a0, FlyB P w outer H s H' a cls dct B a0 s' :=
 let ⟨B, a0, x, y, z⟩ := f.fl
 ⟨B, a0, f.os, f.bare, f.un, f.hok, f.dt, x, y, z⟩
theorem FlyB.on (f : FlyB P w outer H s H' a cls dct B a0 s') (x : Heap.FlyingW B outer a cls a0 h5) (u : s'.heap.UpToSlots h5) (dk : DK s'.heap h5) : FlyB P w outer H s H' a cls dct B a0 { s' with heap := h5 } := by
 have same : ∀ b o, s'.heap.get? b = some o -> B.get? b ≠ none -> h5.get? b = some o := fun b o e n => by
  cases q : B.get? b with
  | none => exact absurd q n
  | some o2 =>
   have := f.fl.1 b o2 q
   rw [e] at this
   cases this
   exact x.1 b o q
 have fr : ∀ b o, b ∈ frs outer -> s'.heap.get? b = some o -> ∃ sl, h5.get? b = some { o with slots := sl } := fun b o hb e => by
  obtain ⟨_, o3, q3, nf⟩ := f.fl.2.2.1.mem (b := b) hb
  rw [e] at q3
  cases q3
  exact u b o e nf
 refine ⟨f.os, f.bare, ⟨fun b o e n nb ne => same b o (f.un.keep b o e n nb ne) (f.sB b o e nb), fun b o e n hb ne => ?_, f.un.free, fun b o e ne => ?_, f.un.tups, f.un.frzs, f.un.tbls⟩, HOk.kept' f.hok fun b u hb q => same b u q (f.hB b hb), let ⟨o1, e1, d1⟩ := f.dt; let ⟨o2, e2, d2⟩ := dk a o1 e1; ⟨o2, e2, d2.trans d1⟩, x, f.hB, f.sB⟩
 · obtain ⟨sl, e1⟩ := f.un.slot b o e n hb ne
   obtain ⟨sl2, e2⟩ := fr b _ hb e1
   exact ⟨sl2, e2⟩
 · obtain ⟨o1, e1⟩ := f.un.there b o e ne
   by_cases hb : b ∈ frs outer
   · obtain ⟨sl2, e2⟩ := fr b _ hb e1
     exact ⟨_, e2⟩
   · exact ⟨_, same b o1 e1 (f.sB b o e hb)⟩
end
def handX (X : Cx) (a : Addr) (ps : List (Addr × Obj)) : Cx := { X with A := X.A.mark (some (.ref a)), calm := false, pn := X.pn ++ ps }
def PinOk (X : Cx) (H : Hp) (s : Shared) (p : Addr × Obj) : Prop := s.heap.get? p.1 = some p.2 ∧ H p.1 = none ∧ p.1 ≠ X.env.locals ∧ p.1 ∉ X.fs ∧ ∀ v, p.2.data ≠ .cell v
section
variable {X : Cx} {pins : List (Addr × Obj)} {σ : L2.St} {H H' : Hp} {s s' : Shared} {a : Addr} {cls a0 : Value} {dct : Option Addr} {B : Heap} {oe : Obj} {ps : List (Addr × Obj)}
theorem FlyB.inv (I : Inv X pins σ H s) (f : FlyB X.prog X.w X.stack H s H' a cls dct B a0 s') : Inv X pins σ H' s' := I.call' f.os f.un f.hok f.bare fun b z => nomatch z
theorem hand_ok (o : X.Ok) : (handX X a ps).Ok := ⟨o.mod, o.kind, o.glob, o.blt, o.above, o.inj, o.has, o.cab, fun z => Bool.noConfusion (show false = true from z), o.frames, o.stk, o.exf, o.bs, o.bsz, o.noex, o.exfs, o.funs, o.frf⟩
theorem Inv.hand (I : Inv X pins σ H s) (h : ∀ p ∈ ps, PinOk X H s p) : Inv (handX X a ps) pins σ H s :=
 ⟨hand_ok I.ok, I.os, I.bare, I.base, I.loc, I.cell, I.free, I.freeC, fun p hp => by
  have hp : p ∈ (X.pn ++ ps) ++ pins := hp
  rw [List.append_assoc, List.mem_append] at hp
  rcases hp with hp | hp
  · exact I.pin p (List.mem_append_left _ hp)
  · rcases List.mem_append.mp hp with hp | hp
    · exact h p hp
    · exact I.pin p (List.mem_append_right _ hp), I.hok, I.len⟩
theorem Inv.unhand (ok : X.Ok) (I : Inv (handX X a ps) pins σ H s) : Inv X pins σ H s :=
 ⟨ok, I.os, I.bare, I.base, I.loc, I.cell, I.free, I.freeC, fun p hp => I.pin p (by
  show p ∈ (X.pn ++ ps) ++ pins
  rcases List.mem_append.mp hp with hp | hp <;> simp [hp]), I.hok, I.len⟩
theorem FlyB.pin (I : Inv X pins σ H s) (hstk : X.stack = X.env :: X.outer) (hfr : X.env.frame = some X.env.locals) (f : FlyB X.prog X.w X.stack H s H' a cls dct B a0 s') : ∃ oe, PinOk X H' s' (a, oe) ∧ oe.cls = cls ∧ oe.dict = dct ∧ ∃ vs, oe.data = .fields vs := by
 obtain ⟨oe, vs, e, hc, hd, _⟩ := f.fl.first
 have nf : a ∉ frs X.stack := fun hm => by
  obtain ⟨_, o3, q3, nfd⟩ := f.fl.2.2.1.mem (b := a) hm
  rw [e] at q3
  cases q3
  exact nfd vs hd
 have mem : ∀ b, b = X.env.locals ∨ b ∈ X.fs -> b ∈ frs X.stack := fun b hb => by
  rw [hstk]
  unfold frs
  rw [List.filterMap_cons, hfr]
  rcases hb with rfl | hb
  · exact List.mem_cons_self
  · exact List.mem_cons_of_mem _ hb
 have dte : oe.dict = dct := by
  obtain ⟨o1, e1, d1⟩ := f.dt
  rw [e] at e1
  cases e1
  exact d1
 refine ⟨oe, ⟨e, ?_, fun z => nf (mem a (.inl z)), fun z => nf (mem a (.inr z)), fun v z => by rw [hd] at z; cases z⟩, hc, dte, vs, hd⟩
 cases q : H' a with
 | none => rfl
 | some u => exact absurd f.fl.2.1 (f.hB a (by rw [q]; simp))
theorem Inv.unname {m : Str -> Option Value} {h' : Heap} {n : Str} {j t' : Nat} {v : Option Value} (I : Inv X pins σ H s) (hN : X.N.Nodup) (hj : X.N[j]? = some n) (hk : X.env.kindOf n = some .local) (hn : s.heap.Ns X.env.locals m) (hl : ∀ (i : Nat) (x : Str) (v : V), X.N[i]? = some x -> σ[i]? = some (some v) -> Vis X.env.scope x -> ∃ u, RelV v u ∧ Look X.env s.heap m x u)
 (hn' : h'.Ns X.env.locals fun x => if x = n then v else m x) (hs : Heap.SameBut X.env.locals s.heap h') : Inv X pins (σ.set j none) H { s with heap := h', toks := t' } := by
 have neL : ∀ b o, X.s₀.heap.get? b = some o -> b ≠ X.env.locals := fun b o e => Nat.ne_of_lt (Nat.lt_of_lt_of_le (Heap.lt_size e) I.ok.above)
 refine ⟨I.ok, I.os, I.bare, ⟨fun b o e n hb hx => ?_, fun b o e n hb hx => ?_, I.base.free, fun b o e hx => ?_, I.base.tups, I.base.frzs, I.base.tbls⟩, ⟨_, hn', fun i y v' e1 e2 e3 => ?_⟩, fun y c e => ?_, I.free, I.freeC, fun p hp => ?_, HOk.kept' I.hok fun b u hb q => ?_, by rw [List.length_set]; exact I.len⟩
 · exact (hs.2 b (neL b o e)).trans (I.base.keep b o e n hb hx)
 · obtain ⟨sl, e1⟩ := I.base.slot b o e n hb hx
   exact ⟨sl, (hs.2 b (neL b o e)).trans e1⟩
 · obtain ⟨o1, e1⟩ := I.base.there b o e hx
   exact ⟨o1, (hs.2 b (neL b o e)).trans e1⟩
 · have hij : i ≠ j := fun z => by
    subst z
    rw [List.getElem?_set] at e2
    simp at e2
   rw [List.getElem?_set_ne (Ne.symm hij)] at e2
   obtain ⟨u, r, q⟩ := hl i y v' e1 e2 e3
   refine ⟨u, r, ?_⟩
   have ny : y ≠ n := fun z => hij (nodup_ix hN e1 (z ▸ hj))
   rcases q with ⟨k, e⟩ | ⟨k, c, e, z⟩
   · exact .inl ⟨k, by show (if y = n then v else m y) = _; rw [if_neg ny]; exact e⟩
   · exact .inr ⟨k, c, e, z.sameBut hs (I.cne y c e)⟩
 · obtain ⟨w', z⟩ := I.cell y c e
   exact ⟨w', z.sameBut hs (I.cne y c e)⟩
 · obtain ⟨e, n', ne, nf, d⟩ := I.pin p hp
   exact ⟨(hs.2 p.1 ne).trans e, n', ne, nf, d⟩
 · exact (hs.2 b fun z => hb (by rw [z]; exact I.free)).trans q
def offH (H : Hp) (dx : Addr) : Hp := fun b => if b = dx then none else H b
theorem offH_ne {H : Hp} {dx b : Addr} (h : b ≠ dx) : offH H dx b = H b := if_neg h
theorem offH_at {H : Hp} {dx : Addr} : offH H dx dx = none := if_pos rfl
theorem offH_none {H : Hp} {dx b : Addr} (h : H b = none) : offH H dx b = none := by
 unfold offH
 split
 · rfl
 · exact h
theorem Inv.forget {dx : Addr} {fs : List (Str × V)} (I : Inv X pins σ H s) (hd : H dx = some (.xd fs)) : Inv X pins σ (offH H dx) s := by
 have keep : ∀ {b : Addr} {o : HO}, H b = some o -> (∀ fs, o ≠ .xd fs) -> offH H dx b = some o := fun {b o} e n => by
  rw [offH_ne fun z => by rw [z, hd] at e; exact n fs (Option.some.inj e).symm]
  exact e
 refine ⟨I.ok, I.os, I.bare, ⟨I.base.keep, I.base.slot, fun b o e n x => offH_none (I.base.free b o e n x), I.base.there, fun b xs e => keep (I.base.tups b xs e) (by intro _ z; cases z), fun b o u e => keep (I.base.frzs b o u e) (by intro _ z; cases z), fun b ps e => let ⟨more, q⟩ := I.base.tbls b ps e; ⟨more, keep q (by intro _ z; cases z)⟩⟩, I.loc, I.cell, offH_none I.free, fun x c e => offH_none (I.freeC x c e), fun p hp => ?_, fun b o e => ?_, I.len⟩
 · obtain ⟨h1, h2, h3⟩ := I.pin p hp
   exact ⟨h1, offH_none h2, h3⟩
 · have e' : H b = some o := by
    unfold offH at e
    split at e
    · cases e
    · exact e
   exact (I.hok b o e').stay (fun _ _ _ q => q) (fun c q => keep q (by intro _ z; cases z)) fun c xs q => keep q (by intro _ z; cases z)
theorem Inv.pinD {dx : Addr} {n : Int} (I : Inv X pins σ H s) (hd : H dx = some (.xd [("at", .int n)])) (hst : ∀ b ∈ X.fs, H b = none) : ∃ od, PinOk X (offH H dx) s (dx, od) ∧ ∃ t, PySem.W.lookIn "at" od = some (some (.int n t)) := by
 obtain ⟨mA, ⟨o, es, ep, e, d, kk, uu, f⟩, r⟩ := (show ObjOk X.prog X.w H s.heap dx (.xd [("at", .int n)]) from I.hok dx _ hd)
 refine ⟨o, ⟨e, offH_at, fun z => ?_, fun z => ?_, fun v z => by rw [d] at z; cases z⟩, ?_⟩
 · have := I.free
   rw [<- z, hd] at this
   cases this
 · rw [hst dx z] at hd
   cases hd
 · have ra := r "at"
   have ra : RelO (some (.int n)) (mA "at") := ra
   cases q : mA "at" with
   | none => rw [q] at ra; cases ra
   | some u =>
    rw [q] at ra
    obtain ⟨t, rfl⟩ := (show ∃ t, u = Value.int n t from ra)
    refine ⟨t, ?_⟩
    have f1 := f "at"
    rw [q] at f1
    unfold PySem.W.lookIn
    rw [d]
    dsimp only
    unfold nsFind findBy at f1
    rw [<- Array.find?_toList] at f1
    cases g : es.toList.find? (fun x => x.key.isStr "at") with
    | none => rw [g] at f1; cases f1
    | some en =>
     rw [g] at f1
     have f2 : some en.val = some (Value.int n t) := f1
     show some (some en.val) = some (some (Value.int n t))
     rw [f2]
end
theorem exc_parent {M : Model} {A : Around} {E : Value -> Shared -> Prop} {Q : Bool -> Shared -> Prop} {h : Heap} {g : Array GenState} {dr : Drawn} {t : Nat} {os : OsState} {a C C' N N' : Addr} {oe : Obj} {nm q nm' q' : Str} {bs bm bs' bm' : List Value} {hd hd' : Bool} {sn sn' : List Str} {sub sub' : List Value} {ab ab' : Bool} {col col' : Option Bool} {dd dd' : Option Addr} {k0 k1 k2 k3 k5 j0 j1 j2 j3 j5 : Option Value} {nid nid' : String}
 (hC : h.get? C = some (excClassObj nm q C N bs bm hd sn sub ab col dd k0 k1 k2 k3 k5 nid)) (he : h.get? a = some oe) (hc : oe.cls = .ref C)
 (hC' : h.get? C' = some (excClassObj nm' q' C' N' bs' bm' hd' sn' sub' ab' col' dd' j0 j1 j2 j3 j5 nid')) (hb : bm'.contains (.type "BaseException") = true) (hin : (Value.ref C :: bm).contains (.ref C') = true)
 (h1 : Q true ⟨h, g, dr, t, os⟩) : wpAny M A (excMatches (.ref a) (.ref C')) Q E ⟨h, g, dr, t, os⟩ := by
 have hB : (Value.ref C' :: bm').contains (.type "BaseException") = true := by rw [List.contains_cons, hb, Bool.or_true]
 have f := tc_notTuple
 unfold excMatches
 repeat (first | (with_reducible refine wpAny_loadPart_at he ?_; rw [hc]) | with_reducible refine wpAny_loadPart_at hC' ?_ | with_reducible refine wpAny_loadPart_at hC ?_ | (with_reducible refine wpAny_isSubtype_exc hC' ?_; rw [hB]) | (with_reducible refine wpAny_isSubtype_exc hC ?_; rw [hin]) | wp_step)
 exact h1
section
variable {X : Cx} {k : Nat} {f : Addr} {fd : FuncData} {ps : List Str} {sp : Sp} {Ex : XK} {x : Str} {p pos : Pos} {e : Expr} {es : List Expr} {t : TA} {pins : List (Addr × Obj)} {σ : L2.St} {H : Hp} {s : Shared} {Q : VK} {Eb : Value -> Shared -> Prop}
theorem wp_callX (hno : ∀ e s, ¬ X.xe e s) (F : FnOk X.prog X.w X.K X.mg X.base (CX1 X.prog X.w) k f fd ps sp) (hr : Room k X.A) (hg : Gl X x) (hm : X.mg x = some (.ref f)) (hk : PySem.W.keepIn X.K (.ref f) = true) (hb : Binds X.K fd ps []) (ha : PA X (e :: es) t)
 (I : Inv X pins σ H s) (h : t σ H fun vs H1 => sp (vs ++ []) H1 Q Ex) (hE : ∀ H1 s1 e s', Inv X pins σ H1 s1 -> CX1 X.prog X.w X.stack H1 s1 Ex e s' -> Eb e s')
 (hdb : (x == ("__debug__" : Str)) = false := by decide) (he : starEach (e :: es) X.env = (false, eval e X.env) :: starEach es X.env := by rfl) (hpl : (backTo pos (starEach es X.env)).any (·.1) = false := by rfl) :
 wpAny (model X.prog X.w) X.A (eval (.Call (.Name x p) (e :: es) [] pos) X.env) (EP X pins σ Q) Eb s := by
 refine wpAny_Call_Name_kw (ld_glob I hg hm ?_ hdb)
 refine PySem.W.callWith_K (h₀ := X.base) I.ok.mod.kin hk (wpAny_mono (ha pos pins s σ H _ I h) (fun us s1 ⟨vs, H1, I1, r, q⟩ => ⟨I1.kIn, ?_⟩) fun e s z => (hno e s z).elim) he hpl
 have hd : Vals ([] : List V) [] := .nil
 have r2 : Vals (vs ++ []) (us ++ []) := r.append hd
 have hl : (us ++ []).length = ps.length := by rw [<- r2.length]; exact F.len _ _ _ _ q
 refine wpAny_call (codeAny_mono (F.run X.A X.stack s1 H1 ⟨us, []⟩ (us ++ []) (vs ++ []) Q Ex hr I1.env0 (hb s1 us I1.kIn hl) r2 q) fun r s' hq => ?_)
 cases r with
 | error e => exact hE H1 s1 e s' I1 hq
 | ok fl =>
  cases fl with
  | ret u => exact I1.after hq
  | next => exact False.elim hq
  | brk => exact False.elim hq
  | cont => exact False.elim hq
end
section
variable {X : Cx} {pins : List (Addr × Obj)} {σ : L2.St} {H H' : Hp} {s s' : Shared} {a C C' : Addr} {dct : Option Addr} {n cn : Str} {j : Nat} {b0 : Stmt} {suite : List Stmt} {hp cp : Pos} {bm bm' : List Value} {Qf : Flow -> Shared -> Prop} {Dx : Ends}
theorem wp_catch (hno : ∀ e s, ¬ X.xe e s) (I : Inv X pins σ H s) (fly : Fly X.prog X.w X.stack H s H' a (.ref C) dct s') (hstk : X.stack = X.env :: X.outer) (hfr : X.env.frame = some X.env.locals)
 (c : ExcO X.K C bm) (c' : ExcO X.K C' bm') (hb : bm'.contains (.type "BaseException") = true) (hin : (Value.ref C :: bm).contains (.ref C') = true) (hg : Gl X cn) (hm : X.mg cn = some (.ref C')) (hd : (cn == ("__debug__" : Str)) = false)
 (hN : X.N.Nodup) (hj : X.N[j]? = some n) (hk : X.env.kindOf n = some .local)
 (hs : ∀ (oe : Obj) (s6 : Shared), Inv X pins σ H' s6 -> PinOk X H' s6 (a, oe) -> oe.cls = .ref C -> oe.dict = dct -> (∃ vs, oe.data = .fields vs) -> ∃ ps H6 ts, Inv X pins σ H6 s6 ∧ (∀ p ∈ ps, PinOk X H6 s6 p) ∧ PSs (handX X a ps) (b0 :: suite) ts ∧ ts { nx := fun σ2 H2 => ∀ s2, Inv X pins (σ2.set j none) H2 s2 -> Qf .next s2, rt := fun _ _ => False } (σ.set j (some (.ref a))) H6) :
 wpAny (model X.prog X.w) X.A (noteFrame (.ref a) X.env) (fun _ s2 => wpAny (model X.prog X.w) X.A (setFlight (.ref a) none) (fun _ s3 => wpAny (model X.prog X.w) X.A (handleBy (.ref a) X.env [.ExceptHandler (some (.Name cn cp)) (some n) (b0 :: suite) hp]) Qf X.xe s3) X.xe s2) X.xe s' := by
 obtain ⟨B, a0, fb⟩ := fly.b
 have hfs : X.A.frames = some (X.env :: X.outer) := by rw [<- hstk]; exact I.ok.frames
 have fl0 := fb.fl
 rw [hstk] at fl0
 refine wpAny_mono (wpAny_kd kd_note (wpAny_looks_onW (M := model X.prog X.w) (E := X.xe) (Q := fun _ t => ∃ h4, t = { s' with heap := h4 } ∧ Heap.HeldW B (X.env :: X.outer) a (.ref C) a0 X.env.locals h4 ∧ s'.heap.UpToSlots h4) hfs hfr fl0 fun h4 held up4 => ⟨h4, rfl, held, up4⟩)) (fun _ t ⟨⟨h4, e4, held, up4⟩, dk4⟩ => ?_) fun _ _ z => z
 subst e4
 refine wpAny_mono (wpAny_kd kd_setFlight (wpAny_landsW (M := model X.prog X.w) (E := X.xe) (s := { s' with heap := h4 }) (Q := fun _ t => ∃ h5, t = { s' with heap := h5 } ∧ Heap.FlyingW B (X.env :: X.outer) a (.ref C) a0 h5 ∧ h4.UpToSlots h5) held fun h5 fl5 up5 => ⟨h5, rfl, fl5, up5⟩)) (fun _ t ⟨⟨h5, e5, fl5, up5⟩, dk5⟩ => ?_) fun _ _ z => z
 subst e5
 rw [<- hstk] at fl5
 have fb5 := fb.on fl5 (up4.trans up5) (dk4.trans dk5)
 have I5 := fb5.inv I
 obtain ⟨oe, pin, hcls, _, hfld⟩ := fb5.pin I hstk hfr
 have J5 := Inv.hand (a := a) (ps := [(a, oe)]) I5 fun p hp => by rw [List.mem_singleton.mp hp]; exact pin
 obtain ⟨nm, q, N, bs, hdct, sn, sub, ab, col, dd, k0, k1, k2, k3, k5, nid, lk⟩ := c
 obtain ⟨nm', q', N', bs', hdct', sn', sub', ab', col', dd', j0, j1, j2, j3, j5, nid', lk'⟩ := c'
 refine wpAny_handleBy_cons (codeAny_handlers_test (ld_glob (X := handX X a [(a, oe)]) J5 hg hm ?_ hd)) (by intro z; cases z)
 refine exc_parent (I5.kIn _ _ lk) pin.1 hcls (I5.kIn _ _ lk') hb hin ?_
 refine codeAny_handlers_suite_as ?_
 refine wpAny_mono (wpAny_kd kd_setFlight (lands_againW (M := model X.prog X.w) (E := X.xe) (s := { s' with heap := h5 }) (Q := fun _ t => ∃ h6, t = { s' with heap := h6 } ∧ Heap.FlyingW B X.stack a (.ref C) a0 h6 ∧ h5.UpToSlots h6) fl5 fun h6 fl6 up6 => ⟨h6, rfl, fl6, up6⟩)) (fun _ t ⟨⟨h6, e6, fl6, up6⟩, dk6⟩ => ?_) fun e s z => (hno e s z).elim
 subst e6
 have fb6 := fb5.on fl6 up6 dk6
 have I6 := fb6.inv I
 obtain ⟨oe6, pin6, hcls6, hdct6, hfld6⟩ := fb6.pin I hstk hfr
 obtain ⟨ps, H6, ts, I6', pins6, h1, h2⟩ := hs oe6 _ I6 pin6 hcls6 hdct6 hfld6
 have J6 := Inv.hand (a := a) (ps := ps) I6' pins6
 refine store_ok (X := handX X a ps) J6 hN hj (.inl hk) (v := .ref a) rfl (fun s7 J7 => ?_) (.inr hk)
 refine wpAny_mono (h1 pins s7 _ _ _ J7 h2) (fun fl s8 h8 => ?_) fun e s z => (hno e s z).elim
 cases fl with
 | next =>
  obtain ⟨σ8, H8, J8, q8⟩ := h8
  have I8 := Inv.unhand I.ok J8
  obtain ⟨m, hn, hl⟩ := id I8.loc
  exact wpAny_nameGoes_keeps hk hn (by rw [I.ok.kind]; rfl) fun h9 v hn9 hs9 => q8 _ (Inv.unname I8 hN hj hk hn hl hn9 hs9)
 | ret v => obtain ⟨_, _, _, _, _, z⟩ := h8; exact z.elim
 | brk => obtain ⟨_, _, _, z⟩ := h8; exact z.elim
 | cont => obtain ⟨_, _, _, z⟩ := h8; exact z.elim
end
end Y
namespace Y
open PySem PySem.Spec PyProof.Rows L2
open PySem.W (Frag InstAt findIn findObj looks_findIn looks_find looks_mroIn mroIn KitX kia_one kitOne)
structure ExcG (K : Frag) (C : Addr) : Prop where
 ga : findIn K (.ref C) "__getattribute__" = some (some (.builtin "BaseException.__getattribute__"))
 gt : findIn K (.ref C) "__getattr__" = some none
 be : mroIn K C (.type "BaseException") = some true
 ob : mroIn K C (.type "object") = some true
 cl : findIn K (.ref C) "__class__" = some (some (.builtin "object.__class__"))
 cs : (PySem.W.clsIn K C).isSome = true
 me : PySem.W.kitCls K (.ref C) (.ref C) = some true
 gn : PySem.W.specialIn K (.builtin "object.__class__") "__get__" = some (some (.builtin "getset_descriptor.__get__"))
 tk : PySem.W.takesIn K (.builtin "object.__class__") = some true
section
variable {prog : Program} {w : World} {A : Around} {E : Value -> Shared -> Prop} {s : Shared} {K : Frag} {x C : Addr} {ox : Obj} {od : Option Obj} {name : Str}
theorem exc_check {M : Model} {nameV : Value} {Q : Unit -> Shared -> Prop} (X : K.In s.heap) (I : InstAt s.heap x ox C od) (G : ExcG K C) (h : Q () s) : wpAny M A (checkBuiltinCall "BaseException.__getattribute__" ⟨[.ref x, nameV], []⟩) Q E s := by
 obtain ⟨hh, g, d, t, os⟩ := s
 have L0 := I.type (M := M)
 have L1 := looks_mroIn (M := M) X G.be
 have hk : builtinKind "BaseException.__getattribute__" = some .slot := by decide +kernel
 have hsplit : splitId "BaseException.__getattribute__" = some ("BaseException", "__getattribute__") := by decide +kernel
 have ha := F.args_bexc_ga (.ref x) nameV
 simp only [checkBuiltinCall, hk, hsplit]
 unfold isInstance
 repeat (first | lk | wp_step)
 exact h
theorem exc_run {tk : Tok} {fill expr : Bool} {Q : Value -> Shared -> Prop} (X : K.In s.heap) (I : InstAt s.heap x ox C od) (G : ExcG K C)
 (h : ∀ A', wpAny (model prog w) A' (Builtin.«object.__getattribute__» ⟨[.ref x, .str name tk], []⟩) (fun fin s' => match fin with | .done (.ret v) => wpAny (model prog w) A (handedOut v) Q E s' | _ => False) (fun _ _ => False) s) :
 wpAny (model prog w) A (getAttrBy (.ref x) (.str name tk) fill expr) Q E s := by
 obtain ⟨hh, g, d, t, os⟩ := s
 have L0 := I.type (M := model prog w)
 have L1 := looks_findIn (M := model prog w) X G.ga
 have L2 := looks_findIn (M := model prog w) X G.gt
 have fb := F.excAttr_ValueError.ga.bind (.ref x)
 unfold getAttrBy
 refine wpAny_holding (wpAny_bind (L0.at (wpAny_bind (L1.at ?_))))
 have hx2 : (onTheHeap (Value.ref C) && Value.builtin "BaseException.__getattribute__" == Value.builtin "object.__getattribute__") = false := by
  rw [show (Value.builtin "BaseException.__getattribute__" == Value.builtin "object.__getattribute__") = false by decide +kernel, Bool.and_false]
 have hx0 : (expr && onTheHeap (Value.builtin "BaseException.__getattribute__")) = false := by cases expr <;> rfl
 simp only [hx2, Bool.false_eq_true, if_false]
 unfold getAttrByItsOwn hookBefore callGetattribute boundAndCalled
 simp only [Bool.and_false, Bool.false_eq_true, if_false, onTheHeap, if_true]
 refine wpAny_bind (L2.at (wpAny_bind (wpAny_attempt (wpAny_holding ?_))))
 rw [fb]
 refine wpAny_bind (wpAny_pure (wpAny_call ?_))
 refine codeAny_call_builtin F.excAttr_ValueError.ga.plain F.entry_bexc_ga (exc_check X I G ?_)
 refine wpAny_mono (h _) (fun fin s' z => ?_) fun _ _ z => z.elim
 rcases fin with (_ | _ | _ | _) | _ <;> first | exact z | exact z.elim
theorem exc_entryV {tk : Tok} {v : Value} {Q : Fin -> Shared -> Prop} (X : K.In s.heap) (I : InstAt s.heap x ox C od) (hf : findObj K C od name = some (.value v)) (h : Q (.done (.ret v)) s) :
 wpAny (model prog w) A (Builtin.«object.__getattribute__» ⟨[.ref x, .str name tk], []⟩) Q E s := by
 obtain ⟨hh, gg, d, t, os⟩ := s
 have L0 := I.type (M := model prog w)
 have L1 := looks_find (M := model prog w) X I hf
 unfold Builtin.«object.__getattribute__»
 exact wpAny_bind (wpAny_pure (wpAny_bind (wpAny_pure (wpAny_bind (L0.at (wpAny_bind (L1.at (wpAny_pure h))))))))
end
variable [Tabs]
def tXW (K : PySem.W.Frag) (i : Nat) (a : Addr) (m : Bool) (ρ : List (Option D)) (d : D) : TE := fun σ H Q => σ[i]? = some (some (.ref a)) ∧ tE K m ρ d σ H Q
def XW (X : Cx) (i : Nat) (a : Addr) (m : Bool) (ρ : List (Option D)) (e : Expr) (d : D) : Prop := PE X e (tXW X.K i a m ρ d)
section
variable {X : Cx} {i : Nat} {a C : Addr} {oe : Obj} {od : Option Obj} {m m1 m2 : Bool} {ρ : List (Option D)} {e b : Expr} {es : List Expr} {d : D} {ds es' : List D} {x : Str} {p p2 pn pos : Pos} {bv : Bool}
structure ExcP (X : Cx) (a C : Addr) (oe : Obj) (od : Option Obj) : Prop where
 pin : (a, oe) ∈ X.pn
 cls : oe.cls = .ref C
 no : PySem.W.notCls oe = true
 dct : match oe.dict, od with
  | some dx, some o => (dx, o) ∈ X.pn
  | none, none => True
  | _, _ => False
 g : ExcG X.K C
theorem ExcP.inst {pins : List (Addr × Obj)} {σ : St} {H : Hp} {s : Shared} (p : ExcP X a C oe od) (I : Inv X pins σ H s) : InstAt s.heap a oe C od := by
 refine ⟨(I.pin _ (List.mem_append_left _ p.pin)).1, p.cls, p.no, ?_⟩
 have h := p.dct
 split at h
 · rename_i e
   simp only [e]
   exact (I.pin _ (List.mem_append_left _ h)).1
 · rename_i e
   simp only [e]
 · exact h.elim
theorem tXW_name {y : Str} (hN : X.N[i]? = some y) (hv : Vis X.env.scope y) (hd : (y == ("__debug__" : Str)) = false) (hcd : (y == ("__classdict__" : Str)) = false) :
 PE X (.Name y p) (fun σ H Q => σ[i]? = some (some (.ref a)) ∧ Q (.ref a) H) := PE.mono (pe_var hN hv hd hcd) fun σ H Q ⟨e, k⟩ => ⟨_, e, k⟩
theorem xw_at {y : Str} {o : Obj} {n : Int} {tk : Tok} (hp : ExcP X a C oe (some o)) (hl : PySem.W.lookIn "at" o = some (some (.int n tk))) (hh : PySem.W.hasDictIn X.K C = true) (hna : findIn X.K (.ref C) "at" = some none) (hN : X.N[i]? = some y := by rfl)
 (hv : Vis X.env.scope y := by first | exact Or.inl rfl | exact Or.inr (Or.inl rfl) | exact Or.inr (Or.inr rfl)) (hd : (y == ("__debug__" : Str)) = false := by decide) (hcd : (y == ("__classdict__" : Str)) = false := by decide) (hb : attributeBase (.Name y p) "at" X.env (eval (.Name y p) X.env) = eval (.Name y p) X.env := by rfl) :
 XW X i a m ρ (.Attribute (.Name y p) "at" pos) (.int n) := by
 intro pins s σ H Q I ⟨e, Z, oz, en, k⟩
 refine attr_of hb (thn (tXW_name (p := p) (a := a) hN hv hd hcd pins s σ H (fun v H1 => v = .ref a ∧ H1 = H) I ⟨e, rfl, rfl⟩) fun u s1 ⟨v, H1, I1, r1, q1, q2⟩ => ?_)
 subst q1 q2
 cases r1
 have hf : findObj X.K C (some o) "at" = some (.value (.int n tk)) := PySem.W.findObj_own hh hna rfl hl
 have J := I1.tok (s1.toks + 1)
 unfold getAttr
 refine wpAny_bind (wpAny_mkText ?_)
 refine exc_run (s := { s1 with toks := s1.toks + 1 }) J.kIn (hp.inst J) hp.g fun A' => exc_entryV (s := { s1 with toks := s1.toks + 1 }) J.kIn (hp.inst J) hf ?_
 exact PySem.W.handed_on rfl ⟨.int n, H1, J, ⟨tk, rfl⟩, k _ H1 (Same.refl H1) (in_int.mpr rfl)⟩
end
section
variable {X : Cx} {F : Fn} {ρ : Rho} {Q : EndD} {rest : List Stmt} {e : Expr} {d : D} {pos p : Pos} {i j : Nat} {x : Str} {a : Addr}
theorem rf_at {K : PySem.W.Frag} {H : Hp} {σ hv : St} {hρ : Rho} {A : Nat -> List Addr} {v : V} (hi : ρ[i]? = some (some (.rf v))) (hl : σ.length = ρ.length) (S : StIn K F H (σ ++ hv) (ρ ++ hρ) A) : σ[i]? = some (some v) := by
 have il : i < ρ.length := (List.getElem?_eq_some_iff.mp hi).1
 obtain ⟨u, e1, e2⟩ := S.at' i (.rf v) (by rw [List.getElem?_append_left il]; exact hi)
 rw [List.getElem?_append_left (by omega)] at e1
 rw [e1, show u = v from e2]
theorem sd_setW (j : Nat) (he : XW X i a true (view true false ρ) e d) (hr : SD X F rest (ρ.set j (some (.pl true d))) Q) (hN : X.N.Nodup) (hi : ρ[i]? = some (some (.rf (.ref a))) := by rfl) (hj : X.N[j]? = some x := by rfl)
 (hx : Loc X.env.scope x := by first | exact Or.inl rfl | exact Or.inr rfl) (hρ : j < ρ.length := by exact of_decide_eq_true rfl) (hs : swapsWith e (some (.Name x p)) pos.line X.env = pure false := by rfl) (hf : X.fn x = true ∨ X.env.scope.names.lookup x = some .local := by first | exact .inl rfl | exact .inr rfl) :
 SD X F (.Assign [.Name x p] e pos :: rest) ρ Q :=
 sd_then (PS.mono (ps_set hN hj hx he hs hf) fun Q' σ H z0 => el33 z0 fun hv hρ' A hl S f => ⟨rf_at hi hl S, _, vz_open S true false, S.env hl true false, fun v H1 s1 i1 => f.nx _ H1 (put_pl hl S hρ s1 (In.up (zn_open S true) i1))⟩) hr
end
end Y
namespace Y
open PySem PySem.Spec PyProof.Rows L2
variable [Tabs]
abbrev OD := Except XD D
def tEX (K : PySem.W.Frag) (m : Bool) (ρ : List (Option D)) (o : OD) (σ : L2.St) (H : Hp) (Q : VK) (Ex : XK) : Prop := ∃ Z : Zone, Z.Open H ∧ EnvIn K H Z σ ρ ∧ match o with
 | .ok d => ∀ v H', Same H H' -> In K H' (out m Z H) d v -> Q v H'
 | .error c => c.E Ex H
def XF (X : Cx) (pins : List (Addr × Obj)) (σ : L2.St) (Ex : XK) (e : Value) (s' : Shared) : Prop := ∃ H1 s1, Inv X pins σ H1 s1 ∧ CX1 X.prog X.w X.stack H1 s1 Ex e s'
def EX (X : Cx) (m : Bool) (ρ : List (Option D)) (e : Expr) (o : OD) : Prop := ∀ (pins : List (Addr × Obj)) (s : Shared) (σ : L2.St) (H : Hp) (Q : VK) (Ex : XK), Inv X pins σ H s -> tEX X.K m ρ o σ H Q Ex -> wpAny (model X.prog X.w) X.A (eval e X.env) (EP X pins σ Q) (XF X pins σ Ex) s
section
variable {X : Cx} {ρ : List (Option D)} {m m1 : Bool} {e : Expr} {es : List Expr} {ds : List D} {o : OD} {pos p : Pos} {k : Nat} {x : Str} {G : List D -> D -> Prop} {R : List D -> XD -> Prop}
def OutX (G : List D -> D -> Prop) (R : List D -> XD -> Prop) (ds : List D) : OD -> Prop
 | .ok d => G ds d
 | .error c => R ds c
theorem ex_call (Df : DefX X.prog X.w X.K X.mg X.base k x m G R) (hno : ∀ e s, ¬ X.xe e s) (hr : Room k X.A) (ha : EA X ρ (e :: es) ds) (h : OutX G R ds o) (hg : Gl X x := by rfl) (hdb : (x == ("__debug__" : Str)) = false := by decide)
 (he : starEach (e :: es) X.env = (false, eval e X.env) :: starEach es X.env := by rfl) (hpl : (backTo pos (starEach es X.env)).any (·.1) = false := by rfl) : EX X m ρ (.Call (.Name x p) (e :: es) [] pos) o := by
 intro pins s σ H Q Ex I ⟨Z, oz, en, kq⟩
 obtain ⟨f, fd, ps, a, b, c, dd⟩ := Df.ex
 refine wp_callX hno a hr hg b c dd ha I ⟨Z, oz, en, fun vs H1 s1 i1 => ?_⟩ (fun H1 s1 e s' I1 hq => ⟨H1, s1, I1, hq⟩) hdb he hpl
 show spX X.K m G R (vs ++ []) H1 Q Ex
 rw [List.append_nil]
 refine ⟨Z, ds, oz.same s1, i1, ?_⟩
 cases o with
 | ok d => exact .inl ⟨d, h, fun v H' s' i => kq v H' (s1.trans s') (i.later s1)⟩
 | error c => exact .inr ⟨c, h, XD.E.same s1 kq⟩
end
section
variable {X : Cx} {F : Fn} {ρ : Rho} {Q : EndD} {rest suite : List Stmt} {b0 : Stmt} {e : Expr} {o : OD} {pos p p1 hp cp : Pos} {k j : Nat} {x n cn : Str} {C C' : Addr} {bm bm' : List Value}
theorem StIn.un {K : PySem.W.Frag} {H : Hp} {σ hv : L2.St} {r hρ : Rho} {A : Nat -> List Addr} (S : StIn K F H (σ ++ hv) (r ++ hρ) A) (hl : σ.length = r.length) (hj : j < r.length) : StIn K F H (σ.set j none ++ hv) (r.set j none ++ hρ) A := by
 refine ⟨S.same, S.opn, S.nd, S.one, S.new, S.lst, fun i sl e => ?_⟩
 rw [<- set_app hj] at e
 rw [<- set_app (by omega)]
 by_cases q : j = i
 · subst q
   rw [List.getElem?_set] at e
   simp at e
 · rw [List.getElem?_set_ne q] at e ⊢
   exact S.at' i sl e
theorem StIn.rf {K : PySem.W.Frag} {H H1 : Hp} {σ hv : L2.St} {r hρ : Rho} {A : Nat -> List Addr} {v : V} (S : StIn K F H (σ ++ hv) (r ++ hρ) A) (hl : σ.length = r.length) (hj : j < r.length) (s : Same H H1) : StIn K F H1 (σ.set j (some v) ++ hv) (r.set j (some (.rf v)) ++ hρ) (putA A j []) := by
 rw [<- set_app (by omega), <- set_app hj]
 exact S.put (by rw [List.length_append]; omega) (by rw [List.length_append]; omega) s List.nodup_nil (fun a ha => by simp at ha) rfl
structure Caught (X : Cx) (C C' : Addr) (cn n : Str) (j : Nat) : Prop where
 c : ∃ bm, ExcO X.K C bm ∧ (Value.ref C :: bm).contains (.ref C') = true
 c' : ∃ bm', ExcO X.K C' bm' ∧ bm'.contains (.type "BaseException") = true
 g : ExcG X.K C
 hm : X.mg cn = some (.ref C')
def CatchS (X : Cx) (F : Fn) (st : List Stmt) (ρ : Rho) (j : Nat) (c : XD) (N : Rho -> Prop) : Prop := ∀ a ps oe od, ExcP (handX X a ps) a c.c oe od -> (∀ n, c.n = some n -> ∃ o t, od = some o ∧ PySem.W.lookIn "at" o = some (some (.int n t))) ->
 SD (handX X a ps) F st (ρ.set j (some (.rf (.ref a)))) { nx := fun r => j < r.length ∧ N (r.set j none), rt := fun _ => False }
def ExAt (H : Hp) (o : OD) : XK := fun cls dct H' => Same H H' ∧ ∃ c, o = .error c ∧ cls = .ref c.c ∧ match c.n with
 | none => dct = none
 | some n => ∃ dx, dct = some dx ∧ H dx = none ∧ H' dx = some (.xd [("at", .int n)])
theorem exAt {H : Hp} {c : XD} (h : o = .error c) : c.E (ExAt H o) H := by
 unfold XD.E
 split
 · rename_i q
   exact fun H' s' => ⟨s', c, h, rfl, by rw [q]⟩
 · rename_i n q
   exact fun H' dx s' h1 h2 => ⟨s', c, h, rfl, by rw [q]; exact ⟨dx, rfl, h1, h2⟩⟩
theorem same_off {H H' : Hp} {dx : Addr} {fs : List (Str × V)} (s : Same H H') (h1 : H dx = none) (h2 : H' dx = some (.xd fs)) : Same H (offH H' dx) := by
 have ne : ∀ {b : Addr} {o : HO}, H b = some o -> b ≠ dx := fun {b o} e z => by rw [z, h1] at e; cases e
 have ne2 : ∀ {b : Addr} {o : HO}, H' b = some o -> (∀ fs, o ≠ .xd fs) -> b ≠ dx := fun {b o} e n z => by rw [z, h2] at e; exact n fs (Option.some.inj e).symm
 refine ⟨fun b o e n => by rw [offH_ne (ne e)]; exact s.get b o e n, fun b ps e => by rw [offH_ne (ne e)]; exact s.tbl b ps e, fun t P hP => ?_⟩
 obtain ⟨ps, e, tr, k⟩ := s.tabs t P hP
 refine ⟨ps, by rw [offH_ne (ne2 e (by intro _ z; cases z))]; exact e, tr, fun pos cv q => ?_⟩
 obtain ⟨c, rfl, hc⟩ := k pos cv q
 exact ⟨c, rfl, by rw [offH_ne (ne2 hc (by intro _ z; cases z))]; exact hc⟩
theorem try_catch {pins : List (Addr × Obj)} {σ hv : L2.St} {hρ : Rho} {A : Nat -> List Addr} {H : Hp} {D : Ends} {e1 : Value} {s1 : Shared} (h1 : XF X pins σ (ExAt H o) e1 s1) (hno : ∀ e s, ¬ X.xe e s) (hl : σ.length = ρ.length) (S : StIn X.K F H (σ ++ hv) (ρ ++ hρ) A)
 (f : Fits X.K F hv hρ { Q with nx := fun r => SD X F rest r Q } D) (herr : ∀ c, o = .error c -> Caught X c.c C' cn n j ∧ CatchS X F (b0 :: suite) ρ j c fun r => SD X F rest r Q)
 (hN : X.N.Nodup) (hstk : X.stack = X.env :: X.outer) (hfr : X.env.frame = some X.env.locals) (hj : X.N[j]? = some n) (hjn : X.env.kindOf n = some .local) (hρj : j < ρ.length) (hg : Gl X cn) (hd : (cn == ("__debug__" : Str)) = false) :
 wpAny (model X.prog X.w) X.A (noteFrame e1 X.env) (fun _ s2 => wpAny (model X.prog X.w) X.A (setFlight e1 none) (fun _ s3 => wpAny (model X.prog X.w) X.A (handleBy e1 X.env [.ExceptHandler (some (.Name cn cp)) (some n) (b0 :: suite) hp]) (SP X pins D) X.xe s3) X.xe s2) X.xe s1 := by
 obtain ⟨H1, s2, I2, a, cls, dct, H', rfl, fly, sm, c, ho, rfl, hn⟩ := h1
 obtain ⟨cg, hsuite⟩ := herr c ho
 obtain ⟨bm, c1, c2⟩ := cg.c
 obtain ⟨bm', c3, c4⟩ := cg.c'
 refine wp_catch hno I2 fly hstk hfr c1 c3 c4 c2 hg cg.hm hd hN hj hjn fun oe s6 I6 pin g1 g2 ⟨vs, g3⟩ => ?_
 have fin : ∀ {ps : List (Addr × Obj)} {H6 : Hp} {od : Option Obj}, Same H H6 -> ExcP (handX X a ps) a c.c oe od -> (∀ n, c.n = some n -> ∃ o t, od = some o ∧ PySem.W.lookIn "at" o = some (some (.int n t))) ->
  ∃ ts, PSs (handX X a ps) (b0 :: suite) ts ∧ ts { nx := fun σ2 H2 => ∀ s2, Inv X pins (σ2.set j none) H2 s2 -> SP X pins D .next s2, rt := fun _ _ => False } (σ.set j (some (.ref a))) H6 := fun {ps H6 od} sm6 ex ha =>
  ⟨_, hsuite a ps oe od ex ha, hv, hρ, _, by simp [hl], S.rf hl hρj sm6, ⟨f.hl, fun σ2 H2 ⟨r, A2, hl2, S2, hjr, sd⟩ s3 I3 => ⟨_, H2, I3, f.nx _ H2 ⟨_, A2, by simp [hl2], S2.un hl2 hjr, sd⟩⟩, fun _ _ ⟨_, _, _, _, z⟩ => z.elim, fun _ _ ⟨_, _, _, _, z⟩ => z.elim, fun _ _ _ _ _ z => z.elim, fun _ _ _ _ _ _ _ _ z => z.elim, fun _ _ _ _ _ _ _ _ _ _ _ _ _ z => z.elim⟩⟩
 have hnc : PySem.W.notCls oe = true := by unfold PySem.W.notCls; rw [g3]
 cases hc : c.n with
 | none =>
  rw [hc] at hn
  have hn : dct = none := hn
  subst hn
  obtain ⟨ts, k1, k2⟩ := fin (ps := [(a, oe)]) (od := none) sm ⟨by simp [handX], g1, hnc, by rw [g2]; trivial, cg.g⟩ fun n e => by rw [hc] at e; cases e
  exact ⟨[(a, oe)], H', ts, I6, fun p hp => by rw [List.mem_singleton.mp hp]; exact pin, k1, k2⟩
 | some m =>
  rw [hc] at hn
  obtain ⟨dx, e2, hd1, hd2⟩ := hn
  subst e2
  obtain ⟨od, pd, t, hlk⟩ := Inv.pinD I6 hd2 fun b hb => I6.stkFree b (by
   rw [hstk]
   unfold frs
   rw [List.filterMap_cons, hfr]
   exact List.mem_cons_of_mem _ hb)
  obtain ⟨ts, k1, k2⟩ := fin (ps := [(a, oe), (dx, od)]) (od := some od) (same_off sm hd1 hd2) ⟨by simp [handX], g1, hnc, by rw [g2]; simp [handX], cg.g⟩ fun n e => ⟨od, t, rfl, by rw [hc] at e; cases e; exact hlk⟩
  refine ⟨[(a, oe), (dx, od)], offH H' dx, ts, Inv.forget I6 hd2, fun p hp => ?_, k1, k2⟩
  rcases List.mem_cons.mp hp with rfl | hp
  · exact ⟨pin.1, offH_none pin.2.1, pin.2.2⟩
  · rw [List.mem_singleton.mp hp]; exact pd
theorem sd_trySet (k j : Nat) (he : EX X true (view true false ρ) e o) (hno : ∀ e s, ¬ X.xe e s) (hok : ∀ d, o = .ok d -> SD X F rest (ρ.set k (some (.pl true d))) Q)
 (herr : ∀ c, o = .error c -> Caught X c.c C' cn n j ∧ CatchS X F (b0 :: suite) ρ j c fun r => SD X F rest r Q)
 (hN : X.N.Nodup) (hstk : X.stack = X.env :: X.outer := by rfl) (hfr : X.env.frame = some X.env.locals := by rfl) (hk : X.N[k]? = some x := by rfl) (hj : X.N[j]? = some n := by rfl) (hkx : Loc X.env.scope x := by first | exact Or.inl rfl | exact Or.inr rfl) (hjn : X.env.kindOf n = some .local := by rfl)
 (hρ : k < ρ.length := by exact of_decide_eq_true rfl) (hρj : j < ρ.length := by exact of_decide_eq_true rfl) (hg : Gl X cn := by rfl) (hd : (cn == ("__debug__" : Str)) = false := by decide)
 (hs : swapsWith e (some (.Name x p)) p1.line X.env = pure false := by rfl) (hf : X.fn x = true ∨ X.env.scope.names.lookup x = some .local := by first | exact .inl rfl | exact .inr rfl) :
 SD X F (.Try [.Assign [.Name x p] e p1] [.ExceptHandler (some (.Name cn cp)) (some n) (b0 :: suite) hp] [] [] pos :: rest) ρ Q := by
 refine sd_seq (N := fun r => SD X F rest r Q) ?_ fun _ h => h
 intro pins s σ H D I ⟨hv, hρ', A, hl, S, f⟩
 refine wpAny_Try_except (wpAny_mono (Q := fun fl s1 => fl = .next ∧ SP X pins D .next s1) (E := XF X pins σ (ExAt H o)) (wpAny_execs_cons (thn (Q := fun fl s1 => fl = .next ∧ SP X pins D .next s1) (wpAny_Assign_Name (wpAny_mono (he pins s σ H (fun v H' => D.nx (σ.set k (some v)) H') (ExAt H o) I ?_)
  (fun v s1 ⟨y, H1, I1, r1, q1⟩ => store_ok I1 hN hk hkx r1 (fun s2 I2 => ⟨rfl, _, H1, I2, q1⟩) hf) fun _ _ z => z) hs) fun fl s1 ⟨e1, q⟩ => ?_)) (fun fl s1 ⟨e1, q⟩ => ?_) fun e1 s1 h1 => try_catch h1 hno hl S f herr hN hstk hfr hj hjn hρj hg hd)
 · refine ⟨_, vz_open S true false, S.env hl true false, ?_⟩
   cases ho : o with
   | ok d => exact fun v H' s1 i1 => f.nx _ H' (by
    obtain ⟨r, A', h1, h2, h3⟩ := put_pl (fr := true) hl S hρ s1 (In.up (zn_open S true) i1)
    exact ⟨r, A', h1, h2, h3 ▸ hok d ho⟩)
   | error c => exact exAt (o := .error c) rfl
 · subst e1
   exact wpAny_execs_nil ⟨rfl, q⟩
 · subst e1
   exact wpAny_execs_nil q
end
end Y
namespace Y
open PySem PySem.Spec PyProof.Rows L2
open PySem.W (Frag findIn mroIn kitOne)
abbrev valB : List Value := [.type "ValueError", .type "Exception", .type "BaseException", .type "object"]
def excGB (K : Frag) (C : Addr) : Bool :=
 findIn K (.ref C) "__getattribute__" == some (some (.builtin "BaseException.__getattribute__")) && findIn K (.ref C) "__getattr__" == some none && mroIn K C (.type "BaseException") == some true && mroIn K C (.type "object") == some true &&
 findIn K (.ref C) "__class__" == some (some (.builtin "object.__class__")) && (PySem.W.clsIn K C).isSome && PySem.W.kitCls K (.ref C) (.ref C) == some true &&
 PySem.W.specialIn K (.builtin "object.__class__") "__get__" == some (some (.builtin "getset_descriptor.__get__")) && PySem.W.takesIn K (.builtin "object.__class__") == some true
theorem ExcG.of {K : Frag} {C : Addr} (h : excGB K C = true) : ExcG K C := by
 unfold excGB at h
 simp only [Bool.and_eq_true, beq_iff_eq] at h
 obtain ⟨⟨⟨⟨⟨⟨⟨⟨h1, h2⟩, h3⟩, h4⟩, h5⟩, h6⟩, h7⟩, h8⟩, h9⟩ := h
 exact ⟨h1, h2, h3, h4, h5, h6, h7, h8, h9⟩
theorem exo_mk {K : Frag} {C N : Addr} {bm bs sub : List Value} {nid : String} {nm q : Str} {hdct ab : Bool} {sn : List Str} {col : Option Bool} {dd : Option Addr} {k0 k1 k2 k3 k5 : Option Value}
 (h : K.lookup C = some (excClassObj nm q C N bs bm hdct sn sub ab col dd k0 k1 k2 k3 k5 nid)) : ExcO K C bm :=
 ⟨nm, q, N, bs, hdct, sn, sub, ab, col, dd, k0, k1, k2, k3, k5, nid, h⟩
end Y
namespace Y
open PySem PySem.Spec PyProof.Rows L2
open PySem.W (Frag InstAt findIn looks_findIn looks_mroIn mroIn clsIn looks_clsIn osa_eq Looks check_slot set_plain)
open Builtin Builtin.ObjectAttr
section
variable {prog : Program} {w : World} {A : Around} {E : Value -> Shared -> Prop} {s : Shared} {K : Frag} {x C b : Addr} {ox : Obj} {cd : ClassData} {name : Str} {v : Value}
theorem exc_osa {tk : Tok} {R : Result -> Shared -> Prop} (X : K.In s.heap) (I : InstAt s.heap x ox C none) (hdn : ox.dict = none) {vs : Array Value} (hdt : ox.data = .fields vs) (hc : clsIn K C = some cd) (hm : cd.mro = .ref C :: .ref b :: valB) (hh : cd.hasDict = true) (ha : findIn K (.ref C) name = some none) (ho : mroIn K C (.type "object") = some true)
 (h : ∀ h' tk', h'.get? x = some { ox with dict := some s.heap.objs.size } -> h'.Ns1 s.heap.objs.size (fun y => if y = name then some v else none) -> (∀ b o, b ≠ x -> s.heap.get? b = some o -> h'.get? b = some o) -> R (.ok (.ret .none)) { s with heap := h', toks := tk' }) :
 codeAny (model prog w) A (.call (.builtin "object.__setattr__") ⟨[.ref x, .str name tk, v], []⟩) R s := by
 have SF := F.store_ValueError
 have sub : Looks (model prog w) s.heap (isInstance (.ref x) (.type "object")) true := I.type.andThen (looks_mroIn X ho)
 refine codeAny_call_builtin SF.slot.plain SF.entry (check_slot (M := model prog w) (i := "object.__setattr__") (owner := "object") (n := "__setattr__") (self := .ref x) (rest := [.str name tk, v]) (kw := []) SF.kind SF.split sub (SF.args (.ref x) (.str name tk) v) ?_)
 have hm' : Looks (model prog w) s.heap (mroOf (.ref C)) cd.mro := (looks_clsIn X hc).andThen .now
 rw [osa_eq, refuse_eq]
 refine wpAny_bind (wpAny_bind (I.type.here (wpAny_bind (hm'.here ?_))))
 rw [hm, refuseLoop_ref, refuseLoop_ref, SF.passes]
 refine wpAny_pure (wpAny_bind (I.type.here (wpAny_bind ((looks_findIn X ha).here (wpAny_bind (wpAny_pure ?_))))))
 show wpAny _ _ (storeInOwnDict (.ref x) (.ref C) (.str name tk) name v false) _ _ _
 obtain ⟨h0, g, dr, t, os⟩ := s
 obtain ⟨hx, hcl, hno, _⟩ := I
 obtain ⟨oc, odd, oda, osl⟩ := ox
 dsimp only at hcl hdn hdt
 subst hcl hdn hdt
 have Lc := looks_clsIn (M := model prog w) X hc
 unfold storeInOwnDict
 refine wpAny_bind (wpAny_pure ?_)
 rw [if_neg (by simp)]
 show wpAny _ _ (instanceDict x true >>= _) _ _ _
 unfold instanceDict
 refine wpAny_bind (wpAny_bind (wpAny_loadPart' hx ?_))
 dsimp only
 refine wpAny_bind (Lc.here ?_)
 rw [hh]
 simp only [Bool.not_true, Bool.false_eq_true, if_false, typeHasDict, Bool.or_self]
 have lt := Heap.lt_size hx
 refine wpAny_bind (wpAny_alloc' (wpAny_bind (wpAny_update' (Heap.get?_push_of_some _ hx) (wpAny_pure ?_))))
 have hx2 := Heap.get?_update_self (h := h0.push { cls := .type "dict", data := .dict #[] }) (fun o => { cls := o.cls, dict := some h0.objs.size, data := o.data, slots := o.slots }) (Heap.get?_push_of_some _ hx) rfl
 have hd2 : ((h0.push { cls := .type "dict", data := .dict #[] }).update x fun o => { cls := o.cls, dict := some h0.objs.size, data := o.data, slots := o.slots }).get? h0.objs.size = some { cls := .type "dict", data := .dict #[] } :=
  (Heap.get?_update_other _ _ (Nat.ne_of_lt lt)).trans (Heap.get?_push_size _ rfl)
 generalize hH : ((h0.push { cls := .type "dict", data := .dict #[] }).update x fun o => { cls := o.cls, dict := some h0.objs.size, data := o.data, slots := o.slots }) = h2 at hx2 hd2
 have kept : ∀ c o, c ≠ x -> h0.get? c = some o -> h2.get? c = some o := fun c o nc e => by
  rw [<- hH, Heap.get?_update_other _ _ (Ne.symm nc)]
  exact Heap.get?_push_of_some _ e
 have n0 : h2.Ns1 h0.objs.size fun _ => none := .of_empty ⟨_, #[], _, hd2, rfl, fun e he => absurd he (by simp), fun _ => rfl⟩
 show wpAny _ _ (storeInDict h0.objs.size (.str name tk) name v) _ _ _
 unfold storeInDict
 refine wpAny_bind (wpAny_pure (wpAny_bind (wpAny_nsSet1 (s := ⟨h2, g, dr, t, os⟩) n0 fun h3 n3 sb => ?_)))
 obtain ⟨o3, es3, ep3, e3, d3, c3⟩ := n3.count (Within.cons name v Within.nil)
 refine wpAny_bind (wpAny_lookBehind e3 (by rw [d3]; exact pastItsLine_dict (Nat.le_trans c3 (Nat.le_add_left 1 sizeLine))) (wpAny_pure ?_))
 exact h h3 _ ((sb.2 x (Nat.ne_of_lt lt)).trans hx2) n3 fun c o nc e => (sb.2 c (Nat.ne_of_lt (Heap.lt_size e))).trans (kept c o nc e)
theorem exc_set {Q : Unit -> Shared -> Prop} (X : K.In s.heap) (I : InstAt s.heap x ox C none) (hdn : ox.dict = none) {vs : Array Value} (hdt : ox.data = .fields vs) (hc : clsIn K C = some cd) (hm : cd.mro = .ref C :: .ref b :: valB) (hh : cd.hasDict = true) (ha : findIn K (.ref C) name = some none) (ho : mroIn K C (.type "object") = some true)
 (hs : findIn K (.ref C) "__setattr__" = some (some (.builtin "object.__setattr__")))
 (h : ∀ h' tk', h'.get? x = some { ox with dict := some s.heap.objs.size } -> h'.Ns1 s.heap.objs.size (fun y => if y = name then some v else none) -> (∀ b o, b ≠ x -> s.heap.get? b = some o -> h'.get? b = some o) -> Q () { s with heap := h', toks := tk' }) :
 wpAny (model prog w) A (setAttr (.ref x) name v) Q E s :=
 set_plain X I hs (exc_osa (s := { s with toks := s.toks + 1 }) X I hdn hdt hc hm hh ha ho h)
end
end Y
namespace Y
open PySem PySem.Spec PyProof.Rows L2
open PySem.W (Frag InstAt findIn looks_findIn looks_mroIn mroIn clsIn typeIn special_fn Looks)
section
variable {prog : Program} {w : World} {A : Around} {E : Value -> Shared -> Prop} {h : Heap} {g : Array GenState} {d : Drawn} {t : Nat} {os : OsState} {K : Frag}
variable {nm q : Str} {C N fI : Addr} {bs bm bmB : List Value} {hdct : Bool} {sn : List Str} {sub : List Value} {ab : Bool} {col : Option Bool} {dd : Option Addr} {k0 k1 k2 k3 k5 : Option Value} {B nid iid : String}
theorem made_new {rest : List Value} : Heap.MadeExcOf h ((h.push { cls := .type "tuple", data := .seq rest.toArray }).push { cls := .ref C, data := .fields #[.ref h.objs.size, .none, .none, .none, .bool false, .none] }) (h.objs.size + 1) (.ref C) rest := by
 have s1 : (h.push { cls := .type "tuple", data := .seq rest.toArray }).objs.size = h.objs.size + 1 := Heap.size_push _ _
 refine ⟨fun b o e => Heap.get?_push_of_some _ (Heap.get?_push_of_some _ e), Heap.get?_none_of_le (Nat.le_succ _), h.objs.size, ?_, Heap.get?_none_of_le (Nat.le_refl _), Heap.get?_push_of_some _ (Heap.get?_push_size _ rfl)⟩
 rw [<- s1]
 exact Heap.get?_push_size _ rfl
theorem exc_type_call {rest : List Value} {Q : Fin -> Shared -> Prop} (F : ExcBaseFacts B nid iid bmB) (T : OwnTail h bmB bm) (hC : h.get? C = some (excClassObj nm q C N bs bm hdct sn sub ab col dd k0 k1 k2 k3 k5 nid)) (X : K.In h)
 (hi : findIn K (.ref C) "__init__" = some (some (.ref fI))) (hf : typeIn K (.ref fI) = some (.type "function")) (me : mroIn K C (.ref C) = some true) (hrest : rest.length <= sizeLine)
 (hq : ∀ h' e, Heap.MadeExcOf h h' e (.ref C) rest -> h.objs.size <= h'.objs.size -> wpAny (model prog w) A (call (.ref fI) (.ref e :: rest)) (fun r s' => r = .none ∧ Q (.done (.ret (.ref e))) s') E ⟨h', g, d, t, os⟩) :
 wpAny (model prog w) A (Builtin.«type.__call__» ⟨.ref C :: rest, []⟩) Q E ⟨h, g, d, t, os⟩ := by
 wp_walk using wpAny_loadPart' hC, wpAny_madeBy_exc hC
 refine codeAny_call_builtin_code (Code.quiet_builtin _ F.quiet) (wpAny_check_new_subT F T hC (codeAny_exc_new_subT F T hC ?_ hrest))
 have hm := made_new (h := h) (C := C) (rest := rest)
 have hz : h.objs.size <= ((h.push { cls := .type "tuple", data := .seq rest.toArray }).push { cls := .ref C, data := .fields #[.ref h.objs.size, .none, .none, .none, .bool false, .none] }).objs.size := by
  rw [Heap.size_push, Heap.size_push]
  omega
 generalize ((h.push { cls := .type "tuple", data := .seq rest.toArray }).push { cls := .ref C, data := .fields #[.ref h.objs.size, .none, .none, .none, .bool false, .none] }) = h1 at hm hz ⊢
 generalize h.objs.size + 1 = e at hm ⊢
 obtain ⟨t0, he, _, _⟩ := hm.there
 have X1 := X.keeps hm.keeps
 have I1 : InstAt h1 e _ C none := ⟨he, rfl, rfl, trivial⟩
 have L1 : Looks (model prog w) h1 (isInstance (.ref e) (.ref C)) true := I1.type.andThen (looks_mroIn X1 me)
 show wpAny _ _ _ _ _ _
 refine wpAny_bind (L1.here ?_)
 rw [if_neg (by decide)]
 refine wpAny_bind (wpAny_holding (special_fn (s := ⟨h1, g, d, t, os⟩) X1 I1 hi hf (wpAny_mono (hq h1 e hm hz) (fun r s' ⟨e1, q1⟩ => ?_) fun _ _ z => z)))
 subst e1
 exact wpAny_pure q1
theorem exc_call {rest : List Value} {Q : Value -> Shared -> Prop} (F : ExcBaseFacts B nid iid bmB) (T : OwnTail h bmB bm) (hC : h.get? C = some (excClassObj nm q C N bs bm hdct sn sub ab col dd k0 k1 k2 k3 k5 nid)) (X : K.In h)
 (hi : findIn K (.ref C) "__init__" = some (some (.ref fI))) (hf : typeIn K (.ref fI) = some (.type "function")) (me : mroIn K C (.ref C) = some true) (hrest : rest.length <= sizeLine)
 (hq : ∀ h' e, Heap.MadeExcOf h h' e (.ref C) rest -> h.objs.size <= h'.objs.size -> wpAny (model prog w) (A.under (.builtin "type.__call__" ⟨.ref C :: rest, []⟩)) (call (.ref fI) (.ref e :: rest)) (fun r s' => r = .none ∧ Q (.ref e) s') E ⟨h', g, d, t, os⟩) :
 wpAny (model prog w) A (call (.ref C) rest) Q E ⟨h, g, d, t, os⟩ := by
 have b0 := tc_bind (.ref C)
 have l0 := tc_lookup
 refine wpAny_call (codeAny_of_tree (show wpAny _ _ (callAny (.ref C) _) _ _ _ from ?_))
 wp_walk using wpAny_loadPart' hC
 exact ⟨rfl, codeAny_call_builtin_at (Code.quiet_builtin _ (by decide +kernel)) entry_typeCall (wpAny_check_type_call_sub hC (exc_type_call F T hC X hi hf me hrest fun h' e hm hz => hq h' e hm hz))⟩
end
end Y
namespace Y
open PySem PySem.Spec PyProof.Rows L2
open PySem.W (Frag InstAt findIn mroIn clsIn)
section
variable {P : Program} {w : World} {K : Frag} {mg : Str -> Option Value} {base : Heap} {A : Around} {outer : List Env} {s : Shared} {H : Hp} {k : Nat} {C b fI e : Addr} {oe : Obj} {cd : ClassData} {u : Value} {vs : Array Value}
 {name qual : Str} {params : Arguments} {scope : Scope} {dV kV doc pm cdv ct oc : Value} {an od : Option Addr} {osl : Array (Option Value)} {p1 p2 p3 p4 : Pos}
theorem init_run (lk : K.lookup fI = some ⟨oc, od, .func (PySem.W.fnOf name qual params [.Assign [.Attribute (.Name "self" p1) "at" p2] (.Name "at" p3) p4] scope dV kV doc pm an cdv ct), osl⟩) (hcd : PySem.W.codeIn K cdv qual = true) (S : FnScope ["self", "at"] ["self", "at"] scope)
 (hb : Binds K (PySem.W.fnOf name qual params [.Assign [.Attribute (.Name "self" p1) "at" p2] (.Name "at" p3) p4] scope dV kV doc pm an cdv ct) ["self", "at"] []) (hr : Room k A) (hk : 0 < k) (KX : K.In s.heap) (lim : s.heap.NoLimit)
 (he : s.heap.get? e = some oe) (hcl : oe.cls = .ref C) (hdn : oe.dict = none) (hdt : oe.data = .fields vs) (hc : clsIn K C = some cd) (hm : cd.mro = .ref C :: .ref b :: valB) (hh : cd.hasDict = true) (ha : findIn K (.ref C) "at" = some none) (ho : mroIn K C (.type "object") = some true)
 (hs : findIn K (.ref C) "__setattr__" = some (some (.builtin "object.__setattr__")))
 (hl1 : scope.names.lookup ("self" : Str) = some .local) (hl2 : scope.names.lookup ("at" : Str) = some .local) {R : Result -> Shared -> Prop}
 (h : ∀ h' tk dx, (∀ c o, c ≠ e -> s.heap.get? c = some o -> h'.get? c = some o) -> s.heap.objs.size <= dx -> h'.get? e = some { oe with dict := some dx } -> h'.Ns1 dx (fun y => if y = ("at" : Str) then some u else none) -> R (.ok (.ret .none)) { s with heap := h', toks := tk }) :
 codeAny (model P w) A (.call (.ref fI) ⟨[.ref e, u], []⟩) R s := by
 have hkind : ∀ y ∈ ([("self", Value.ref e), ("at", u)] : List (Str × Value)), scope.names.lookup y.1 = some .local ∨ (scope.names.lookup y.1 = some .cell ∧ ((cellsFrom (s.heap.objs.size + 1) scope.names []).lookup y.1).isSome = true) := fun y hy => by
  simp only [List.mem_cons, List.not_mem_nil, or_false] at hy
  rcases hy with rfl | rfl
  · exact .inl hl1
  · exact .inl hl2
 refine codeAny_call_function (hr.mono hk).depth (KX _ _ lk) rfl S.co S.gen rfl (PySem.W.codeRec_of KX hcd) (hb s [.ref e, u] KX rfl _ _ _ _ ?_)
 refine wpAny_newFunctionEnv_cells S.kind hkind fun env henv s1 x => ?_
 subst henv
 refine ⟨lim.keeps x.toInCall.keep, codeAny_func ?_⟩
 have ns := x.toInCall.ns
 obtain ⟨h1, tk, e1, keep⟩ := x.done
 subst e1
 have m2 := bindL_get (kindOf := (envOfC qual scope s.heap.objs.size fI cdv).kindOf) (P := ["self", "at"]) (vs := [Value.ref e, u]) (i := 1) (x := "at") (m := fun _ => none) S.nd rfl rfl hl2
 have m1 := bindL_get (kindOf := (envOfC qual scope s.heap.objs.size fI cdv).kindOf) (P := ["self", "at"]) (vs := [Value.ref e, u]) (i := 0) (x := "self") (m := fun _ => none) S.nd rfl rfl hl1
 show wpAny (model P w) (A.deeper (envOfC qual scope s.heap.objs.size fI cdv)) (execs _ (envOfC qual scope s.heap.objs.size fI cdv)) _ _ _
 refine wpAny_execs_cons (plainObj_wpAny_Assign_Attribute (wpAny_Name (wpAny_loadName_local S.kind hl2 ns m2 (wpAny_Name (wpAny_loadName_local S.kind hl1 ns m1 ?_) (by decide))) (by decide)))
 refine exc_set (s := { s with heap := h1, toks := tk }) (KX.keeps keep) ⟨keep _ _ he, hcl, by unfold PySem.W.notCls; rw [hdt], by rw [hdn]; trivial⟩ hdn hdt hc hm hh ha ho hs fun h3 tk3 g1 g2 g3 => wpAny_execs_nil ?_
 exact h h3 tk3 _ (fun c o nc q => g3 c o nc (keep c o q)) (Nat.le_trans (Nat.le_of_lt (Nat.lt_of_le_of_lt x.toInCall.fresh ns.lt)) (Nat.le_refl _)) g1 g2
end
end Y
namespace Y
open PySem PySem.Spec PyProof.Rows L2
open PySem.W (Frag InstAt findIn mroIn clsIn typeIn Looks looks_mroIn looks_typeIn)
section
variable {prog : Program} {w : World} {A : Around} {E : Value -> Shared -> Prop} {s : Shared} {env : Env} {K : Frag} {C : Addr}
theorem raise_inst {x : Sem Value} {Q : Flow -> Shared -> Prop} (hh : A.handled = none) (be : mroIn K C (.type "BaseException") = some true) (ty : typeIn K (.ref C) = some (.type "type"))
 (h : wpAny (model prog w) A x (fun v s1 => ∃ e oe vs od, v = .ref e ∧ K.In s1.heap ∧ InstAt s1.heap e oe C od ∧ oe.data = .fields vs ∧ vs[1]? = some .none ∧ E (.ref e) s1) E s) :
 wpAny (model prog w) A (raiseStmt env (some x) none) Q E s := by
 unfold raiseStmt
 refine wpAny_bind (wpAny_mono h (fun v s1 ⟨e, oe, vs, od, ev, X, I, hd, h1, hE⟩ => ?_) fun _ _ z => z)
 subst ev
 obtain ⟨hp, g, d, tk, os⟩ := s1
 have L0 := I.type (M := model prog w)
 have L1 : Looks (model prog w) hp (isInstance (.ref e) (.type "BaseException")) true := L0.andThen (looks_mroIn X be)
 have L2 := looks_typeIn (M := model prog w) X ty
 obtain ⟨he, hc, hn, _⟩ := I
 obtain ⟨oc, odd, oda, osl⟩ := oe
 dsimp only at hc hd
 subst hc hd
 wp_walk using wpAny_loadPart' he, Looks.at L1, Looks.at L0, Looks.at L2
 rw [h1]
 refine wpAny_pure ?_
 rw [if_neg (by decide)]
 exact wpAny_pure (wpAny_raiseNew_none hh hE)
end
structure ErrI (K : Frag) (C b : Addr) : Prop where
 obj : ∃ (nm q : Str) (N : Addr) (bs : List Value) (hdct : Bool) (sn : List Str) (sub : List Value) (ab : Bool) (col : Option Bool) (dd : Option Addr) (k0 k1 k2 k3 k5 : Option Value),
  K.lookup C = some (excClassObj nm q C N bs (.ref b :: valB) hdct sn sub ab col dd k0 k1 k2 k3 k5 "ValueError.__new__")
 tail : PySem.W.tailIn K valB (.ref b :: valB) = true
 cd : ∃ cd, clsIn K C = some cd ∧ cd.mro = .ref C :: .ref b :: valB ∧ cd.hasDict = true
 nat : findIn K (.ref C) "at" = some none
 sa : findIn K (.ref C) "__setattr__" = some (some (.builtin "object.__setattr__"))
 g : ExcG K C
 ty : typeIn K (.ref C) = some (.type "type")
 me : mroIn K C (.ref C) = some true
 kp : PySem.W.keepIn K (.ref C) = true
 init : ∃ (fI : Addr) (name qual : Str) (params : Arguments) (scope : Scope) (dV kV doc pm cdv ct oc : Value) (an od : Option Addr) (osl : Array (Option Value)) (p1 p2 p3 p4 : Pos),
  findIn K (.ref C) "__init__" = some (some (.ref fI)) ∧ typeIn K (.ref fI) = some (.type "function") ∧ K.lookup fI = some ⟨oc, od, .func (PySem.W.fnOf name qual params [.Assign [.Attribute (.Name "self" p1) "at" p2] (.Name "at" p3) p4] scope dV kV doc pm an cdv ct), osl⟩ ∧
  PySem.W.codeIn K cdv qual = true ∧ FnScope ["self", "at"] ["self", "at"] scope ∧ Binds K (PySem.W.fnOf name qual params [.Assign [.Attribute (.Name "self" p1) "at" p2] (.Name "at" p3) p4] scope dV kV doc pm an cdv ct) ["self", "at"] [] ∧
  scope.names.lookup ("self" : Str) = some .local ∧ scope.names.lookup ("at" : Str) = some .local
variable [Tabs]
section
variable {X : Cx} {Ex : XK} {x : Str} {C b : Addr} {e0 : Expr} {t : TA} {np cpos pos : Pos} {k : Nat}
theorem wp_makeI {pins : List (Addr × Obj)} {σ : L2.St} {H1 : Hp} {s1 : Shared} {u : Value} {n : Int} {Q : Value -> Shared -> Prop} {E : Value -> Shared -> Prop} (c : ErrI X.K C b) (hr : Room 2 X.A) (I1 : Inv X pins σ H1 s1) (ru : RelV (.int n) u)
 (hq : ∀ h2 tk e dx oe vs a0, Inv X pins σ (upd H1 dx (.xd [("at", .int n)])) { s1 with heap := h2, toks := tk } -> h2.get? e = some oe -> H1 dx = none -> H1 e = none -> e ≠ dx -> s1.heap.get? e = none -> oe.cls = .ref C -> oe.dict = some dx -> oe.data = .fields vs -> vs[1]? = some .none -> vs[0]? = some a0 -> Q (.ref e) { s1 with heap := h2, toks := tk }) :
 wpAny (model X.prog X.w) X.A (call (.ref C) [u]) Q E s1 := by
 obtain ⟨nm, q, N, bs, hdct, sn, sub, ab, col, dd, k0, k1, k2, k3, k5, lk⟩ := c.obj
 obtain ⟨fI, name, qual, params, scope, dV, kV, doc, pm, cdv, ct, oc, an, od, osl, p1, p2, p3, p4, i1, i2, i3, i4, i5, i6, i7, i8⟩ := c.init
 obtain ⟨cd, c1, c2, c3⟩ := c.cd
 have KX := I1.kIn
 have T := (PySem.W.tail_of_in I1.ok.mod.kin c.tail).keeps I1.bk
 have lim : s1.heap.NoLimit := I1.ok.mod.nolimit.keeps I1.bk
 have hsz := I1.hok
 obtain ⟨h0, g, d, tk0, os⟩ := s1
 refine exc_call F.excBase_ValueError T (KX _ _ lk) KX i1 i2 c.me (show 1 <= sizeLine by decide) fun h1 e hm size => ?_
 obtain ⟨t0, he, _, _⟩ := hm.there
 refine wpAny_call (init_run (s := ⟨h1, g, d, tk0, os⟩) (k := 1) i3 i4 i5 i6 (hr.make C [u] []) (by decide) (KX.keeps hm.keeps) (lim.keeps hm.keeps) he rfl rfl rfl c1 c2 c3 c.nat c.g.ob c.sa i7 i8 fun h2 tk dx g1 g2 g3 g4 => ?_)
 have all : ∀ c o, h0.get? c = some o -> h2.get? c = some o := fun c o q => g1 c o (fun z => by rw [z, hm.new] at q; cases q) (hm.keeps c o q)
 have He : H1 e = none := by
  cases q : H1 e with
  | none => rfl
  | some o => obtain ⟨u, q2⟩ := ObjOk.obj (I1.hok e o q); rw [hm.new] at q2; cases q2
 have Hd : H1 dx = none := I1.hok.fresh (Nat.le_trans size g2)
 have ed : e ≠ dx := fun z => absurd (Heap.lt_size he) (by rw [z]; exact Nat.not_lt.mpr g2)
 refine ⟨rfl, hq h2 tk e dx _ _ _ ?_ g3 Hd He ed hm.new rfl rfl rfl rfl rfl⟩
 refine I1.laid (t' := tk) (fun b u q => all b u q) (Nat.le_trans size g2) ?_
 obtain ⟨tk1, rfl⟩ := (show ∃ t, u = Value.int n t from ru)
 refine ⟨_, g4, fun f => ?_⟩
 by_cases hf : f = "at"
 · subst hf
   exact ⟨tk1, rfl⟩
 · have hf' : (f == ("at" : Str)) = false := beq_eq_false_iff_ne.mpr hf
   simp [List.lookup, hf', hf, RelO]
theorem ps_raiseI (hx : XE2 X Ex) (hex : X.ex = []) (hc : X.calm = true) (hg : Gl X x) (hm : X.mg x = some (.ref C)) (c : ErrI X.K C b) (hr : Room 2 X.A) (ha : PA X [e0] t)
 (hst : starEach [e0] X.env = [(false, eval e0 X.env)] := by rfl) (hd : (x == ("__debug__" : Str)) = false := by decide) :
 PS X (.Raise (some (.Call (.Name x np) [e0] [] cpos)) none pos) (fun _ σ H => t σ H fun vs H1 => ∃ n, vs = [.int n] ∧ ∀ dx, H1 dx = none -> Ex (.ref C) (some dx) (upd H1 dx (.xd [("at", .int n)]))) := by
 intro pins s σ H D I h
 rw [arm_exec_Raise]
 refine wpAny_bind (wpAny_standAt (raise_inst (K := X.K) (C := C) (I.ok.hd hc) c.g.be c.ty ?_))
 refine wpAny_bind (wpAny_mono (Q := fun v s1 => ∃ e oe vs od, v = .ref e ∧ X.K.In s1.heap ∧ InstAt s1.heap e oe C od ∧ oe.data = .fields vs ∧ vs[1]? = some .none ∧ X.xe (.ref e) s1) ?_ (fun v s3 h3 => wpAny_bind (wpAny_standAt (wpAny_pure h3))) fun _ _ z => z)
 refine wpAny_Call_Name_kw (ld_glob I hg hm ?_ hd)
 refine PySem.W.callWith_K (h₀ := X.base) I.ok.mod.kin c.kp (thn (ha cpos pins s σ H _ I h) fun us s1 ⟨vs, H1, I1, r, n, ev, q⟩ => ⟨I1.kIn, ?_⟩) hst rfl
 subst ev
 obtain ⟨u, rfl, ru⟩ := vals1 r
 refine wp_makeI c hr I1 ru fun h2 tk e dx oe vs a0 I2 g1 g2 g3 g4 g5 g6 g7 g8 g9 g10 => ?_
 obtain ⟨ob, hob⟩ := ObjOk.obj (I2.hok dx _ upd_same)
 refine ⟨e, oe, vs, some ob, rfl, I2.kIn, ⟨g1, g6, by unfold PySem.W.notCls; rw [g8], by rw [g7]; exact hob⟩, g8, g9, hx pins σ _ _ e oe vs a0 I2 g1 (by rw [upd_ne g4]; exact g3) ?_ g8 g9 g10 (by rw [g6, g7]; exact q dx g2)⟩
 cases q0 : X.s₀.heap.get? e with
 | none => rfl
 | some o => obtain ⟨u, q2⟩ := I1.base.there e o q0 (by rw [hex]; simp); rw [g5] at q2; cases q2
end
section
variable {X : Cx} {F : Fn} {ρ : Rho} {Q : EndD} {rest : List Stmt} {Ex : XK} {x : Str} {C b : Addr} {e0 : Expr} {m1 : Bool} {n : Int} {np cpos pos : Pos}
theorem sd_raiseI (hx : XE2 X Ex) (hm : X.mg x = some (.ref C)) (c : ErrI X.K C b) (hr : Room 2 X.A) (he : E X m1 (view true false ρ) e0 (.int n)) (hE : (XD.mk C (some n)).E Ex F.H)
 (hex : X.ex = [] := by rfl) (hc : X.calm = true := by rfl) (hg : Gl X x := by rfl) (hst : starEach [e0] X.env = [(false, eval e0 X.env)] := by rfl) (hd : (x == ("__debug__" : Str)) = false := by decide) :
 SD X F (.Raise (some (.Call (.Name x np) [e0] [] cpos)) none pos :: rest) ρ Q :=
 sd_seq (N := fun _ => False) (PS.mono (ps_raiseI hx hex hc hg hm c hr (pa_cons he pa_nil (by rw [hst]; rfl)) hst hd) fun Q' σ H ⟨hv, hρ, A, hl, S, f⟩ =>
  ⟨_, vz_open S true false, S.env hl true false, fun v H1 s1 i1 => ⟨n, by rw [in_int.mp (i1.plain (vz_open S true false))], fun dx hdx => hE _ dx ((S.same.trans s1).trans (same_new hdx)) ((S.same.trans s1).free hdx) upd_same⟩⟩) fun _ n => n.elim
end
end Y
namespace Y
open PySem PySem.Spec PyProof.Rows L2
variable [Tabs]
theorem roomDs {k : Nat} {A : Around} {ds : List D} (r : Room k A) (h : deps ds <= 100) : A.units + 1 + deps ds < cLine := by have := r.un; omega
def scV : D -> Option V
 | .int i => some (.int i)
 | .bl b => some (.bl b)
 | .str x => some (.str x)
 | .non => some .non
 | _ => none
section
variable {K : PySem.W.Frag} {H : Hp} {Z Z' : Zone}
theorem in_kD {k : Key} {v : V} (h : In K H Z (kD k) v) : v = kV k := by
 cases k with
 | inl i => exact in_int.mp h
 | inr x => exact in_str.mp h
theorem ins_kD : ∀ {ks : List Key} {vs : List V}, Ins K H Z (ks.map kD) vs -> vs = ks.map kV
 | [], _, h => ins_nil.mp h
 | k :: ks, _, h => by
  obtain ⟨v, r, rfl, a, j⟩ := ins_cons.mp h
  rw [in_kD a, ins_kD j]; rfl
theorem sc_in {d : D} {w : V} (e : scV d = some w) : In K H Z d w := by
 cases d with
 | non => cases e; exact in_non.mpr rfl
 | bl b => cases e; exact in_bl.mpr rfl
 | int b => cases e; exact in_int.mpr rfl
 | str b => cases e; exact in_str.mpr rfl
 | lst b => cases e
 | tup b => cases e
 | dct b => cases e
 | ktup b => cases e
def DO.at (o : DO) (d : D) (r : Option V) : Prop := match o with
 | .k kvs => ∃ k, d = kD k ∧ r = valV kvs k
 | .t kvs => ∃ ks, d = .tup (ks.map kD) ∧ r = valV kvs ks
theorem dget {o : DO} {d : D} {r : Option V} {x y : V} (hx : In K H Z (.dct o) x) (hy : In K H Z' d y) (h : o.at d r) : ∃ a, x = .ref a ∧ DGet H a y r := by
 obtain ⟨a, rfl, e, _⟩ := in_dct.mp hx
 refine ⟨a, rfl, ?_⟩
 cases o with
 | k kvs =>
  obtain ⟨k, rfl, rfl⟩ := h
  rw [in_kD hy]
  exact .k e
 | t kvs =>
  obtain ⟨ks, rfl, rfl⟩ := h
  obtain ⟨b, xs, rfl, eb, j⟩ := in_tup.mp hy
  rw [ins_kD j] at eb
  exact .t e eb
end
section
variable {X : Cx} {ρ : List (Option D)} {m m1 m2 m3 : Bool} {a b c o e f : Expr} {d dk : D} {pos ap cp : Pos} {D0 : DO} {r : Option V}
theorem e_dsub {dr : D} {v : V} (ho : E X m1 ρ o (.dct D0)) (hi : E X m2 ρ e dk) (hk : D0.at dk (some v)) (hr : scV dr = some v) (hu : X.A.units + 1 < cLine) (hs : NoSl e := by intro _ _; rfl) : E X true ρ (.Subscript o e pos) dr :=
 PE.mono (pe_dget hu ho hi hs) fun σ H Q z0 => el13 z0 fun Z oz en k => ⟨Z, oz, en, fun x H1 s1 i1 => ⟨Z, oz.same s1, en.same s1, fun y H2 s2 i2 => by
  obtain ⟨a, rfl, g⟩ := dget ((i1.plain oz).same s2) (i2.plain (oz.same s1)) hk
  exact ⟨a, v, rfl, g, k _ H2 (s1.trans s2) (sc_in hr)⟩⟩⟩
end
end Y
namespace Y
open PySem PyProof.Rows Builtin Builtin.Str StrLaws
abbrev cl (z : Str) : List Nat := z.cps.toList
def mkS (l : List Nat) : Str := ⟨l.toArray⟩
theorem cl_mkS (l : List Nat) : cl (mkS l) = l := by simp [cl, mkS]
theorem mkS_cl (z : Str) : mkS (cl z) = z := by simp [cl, mkS]
theorem cl_inj {a b : Str} (h : cl a = cl b) : a = b := by rw [<- mkS_cl a, <- mkS_cl b, h]
theorem cl_len (z : Str) : (cl z).length = z.length := by simp [cl, Str.length]
theorem cl_append (a b : Str) : cl (a ++ b) = cl a ++ cl b := by simp [cl, Str.cps_append]
theorem cl_eq_nil {z : Str} : cl z = [] ↔ z = "" := ⟨fun h => cl_inj (by rw [h]; rfl), fun h => by subst h; rfl⟩
def cutAt (c : Nat) : List Nat -> List (List Nat)
 | [] => [[]]
 | k :: r => if k = c then [] :: cutAt c r else (k :: (cutAt c r).headD []) :: (cutAt c r).tail
theorem cutAt_ne (c : Nat) : ∀ l, cutAt c l ≠ []
 | [] => by simp [cutAt]
 | k :: r => by unfold cutAt; split <;> simp
theorem cutAt_free {c : Nat} : ∀ {l : List Nat}, c ∉ l -> cutAt c l = [l]
 | [], _ => rfl
 | k :: r, h => by
  have h1 : ¬ k = c := fun e => h (by simp [e])
  have h2 : c ∉ r := fun e => h (by simp [e])
  simp [cutAt, h1, cutAt_free h2]
theorem cutAt_app {c : Nat} : ∀ {a : List Nat} (b : List Nat), c ∉ a -> cutAt c (a ++ c :: b) = a :: cutAt c b
 | [], b, _ => by simp [cutAt]
 | k :: r, b, h => by
  have h1 : ¬ k = c := fun e => h (by simp [e])
  have h2 : c ∉ r := fun e => h (by simp [e])
  simp [cutAt, h1, cutAt_app b h2]
theorem cutAt_join {c : Nat} : ∀ {ps : List Str}, ps ≠ [] -> (∀ p ∈ ps, c ∉ cl p) -> cutAt c (cl (Str.join ⟨#[c]⟩ ps)) = ps.map cl
 | [], h, _ => absurd rfl h
 | [p], _, h => by
  show cutAt c (cl p) = _
  rw [cutAt_free (h p (by simp))]; rfl
 | p :: q :: r, _, h => by
  show cutAt c (cl (p ++ ⟨#[c]⟩ ++ Str.join ⟨#[c]⟩ (q :: r))) = _
  rw [cl_append, cl_append]
  have e : cl p ++ cl (⟨#[c]⟩ : Str) ++ cl (Str.join ⟨#[c]⟩ (q :: r)) = cl p ++ c :: cl (Str.join ⟨#[c]⟩ (q :: r)) := by simp [cl]
  rw [e, cutAt_app _ (h p (by simp)), cutAt_join (by simp) fun x hx => h x (by simp [hx])]
  rfl
theorem split_ne (x y : Str) : Txt.split x y ≠ [] := by
 unfold Txt.split
 split
 · simp
 · split
   · simp
   · rw [partsBetween_eq]
     obtain ⟨p, r, e⟩ := partsFrom_ne x y.length 0 (occurrences x y 0 x.length (x.length + 1))
     rw [e]; simp
theorem split_cut (x : Str) (c : Nat) : (Txt.split x ⟨#[c]⟩).map cl = cutAt c (cl x) := by
 rw [<- cutAt_join (split_ne x _) (split_free x c), join_split]
end Y
namespace Y
open PySem PyProof.Rows Builtin Builtin.Str StrLaws
def W36 : Str := "abcdefghijklmnopqrstuvwxyz0123456789"
def sgB (c : Nat) : Bool := decide (c ∈ cl W36)
theorem sg_mem {c : Nat} (h : sgB c = true) : c ∈ cl W36 := by simpa [sgB] using h
theorem sg32 : sgB 32 = false := by decide +kernel
end Y
namespace Y
open PySem PyProof.Rows Builtin Builtin.Str StrLaws
def joinL (sep : List Nat) : List (List Nat) -> List Nat
 | [] => []
 | [x] => x
 | x :: y :: r => x ++ sep ++ joinL sep (y :: r)
theorem joinL_cons2 (sep x y : List Nat) (r : List (List Nat)) : joinL sep (x :: y :: r) = x ++ sep ++ joinL sep (y :: r) := rfl
theorem cl_join (sep : Str) : ∀ (ps : List Str), cl (Str.join sep ps) = joinL (cl sep) (ps.map cl)
 | [] => rfl
 | [p] => rfl
 | p :: q :: r => by
  show cl (p ++ sep ++ Str.join sep (q :: r)) = _
  rw [cl_append, cl_append, cl_join sep (q :: r)]
  rfl
theorem cl_tjoin (sep : Str) (ps : List Str) : cl (Txt.join sep ps) = joinL (cl sep) (ps.map cl) := by
 show cl (glued sep ps) = _
 rw [glued_eq_join, cl_join]
theorem joinL_len (sep : List Nat) : ∀ ps : List (List Nat), (joinL sep ps).length <= (ps.map List.length).sum + ps.length * sep.length
 | [] => by simp [joinL]
 | [p] => by simp [joinL]
 | p :: q :: r => by
  have ih := joinL_len sep (q :: r)
  rw [joinL_cons2]
  simp only [List.length_append, List.map_cons, List.sum_cons, List.length_cons, Nat.add_mul, Nat.one_mul] at ih ⊢
  omega
end Y
namespace Y
open PySem PyProof.Rows Builtin Builtin.Str StrLaws
end Y
namespace Y
open PySem PySem.Spec PyProof.Rows L2
variable [Tabs]
def cellAt (ns : List Int) (k : Nat) : Int := ns.getD k 0
def gCellAt (ds : List D) (d : D) : Prop := ∃ (ns : List Int) (k : Nat), ns.length <= 1000 ∧ ds = [.lst (ns.map D.int), .int k] ∧ d = .int (cellAt ns k)
def part (c k m : Int) : Int := (c % 99991 + 17) * (48271 + 7919 * k) % 65537 * (k + 3) % 8191 % m
theorem part_nn (c k : Int) {m : Int} (h : 0 < m) : 0 <= part c k m := Int.emod_nonneg _ (by omega)
theorem part_lt (c k : Int) {m : Int} (h : 0 < m) : part c k m < m := Int.emod_lt_of_pos _ h
def gPart (ds : List D) (d : D) : Prop := ∃ c k m : Int, 0 < m ∧ ds = [.int c, .int k, .int m] ∧ d = .int (part c k m)
def strsD (ws : List Str) : D := .lst (ws.map D.str)
def intsD (ns : List Int) : D := .lst (ns.map D.int)
def tot (rows : List (List Str)) : Nat := (rows.map List.length).sum
theorem rangeD0_get {n i : Nat} {d : D} (h : (rangeD 0 n)[i]? = some d) : i < n ∧ d = .int (i : Nat) := by
 obtain ⟨h1, h2⟩ := rangeD_get h
 exact ⟨h1, by rw [h2, Int.zero_add]⟩
theorem flat_range {lo : Int} {n : Nat} : ∀ d ∈ rangeD lo n, d.flat = true := fun d hd => by obtain ⟨i, _, rfl⟩ := List.mem_map.mp hd; rfl
theorem deps_le {n : Nat} : ∀ {ds : List D}, (∀ d ∈ ds, d.dep <= n) -> deps ds <= n
 | [], _ => by simp [deps]
 | d :: ds, h => by
  have h1 := h d List.mem_cons_self
  have h2 : deps ds <= n := deps_le fun e he => h e (List.mem_cons_of_mem _ he)
  simp [deps]; omega
theorem dep_lst {n : Nat} {ds : List D} (h : ∀ d ∈ ds, d.dep <= n) : (D.lst ds).dep <= n + 1 := by
 have := deps_le h
 simp [D.dep]; omega
theorem roomD {k n : Nat} {A : Around} {d : D} (r : Room k A) (h : d.dep <= n) (hn : n <= 200 := by decide) : A.units + d.dep < cLine := by have := r.un; omega
def asciiS (z : Str) : Prop := ∀ c ∈ cl z, c < 128
theorem inW36 (c : Nat) : (!(Builtin.Str.occurrences W36 ⟨#[c]⟩ 0 W36.length 1).isEmpty) = sgB c := StrLaws.found_one W36 c
theorem parts_len (z y : Str) : (Builtin.Str.partsBetween z (Builtin.Str.occurrences z y 0 z.length (z.length + 1)) y.length).length <= z.length + 2 := by
 have h := StrLaws.occ_length_le_len z y 0 z.length (z.length + 1)
 unfold Builtin.Str.partsBetween
 simp
 omega
theorem lower_len {z : Str} (h : asciiS z) : (Txt.lower z).length = z.length := by
 rw [PyProof.Rows.lower_ascii h]
 show (z.cps.map _).size = z.cps.size
 simp
theorem big5000 : 5000 <= sizeLine := by decide
theorem smallN {n : Nat} (h : n <= 5000) : n <= sizeLine := Nat.le_trans h big5000
theorem smallL1 {a b : Nat} (h : a <= b) (hb : b <= 5000) : a <= sizeLine := Nat.le_trans h (Nat.le_trans hb big5000)
theorem T.castB {X : Cx} {ρ : List (Option D)} {e : Expr} {b b' : Bool} (h : T X ρ e b) (q : b = b') : T X ρ e b' := q ▸ h
theorem cl_slice_to (x : Str) {j : Int} (h0 : 0 <= j) (h1 : j <= (cl x).length) : cl (Txt.slice x none (some j)) = (cl x).take j.toNat := by
 have e : Txt.slice x none (some j) = _ := StrLaws.sliceText_to (x := x) (j := j) ⟨h0, h1⟩
 rw [e]
 simp [cl]
def isWB (z : Str) : Bool := (!decide (z = "")) && ((cl z).map sgB).all _root_.id
def gIsW (ds : List D) (d : D) : Prop := ∃ z : Str, z.length <= 2000 ∧ ds = [.str z] ∧ d = .bl (isWB z)
theorem it_rangeL {X : Cx} {ρ : List (Option D)} {m1 : Bool} {tg a : Expr} {p pos : Pos} {n : Nat} (h : E X m1 ρ a (.int (n : Nat))) (hm : X.mg "range" = none) (hn : n < 2 ^ 62 := by first | omega | (simp only [List.length_map]; omega)) (hg : Gl X "range" := by rfl) (hs : starEach [a] X.env = [(false, eval a X.env)] := by rfl) :
 IT X tg true ρ (.Call (.Name "range" p) [a] [] pos) (rangeD 0 n) := it_range (n := ((n : Nat) : Int)) h (by omega) (by omega) hm hg hs
end Y
namespace Y
def fitTo (f : Nat -> Bool) : Nat -> Nat
 | 0 => 0
 | n + 1 => if f n = true then fitTo f n ||| (1 <<< n) else fitTo f n
def bl (x : Nat) : Nat := if x = 0 then 0 else x.log2 + 1
def wordM (places x : Nat) : Nat := (x &&& places) <<< 1
def uptoM (every : Nat) : Nat -> Nat -> Nat
 | 0, x => x
 | k + 1, x => uptoM every k (x ||| wordM every x)
end Y
namespace Y
open PySem PySem.Spec PyProof.Rows L2
variable [Tabs]
section
variable {X : Cx}
theorem mt_starts : MtR X "str.startswith" (fun x xs H Q => ∃ z y, x = .str z ∧ xs = [.str y] ∧ Q (.bl (Txt.startswith z y)) H) := by
 intro pins s σ H x xs v us Q I rx rs h
 obtain ⟨z, y, rfl, rfl, q⟩ := h
 obtain ⟨t, rfl⟩ := rx
 obtain ⟨u, rfl, ru⟩ := Vals.one rs
 obtain ⟨t', rfl⟩ := ru
 exact SC.startswith ⟨.bl _, H, I, rfl, q⟩
theorem mt_ends : MtR X "str.endswith" (fun x xs H Q => ∃ z y, x = .str z ∧ xs = [.str y] ∧ Q (.bl (Txt.endswith z y)) H) := by
 intro pins s σ H x xs v us Q I rx rs h
 obtain ⟨z, y, rfl, rfl, q⟩ := h
 obtain ⟨t, rfl⟩ := rx
 obtain ⟨u, rfl, ru⟩ := Vals.one rs
 obtain ⟨t', rfl⟩ := ru
 exact SC.endswith ⟨.bl _, H, I, rfl, q⟩
end
section
variable {X : Cx} {ρ : List (Option D)} {m m1 m2 m3 : Bool} {a b c o : Expr} {pos ap cp : Pos}
theorem e_starts {z y : Str} (ho : E X m1 ρ o (.str z)) (ha : E X m2 ρ a (.str y)) (hbase : attributeBase o "startswith" X.env (eval o X.env) = eval o X.env := by rfl) (hline : (ap.endLine == cp.line) = true := by rfl) (hs : starEach [a] X.env = [(false, eval a X.env)] := by rfl) :
 E X true ρ (.Call (.Attribute o "startswith" ap) [a] [] cp) (.bl (Txt.startswith z y)) :=
 PE.mono (pe_bm F.plainAttrs_str F.slot_str_startswith F.type_str_startswith mt_starts ho (pa_cons ha pa_nil (by rw [hs]; rfl)) hbase (by rw [hs]; rfl) hline (by rw [hs]; rfl) rfl) fun σ H Q z0 => el13 z0 fun Z oz en k => ⟨Z, oz, en, fun x H1 s1 i1 => by
  cases in_str.mp (i1.plain oz)
  refine ⟨rfl, Z, oz.same s1, en.same s1, fun w H2 s2 i2 => ?_⟩
  cases in_str.mp (i2.plain (oz.same s1))
  exact ⟨z, y, rfl, rfl, k _ H2 (s1.trans s2) (in_bl.mpr rfl)⟩⟩
theorem e_ends {z y : Str} (ho : E X m1 ρ o (.str z)) (ha : E X m2 ρ a (.str y)) (hbase : attributeBase o "endswith" X.env (eval o X.env) = eval o X.env := by rfl) (hline : (ap.endLine == cp.line) = true := by rfl) (hs : starEach [a] X.env = [(false, eval a X.env)] := by rfl) :
 E X true ρ (.Call (.Attribute o "endswith" ap) [a] [] cp) (.bl (Txt.endswith z y)) :=
 PE.mono (pe_bm F.plainAttrs_str F.slot_str_endswith F.type_str_endswith mt_ends ho (pa_cons ha pa_nil (by rw [hs]; rfl)) hbase (by rw [hs]; rfl) hline (by rw [hs]; rfl) rfl) fun σ H Q z0 => el13 z0 fun Z oz en k => ⟨Z, oz, en, fun x H1 s1 i1 => by
  cases in_str.mp (i1.plain oz)
  refine ⟨rfl, Z, oz.same s1, en.same s1, fun w H2 s2 i2 => ?_⟩
  cases in_str.mp (i2.plain (oz.same s1))
  exact ⟨z, y, rfl, rfl, k _ H2 (s1.trans s2) (in_bl.mpr rfl)⟩⟩
end
section
variable {X : Cx} {F : Fn} {ρ : Rho} {Q : EndD} {rest body : List Stmt} {e : Expr} {pos p : Pos}
theorem sd_appendG (i : Nat) {x : Str} {ap cp : Pos} {ds : List D} {m1 : Bool} (fr : Bool) {d : D} (h : ρ[i]? = some (some (.ow fr ds)) := by rfl) (he : E X m1 (view true false ρ) e d) (fl : d.flat = true) (hz : ds.length < 5000) (hr : SD X F rest (ρ.set i (some (.ow fr (ds ++ [d])))) Q)
 (hN : X.N[i]? = some x := by rfl) (hv : Vis X.env.scope x := by first | exact Or.inl rfl | exact Or.inr (Or.inl rfl) | exact Or.inr (Or.inr rfl)) (hd : (x == ("__debug__" : Str)) = false := by decide) (hcd : (x == ("__classdict__" : Str)) = false := by decide)
 (hbase : attributeBase (.Name x p) "append" X.env (eval (.Name x p) X.env) = eval (.Name x p) X.env := by rfl) (hline : (ap.endLine == cp.line) = true := by rfl)
 (hs : starEach [e] X.env = [(false, eval e X.env)] := by rfl) (hsw : swapsWith (.Call (.Attribute (.Name x p) "append" ap) [e] [] cp) none pos.line X.env = pure false := by rfl) :
 SD X F (.Expr (.Call (.Attribute (.Name x p) "append" ap) [e] [] cp) pos :: rest) ρ Q := by
 refine sd_then (PS.mono (ps_expr (pe_bm PySem.F.plainAttrs_list PySem.F.slot_list_append PySem.F.type_list_append mt_append (pe_var hN hv hd hcd) (pa_cons he pa_nil (by rw [hs]; rfl)) hbase (by rw [hs]; rfl) hline (by rw [hs]; rfl) rfl) hsw) ?_) hr
 rintro Q' σ H ⟨hv, hρ, A, hl, S, f⟩
 obtain ⟨l, xs, e1, e2, e3, j⟩ := S.ow hl h
 refine ⟨.ref l, e1, .inl ⟨rfl, xs, SqL.of e3⟩, _, vz_open S true false, S.env hl true false, fun v H1 s1 i1 => ?_⟩
 refine ⟨l, xs, v, rfl, rfl, s1.at e3, by rw [<- j.length]; exact Nat.lt_of_lt_of_le hz big5000, f.nx _ _ (put_ow hl (S.grow s1) e1 e2 (s1.at e3) ((j.same s1).append (Ins.one (i1.flat' fl))))⟩
end
inductive Pt where
 | word (w : Str)
 | beg (w : Str)
 | fin (w : Str)
 | any
 | upto (n : Nat)
 | inn (q : List (List Pt))
mutual
def ptD : Pt -> D
 | .word w => .tup [.str "word", .str w]
 | .beg w => .tup [.str "begin", .str w]
 | .fin w => .tup [.str "end", .str w]
 | .any => .tup [.str "any"]
 | .upto n => .tup [.str "upto", .int (n : Nat)]
 | .inn q => .tup [.str "in", .lst (qDs q)]
def psDs : List Pt -> List D
 | [] => []
 | p :: ps => ptD p :: psDs ps
def qDs : List (List Pt) -> List D
 | [] => []
 | ps :: q => .lst (psDs ps) :: qDs q
end
theorem psDs_map : ∀ ps : List Pt, psDs ps = ps.map ptD
 | [] => by simp [psDs]
 | p :: ps => by simp [psDs, psDs_map ps]
theorem qDs_map : ∀ q : List (List Pt), qDs q = q.map fun ps => D.lst (psDs ps)
 | [] => by simp [qDs]
 | ps :: q => by simp [qDs, qDs_map q]
def fitsB : Pt -> Str -> Bool
 | .word w, z => decide (z = w)
 | .beg w, z => Txt.startswith z w
 | .fin w, z => Txt.endswith z w
 | .any, _ => true
 | _, _ => false
def fitN (p : Pt) (row : List Str) : Nat := fitTo (fun i => fitsB p (row.getD i "")) row.length
mutual
def mPt (row : List Str) : Pt -> Nat -> Nat
 | .word w, x => wordM (fitN (.word w) row) x
 | .beg w, x => wordM (fitN (.beg w) row) x
 | .fin w, x => wordM (fitN (.fin w) row) x
 | .any, x => wordM (fitN .any row) x
 | .upto n, x => uptoM (fitN .any row) n x
 | .inn q, x => mQ row q x
def mPs (row : List Str) : List Pt -> Nat -> Nat
 | [], x => x
 | p :: ps, x => mPs row ps (mPt row p x)
def mQ (row : List Str) : List (List Pt) -> Nat -> Nat
 | [], _ => 0
 | ps :: q, x => mPs row ps x ||| mQ row q x
end
mutual
def ptOk : Pt -> Nat -> Prop
 | .word _, _ => True
 | .beg _, _ => True
 | .fin _, _ => True
 | .any, _ => True
 | .upto n, _ => n <= 1000
 | .inn q, k => ∃ j, k = j + 1 ∧ qOk q j
def psOk : List Pt -> Nat -> Prop
 | [], _ => True
 | p :: ps, k => ptOk p k ∧ psOk ps k
def qOk : List (List Pt) -> Nat -> Prop
 | [], _ => True
 | ps :: q, k => psOk ps k ∧ qOk q k
end
def questD (q : List (List Pt)) : D := .lst (qDs q)
theorem starts_slice (z u : Str) : Txt.startswith z u = decide (Txt.slice z none (some (u.length : Int)) = u) := by
 rw [Bool.eq_iff_iff, decide_eq_true_iff]
 unfold Txt.startswith
 rw [Bool.and_eq_true, decide_eq_true_iff, StrLaws.subAt_eq, beq_iff_eq, List.drop_zero]
 by_cases h : u.length <= z.length
 · have e := cl_slice_to z (j := (u.length : Int)) (by omega) (by rw [cl_len]; omega)
   rw [Int.toNat_natCast] at e
   constructor
   · rintro ⟨_, h2⟩
     exact cl_inj (e.trans h2)
   · intro h2
     exact ⟨by omega, e.symm.trans (congrArg cl h2)⟩
 · constructor
   · rintro ⟨h1, _⟩; omega
   · intro h2
     have := Txt.slice_le z none (some (u.length : Int))
     rw [h2] at this
     omega
theorem cl_slice_from (x : Str) {i : Int} (h0 : 0 <= i) (h1 : i <= (cl x).length) : cl (Txt.slice x (some i) none) = (cl x).drop i.toNat := by
 have e : Txt.slice x (some i) none = _ := StrLaws.sliceText_from (x := x) (i := i) ⟨h0, h1⟩
 rw [e]
 show List.take _ (List.drop _ _) = _
 rw [List.take_of_length_le]
 rw [List.length_drop]
 omega
theorem ends_slice (z u : Str) : Txt.endswith z u = (decide ((u.length : Int) <= (z.length : Int)) && decide (Txt.slice z (some ((z.length : Int) - (u.length : Int))) none = u)) := by
 rw [Bool.eq_iff_iff, Bool.and_eq_true, decide_eq_true_iff, decide_eq_true_iff]
 unfold Txt.endswith
 rw [Bool.and_eq_true, decide_eq_true_iff, StrLaws.subAt_eq, beq_iff_eq]
 by_cases h : u.length <= z.length
 · have e := cl_slice_from z (i := (z.length : Int) - (u.length : Int)) (by omega) (by rw [cl_len]; omega)
   rw [show ((z.length : Int) - (u.length : Int)).toNat = z.length - u.length by omega] at e
   have ht : ((cl z).drop (z.length - u.length)).take u.length = (cl z).drop (z.length - u.length) := by
    rw [List.take_of_length_le]
    rw [List.length_drop, cl_len]
    omega
   constructor
   · rintro ⟨_, h2⟩
     exact ⟨by omega, cl_inj (e.trans (ht.symm.trans h2))⟩
   · rintro ⟨_, h2⟩
     exact ⟨by omega, ht.trans (e.symm.trans (congrArg cl h2))⟩
 · constructor
   · rintro ⟨h1, _⟩; omega
   · rintro ⟨h1, _⟩; omega
section
mutual
theorem dep_ptk : ∀ (p : Pt) {k : Nat}, ptOk p k -> (ptD p).dep <= 3 * k + 1
 | .word w, k, _ => by simp [ptD, D.dep, deps]
 | .beg w, k, _ => by simp [ptD, D.dep, deps]
 | .fin w, k, _ => by simp [ptD, D.dep, deps]
 | .any, k, _ => by simp [ptD, D.dep, deps]
 | .upto n, k, _ => by simp [ptD, D.dep, deps]
 | .inn q, k, h => by
  unfold ptOk at h
  obtain ⟨j, e, h⟩ := h
  have := dep_qk q h
  simp [ptD, D.dep, deps]
  omega
theorem dep_psk : ∀ (ps : List Pt) {k : Nat}, psOk ps k -> deps (psDs ps) <= 3 * k + 1
 | [], k, _ => by simp [psDs, deps]
 | p :: ps, k, h => by
  unfold psOk at h
  have h1 := dep_ptk p h.1
  have h2 := dep_psk ps h.2
  simp [psDs, deps]
  omega
theorem dep_qk : ∀ (q : List (List Pt)) {k : Nat}, qOk q k -> deps (qDs q) <= 3 * k + 2
 | [], k, _ => by simp [qDs, deps]
 | ps :: q, k, h => by
  unfold qOk at h
  have h1 := dep_psk ps h.1
  have h2 := dep_qk q h.2
  simp [qDs, deps, D.dep]
  omega
end
end
theorem dep_quest {q : List (List Pt)} {k : Nat} (h : qOk q k) : (questD q).dep <= 3 * k + 3 := by
 have := dep_qk q h
 unfold questD
 simp [D.dep]
 omega
end Y
namespace L2
open PySem PySem.Spec PyProof.Rows
end L2
namespace Y
open PySem PySem.Spec PyProof.Rows L2
variable [Tabs]
def nst : Expr -> Bool
 | .Starred _ _ => false
 | _ => true
theorem star_ne {e : Expr} {es : List Expr} {env : Env} (h : nst e = true) : starEach (e :: es) env = (false, eval e env) :: starEach es env := by
 cases e with
 | Starred a b => cases h
 | _ => simp only [starEach]
structure KD (K : PySem.W.Frag) (P : Program) (w : World) (a : Addr) (kvs : List (List Key × Int)) : Prop where
 ex : ∃ (es : Array DictEntry) (ep : Nat) (xs : List (List Key × Addr × Value)), K.lookup a = some ⟨.type "dict", none, .dict es ep, #[]⟩ ∧ es.toList = xs.map (entryOfKey (tupleKind (mixKind P w))) ∧
  (∀ x ∈ xs, ∃ o items n, K.lookup x.2.1 = some o ∧ o.cls = .type "tuple" ∧ o.data = .seq items n ∧ ItemsAre (mixKind P w) x.1 items.toList) ∧ (xs.map (·.1)).Nodup ∧ Paired (fun p x => p.1 = x.1 ∧ ∃ t, x.2.2 = .int p.2 t) kvs xs
def valI (kvs : List (List Key × Int)) (k : List Key) : Option Int := (kvs.find? fun kv => decide (kv.1 = k)).map (·.2)
section
variable {X : Cx} {pins : List (Addr × Obj)} {σ : St} {H : Hp} {s : Shared} {a b : Addr} {kvs : List (List Key × Int)}
variable {ρ : List (Option D)} {m m1 m2 m3 : Bool} {e f i o : Expr} {d : D} {pos p p2 ap cp : Pos} {x : Str}
theorem e_gint {j : Int} {t : Tok} (hm : X.mg x = some (.int j t)) (hg : Gl X x := by rfl) (hd : (x == ("__debug__" : Str)) = false := by decide) : E X true ρ (.Name x pos) (.int j) :=
 PE.mono (pe_glob (v := .int j) hg hm ⟨t, rfl⟩ hd) fun σ H Q z0 => el13 z0 fun Z oz en k => k _ _ (Same.refl H) (in_int.mpr rfl)
theorem e_max2 {j l : Int} (ha : E X m1 ρ e (.int j)) (hb : E X m2 ρ f (.int l)) (hm : X.mg "max" = none) (hc : X.calm = true := by rfl) (hg : Gl X "max" := by rfl) (hs : starEach [e, f] X.env = [(false, eval e X.env), (false, eval f X.env)] := by rfl) (hs2 : starEach [f] X.env = [(false, eval f X.env)] := by rfl) :
 E X true ρ (.Call (.Name "max" p) [e, f] [] pos) (.int (if l > j then l else j)) :=
 PE.mono (pe_callB (call_max2 hc) hg hm PyProof.Rows.boot_max (pa_cons ha (pa_cons hb pa_nil (by rw [hs2]; rfl)) (by rw [hs, hs2])) (by decide) (by decide) (by rw [hs, hs2]) (by rw [hs2]; rfl)) fun σ H Q z0 => el13 z0 fun Z oz en k => ⟨Z, oz, en, fun x H1 s1 i1 => ⟨Z, oz.same s1, en.same s1, fun y H2 s2 i2 => ⟨j, l, by rw [in_int.mp (i1.plain oz), in_int.mp (i2.plain (oz.same s1))], k _ H2 (s1.trans s2) (in_int.mpr rfl)⟩⟩⟩
theorem op_inD : OpR X (compareOp .In) (fun x y H Q => ∃ ds d Z Z', In X.K H Z d x ∧ In X.K H Z' (.lst ds) y ∧ X.A.units + 1 + deps ds < cLine ∧ Q (.bl (ds.any fun e => deq e d)) H) := by
 intro pins s σ H x y v u Q I rx ry h
 obtain ⟨ds, d, Z, Z', ix, iy, hu, q⟩ := h
 obtain ⟨p, xs, rfl, at', j⟩ := in_lst.mp iy
 cases ry
 obtain ⟨its, r, pl, hz⟩ := I.list at'.sq
 have hl1 := j.length
 have hl2 := r.length
 classical
 let e : Value -> Bool := fun u => if h : ∃ e', ∃ w, RelV w u ∧ In X.K H Z' e' w then deq h.choose d else false
 have key : ∀ (i : Nat) u, its[i]? = some u -> ∃ e', ds[i]? = some e' ∧ e u = deq e' d ∧ ∃ w, RelV w u ∧ In X.K H Z' e' w := fun i u hi => by
  have hlt := (List.getElem?_eq_some_iff.mp hi).1
  have hd : ds[i]? = some ds[i] := by simp
  obtain ⟨w, ew, iw⟩ := j.get hd
  obtain ⟨u', eu, ru⟩ := r.get ew
  rw [hi] at eu
  cases eu
  have hex : ∃ e', ∃ w, RelV w u ∧ In X.K H Z' e' w := ⟨_, w, ru, iw⟩
  refine ⟨ds[i], hd, ?_, w, ru, iw⟩
  show (if h : ∃ e', ∃ w, RelV w u ∧ In X.K H Z' e' w then deq h.choose d else false) = _
  rw [dif_pos hex]
  obtain ⟨w', rw', iw'⟩ := hex.choose_spec
  have ew' : w' = w := rw'.inj ru
  subst ew'
  rw [In.inj I iw' iw]
 refine SeqAt.in_listAt e pl.isList (fun u hu' => ?_) ⟨.bl _, H, I, rfl, ?_⟩
 · obtain ⟨i, hi, ei⟩ := List.mem_iff_getElem.mp (by simpa using hu' : u ∈ its)
   obtain ⟨e', hd, he, w, rw', iw⟩ := key i u (by rw [<- ei]; simp [hi])
   rw [he]
   exact eqAt_D I (deps ds) (A := X.A.in1) iw ix rw' rx (deps_mem (List.mem_of_getElem? hd)) hu
 · have : its.toArray.any e = ds.any fun e => deq e d := by
    rw [Bool.eq_iff_iff]
    simp only [List.any_toArray, List.any_eq_true]
    constructor
    · rintro ⟨u, hu', h⟩
      obtain ⟨i, hi, ei⟩ := List.mem_iff_getElem.mp hu'
      obtain ⟨e', hd, he, _⟩ := key i u (by rw [<- ei]; simp [hi])
      exact ⟨e', List.mem_of_getElem? hd, by rw [<- he]; exact h⟩
    · rintro ⟨e', he', h⟩
      obtain ⟨i, hi, ei⟩ := List.mem_iff_getElem.mp he'
      have hit : i < its.length := by omega
      obtain ⟨e2, hd, he, _⟩ := key i its[i] (by simp [hit])
      have : e2 = e' := by
       have t : ds[i]? = some e' := by rw [<- ei]; simp [hi]
       rw [hd] at t
       exact Option.some.inj t
      subst this
      exact ⟨its[i], List.getElem_mem hit, by rw [he]; exact h⟩
   rw [this]
   exact q
end
open AutoSeq1 in
structure ES (X : Cx) (m : Bool) (ρ : List (Option D)) (e : Expr) (d : D) : Prop where
 ok : E X m ρ e d
structure ESA (X : Cx) (ρ : List (Option D)) (es : List Expr) (ds : List D) : Prop where
 ok : EA X ρ es ds
structure SDS (X : Cx) (F : Fn) (st : List Stmt) (ρ : Rho) (Q : EndD) : Prop where
 ok : SD X F st ρ Q
section
variable {X : Cx} {ρ : List (Option D)} {m m1 : Bool} {e : Expr} {es : List Expr} {d d' : D} {ds : List D} {pos : Pos}
theorem es_ixL {a b : Expr} {i : Int} {m2 : Bool} (ha : ES X m1 ρ a (.lst ds)) (hb : ES X m2 ρ b (.int i)) (h : atI ds i = some d) (hs : PlainIx b) : ES X m1 ρ (.Subscript a b pos) d := ⟨e_ixL ha.ok hb.ok h hs⟩
theorem esa_nil : ESA X ρ [] [] := ⟨ea_nil⟩
theorem esa_cons (ha : ES X m1 ρ e d) (hr : ESA X ρ es ds) (hs : starEach (e :: es) X.env = (false, eval e X.env) :: starEach es X.env) : ESA X ρ (e :: es) (d :: ds) := ⟨ea_cons ha.ok hr.ok hs⟩
end
inductive Node (H : Hp) : V -> List (Bool × Int) -> V -> Prop
 | here (v : V) : Node H v [] v
 | lst {a : Addr} {xs : List V} {j : Int} {w u : V} {p : List (Bool × Int)} (h : H a = some (.lst xs)) (e : atI xs j = some w) (n : Node H w p u) : Node H (.ref a) ((true, j) :: p) u
 | tup {a : Addr} {xs : List V} {j : Int} {w u : V} {p : List (Bool × Int)} (h : H a = some (.tup xs)) (e : atI xs j = some w) (n : Node H w p u) : Node H (.ref a) ((false, j) :: p) u
theorem Node.snoc {H : Hp} {b : Bool} {j : Int} : ∀ {p : List (Bool × Int)} {v u : V}, Node H v (p ++ [(b, j)]) u -> ∃ a xs, Node H v p (.ref a) ∧ H a = some (if b then HO.lst xs else HO.tup xs) ∧ atI xs j = some u
 | [], v, u, h => by
  cases h with
  | lst h e n => cases n; exact ⟨_, _, .here _, h, e⟩
  | tup h e n => cases n; exact ⟨_, _, .here _, h, e⟩
 | q :: p, v, u, h => by
  rw [List.cons_append] at h
  cases h with
  | lst h e n => obtain ⟨a, xs, k1, k2, k3⟩ := Node.snoc n; exact ⟨a, xs, .lst h e k1, k2, k3⟩
  | tup h e n => obtain ⟨a, xs, k1, k2, k3⟩ := Node.snoc n; exact ⟨a, xs, .tup h e k1, k2, k3⟩
inductive TUp (e : D) (n : Nat) : List (Bool × Int) -> D -> D -> Prop
 | here {ds : List D} (h : ds.length = n) : TUp e n [] (.lst ds) (.lst (ds ++ [e]))
 | lst {ds : List D} {j : Int} {k : Nat} {d d' : D} {p : List (Bool × Int)} (hk : ixN ds.length j = some k) (hd : ds[k]? = some d) (u : TUp e n p d d') : TUp e n ((true, j) :: p) (.lst ds) (.lst (ds.set k d'))
 | tup {ds : List D} {j : Int} {k : Nat} {d d' : D} {p : List (Bool × Int)} (hk : ixN ds.length j = some k) (hd : ds[k]? = some d) (u : TUp e n p d d') : TUp e n ((false, j) :: p) (.tup ds) (.tup (ds.set k d'))
section
variable {K : PySem.W.Frag} {H H' : Hp}
theorem Trs.length : ∀ {ds : List D} {vs : List V} {as : List Addr}, Trs K H ds vs as -> ds.length = vs.length
 | [], _, _, h => by rw [(trs_nil.mp h).1]; rfl
 | d :: ds, _, _, h => by
  obtain ⟨v, r, bs, cs, rfl, _, _, j⟩ := trs_cons.mp h
  rw [List.length_cons, List.length_cons, Trs.length j]
theorem Trs.one {d : D} {v : V} {as : List Addr} (h : Tr K H d v as) : Trs K H [d] [v] as := trs_cons.mpr ⟨v, [], as, [], rfl, by simp, h, trs_nil.mpr ⟨rfl, rfl⟩⟩
theorem Trs.append : ∀ {ds es : List D} {vs ws : List V} {as bs : List Addr}, Trs K H ds vs as -> Trs K H es ws bs -> Trs K H (ds ++ es) (vs ++ ws) (as ++ bs)
 | [], _, _, _, _, _, h, k => by obtain ⟨rfl, rfl⟩ := trs_nil.mp h; exact k
 | d :: ds, _, _, _, _, _, h, k => by
  obtain ⟨v, r, bs, cs, rfl, rfl, a, j⟩ := trs_cons.mp h
  exact trs_cons.mpr ⟨v, r ++ _, bs, cs ++ _, rfl, by rw [List.append_assoc], a, Trs.append j k⟩
theorem Trs.at : ∀ {ds : List D} {vs : List V} {as : List Addr} {k : Nat} {d : D}, Trs K H ds vs as -> ds[k]? = some d ->
 ∃ w b1 b2 b3, vs[k]? = some w ∧ as = b1 ++ (b2 ++ b3) ∧ Tr K H d w b2 ∧ ∀ (H2 : Hp) (d' : D) (b2' : List Addr), (∀ a (xs : List V), H a = some (.tup xs) -> H2 a = some (.tup xs)) -> (∀ a (xs : List V), a ∈ b1 ++ b3 -> H a = some (.lst xs) -> H2 a = some (.lst xs)) -> Tr K H2 d' w b2' -> Trs K H2 (ds.set k d') vs (b1 ++ (b2' ++ b3))
 | [], _, _, _, _, _, e => by simp at e
 | d :: ds, _, _, 0, d0, h, e => by
  obtain ⟨v, r, bs, cs, rfl, rfl, a, j⟩ := trs_cons.mp h
  simp at e
  subst e
  exact ⟨v, [], bs, cs, rfl, rfl, a, fun H2 d' b2' t k h' => trs_cons.mpr ⟨v, r, b2', cs, rfl, rfl, h', j.carry t fun b xs hb => k b xs (by simpa using hb)⟩⟩
 | d :: ds, _, _, k + 1, d0, h, e => by
  obtain ⟨v, r, bs, cs, rfl, rfl, a, j⟩ := trs_cons.mp h
  obtain ⟨w, b1, b2, b3, e1, rfl, i, f⟩ := Trs.at (k := k) (d := d0) j (by simpa using e)
  refine ⟨w, bs ++ b1, b2, b3, by simpa using e1, by rw [List.append_assoc], i, fun H2 d' b2' t kk h' => trs_cons.mpr ⟨v, r, bs, b1 ++ (b2' ++ b3), rfl, by rw [List.append_assoc], a.carry t fun b xs hb => kk b xs (by simp [hb]), f H2 d' b2' t (fun b xs hb => kk b xs ?_) h'⟩⟩
  rcases List.mem_append.mp hb with hb | hb <;> simp [hb]
theorem atI_of {α : Type} {xs : List α} {j : Int} {k : Nat} {x : α} (h : ixN xs.length j = some k) (e : xs[k]? = some x) : atI xs j = some x := by
 unfold atI; rw [h]; exact e
theorem Tr.app {e : D} {n : Nat} {p : List (Bool × Int)} {d d' : D} (u : TUp e n p d d') : ∀ {v : V} {as : List Addr}, Tr K H d v as -> as.Nodup ->
 ∃ a xs, Node H v p (.ref a) ∧ a ∈ as ∧ H a = some (.lst xs) ∧ xs.length = n ∧ ∀ (H2 : Hp) (w : V) (bs : List Addr), (∀ a (xs : List V), H a = some (.tup xs) -> H2 a = some (.tup xs)) -> (∀ b (ys : List V), b ∈ as -> b ≠ a -> H b = some (.lst ys) -> H2 b = some (.lst ys)) -> H2 a = some (.lst (xs ++ [w])) -> Tr K H2 e w bs ->
  ∃ as', Tr K H2 d' v as' ∧ as'.Perm (as ++ bs) := by
 induction u with
 | here hn =>
  intro v as h nd
  obtain ⟨a, xs, bs, rfl, rfl, ha, i⟩ := tr_lst.mp h
  refine ⟨a, xs, .here _, List.mem_cons_self, ha, by rw [<- i.length]; exact hn, fun H2 w cs t k h2 hw => ?_⟩
  have na := (List.nodup_cons.mp nd).1
  exact ⟨a :: (bs ++ cs), tr_lst.mpr ⟨a, xs ++ [w], bs ++ cs, rfl, rfl, h2, (i.carry t fun b ys hb => k b ys (List.mem_cons_of_mem _ hb) fun z => na (z ▸ hb)).append (Trs.one hw)⟩, List.Perm.refl _⟩
 | lst hk hd u ih =>
  intro v as h nd
  obtain ⟨a0, xs, bs, rfl, rfl, ha, i⟩ := tr_lst.mp h
  obtain ⟨w0, b1, b2, b3, e1, rfl, i2, f⟩ := i.at hd
  obtain ⟨n0, nd1⟩ := List.nodup_cons.mp nd
  have nd2 : b2.Nodup := nd1.sublist ((List.sublist_append_left b2 b3).trans (List.sublist_append_right b1 _))
  obtain ⟨a, ys, q1, q2, q3, q4, q5⟩ := ih i2 nd2
  have a0n : a ≠ a0 := fun z => n0 (by rw [<- z]; simp [q2])
  have out13 : ∀ b, b ∈ b1 ++ b3 -> b ≠ a := fun b hb z => by
   subst z
   rw [List.nodup_append] at nd1
   obtain ⟨_, nd3, dj⟩ := nd1
   rcases List.mem_append.mp hb with hb | hb
   · exact dj b hb b (by simp [q2]) rfl
   · rw [List.nodup_append] at nd3
     exact nd3.2.2 b q2 b hb rfl
  refine ⟨a, ys, .lst ha (atI_of (by rw [<- i.length]; exact hk) e1) q1, by simp [q2], q3, q4, fun H2 w cs t k h2 hw => ?_⟩
  obtain ⟨as', z1, z2⟩ := q5 H2 w cs t (fun b zs hb hn => k b zs (by simp [hb]) hn) h2 hw
  refine ⟨a0 :: (b1 ++ (as' ++ b3)), tr_lst.mpr ⟨a0, xs, _, rfl, rfl, k a0 xs List.mem_cons_self (Ne.symm a0n) ha, f H2 _ as' t (fun b zs hb => k b zs ?_ (out13 b hb)) z1⟩, ?_⟩
  · rcases List.mem_append.mp hb with hb | hb <;> simp [hb]
  · rw [List.cons_append]
    refine List.Perm.cons _ ?_
    rw [List.append_assoc]
    refine List.Perm.append_left _ ?_
    rw [List.append_assoc]
    exact (z2.append_right b3).trans (by rw [List.append_assoc]; exact List.Perm.append_left _ List.perm_append_comm)
 | tup hk hd u ih =>
  intro v as h nd
  obtain ⟨a0, xs, rfl, ha, i⟩ := tr_tup.mp h
  obtain ⟨w0, b1, b2, b3, e1, rfl, i2, f⟩ := i.at hd
  have nd2 : b2.Nodup := nd.sublist ((List.sublist_append_left b2 b3).trans (List.sublist_append_right b1 _))
  obtain ⟨a, ys, q1, q2, q3, q4, q5⟩ := ih i2 nd2
  have out13 : ∀ b, b ∈ b1 ++ b3 -> b ≠ a := fun b hb z => by
   subst z
   rw [List.nodup_append] at nd
   obtain ⟨_, nd3, dj⟩ := nd
   rcases List.mem_append.mp hb with hb | hb
   · exact dj b hb b (by simp [q2]) rfl
   · rw [List.nodup_append] at nd3
     exact nd3.2.2 b q2 b hb rfl
  refine ⟨a, ys, .tup ha (atI_of (by rw [<- i.length]; exact hk) e1) q1, by simp [q2], q3, q4, fun H2 w cs t k h2 hw => ?_⟩
  obtain ⟨as', z1, z2⟩ := q5 H2 w cs t (fun b zs hb hn => k b zs (by simp [hb]) hn) h2 hw
  refine ⟨b1 ++ (as' ++ b3), tr_tup.mpr ⟨a0, xs, rfl, t a0 xs ha, f H2 _ as' t (fun b zs hb => k b zs ?_ (out13 b hb)) z1⟩, ?_⟩
  · rcases List.mem_append.mp hb with hb | hb <;> simp [hb]
  · rw [List.append_assoc]
    refine List.Perm.append_left _ ?_
    rw [List.append_assoc]
    exact (z2.append_right b3).trans (by rw [List.append_assoc]; exact List.Perm.append_left _ List.perm_append_comm)
end
def tET (K : PySem.W.Frag) (ρ : List (Option D)) (d : D) : TE := fun σ H Q => ∃ Z : Zone, Z.Open H ∧ EnvIn K H Z σ ρ ∧ ∀ v H' as, Same H H' -> Tr K H' d v as -> as.Nodup -> (∀ a ∈ as, H a = none) -> Q v H'
def ET (X : Cx) (ρ : List (Option D)) (e : Expr) (d : D) : Prop := PE X e (tET X.K ρ d)
def tETA (K : PySem.W.Frag) (ρ : List (Option D)) (ds : List D) : TA := fun σ H Q => ∃ Z : Zone, Z.Open H ∧ EnvIn K H Z σ ρ ∧ ∀ vs H' as, Same H H' -> Trs K H' ds vs as -> as.Nodup -> (∀ a ∈ as, H a = none) -> Q vs H'
def ETA (X : Cx) (ρ : List (Option D)) (es : List Expr) (ds : List D) : Prop := PA X es (tETA X.K ρ ds)
section
variable {X : Cx} {ρ : List (Option D)} {m : Bool} {e : Expr} {es : List Expr} {d : D} {ds : List D} {pos : Pos}
theorem et_flat (he : E X m ρ e d) (fl : d.flat = true) : ET X ρ e d := PE.mono he fun σ H Q z0 => el13 z0 fun Z oz en k => ⟨Z, oz, en, fun v H' s i => k v H' [] s (Tr.of_flat fl i) List.nodup_nil fun a ha => (by cases ha)⟩
theorem eta_nil : ETA X ρ [] [] := PA.mono pa_nil fun σ H Q z0 => el13 z0 fun Z oz en k => k [] H [] (Same.refl H) (trs_nil.mpr ⟨rfl, rfl⟩) List.nodup_nil fun a ha => (by cases ha)
theorem eta_cons (ha : ET X ρ e d) (hr : ETA X ρ es ds) (hs : starEach (e :: es) X.env = (false, eval e X.env) :: starEach es X.env := by rfl) : ETA X ρ (e :: es) (d :: ds) :=
 PA.mono (pa_cons ha hr hs) fun σ H Q z0 => el13 z0 fun Z oz en k => ⟨Z, oz, en, fun v H1 as s1 t1 n1 w1 => ⟨Z, oz.same s1, en.same s1, fun vs H2 bs s2 t2 n2 w2 => k (v :: vs) H2 (as ++ bs) (s1.trans s2) (trs_cons.mpr ⟨v, vs, as, bs, rfl, rfl, t1.carry (fun a xs h => s2.at h) (fun a xs _ h => s2.at h), t2⟩)
  (List.nodup_append.mpr ⟨n1, n2, fun a ha b hb z => by
   obtain ⟨xs, q⟩ := t1.lsts a ha
   rw [z, w2 b hb] at q
   cases q⟩) fun a ha => by
   rcases List.mem_append.mp ha with ha | ha
   · exact w1 a ha
   · exact s1.free (w2 a ha)⟩⟩
theorem et_lst (h : ETA X ρ es ds) (hz : ds.length <= 1000 := by exact of_decide_eq_true rfl) : ET X ρ (.List es pos) (.lst ds) :=
 PE.mono (pe_lst h) fun σ H Q z0 => el13 z0 fun Z oz en k => ⟨Z, oz, en, fun vs H1 as s1 t1 n1 w1 => ⟨by rw [<- t1.length]; exact smallL hz, fun p hp => by
  have s2 : Same H1 (upd H1 p (.lst vs)) := same_new hp
  refine k _ _ (p :: as) (s1.trans s2) (tr_lst.mpr ⟨p, vs, as, rfl, rfl, upd_same, t1.carry (fun a xs h => s2.at h) fun a xs _ h => s2.at h⟩) (List.nodup_cons.mpr ⟨fun z => ?_, n1⟩) fun a ha => ?_
  · obtain ⟨xs, q⟩ := t1.lsts p z
    rw [hp] at q; cases q
  · rcases List.mem_cons.mp ha with rfl | ha
    · exact s1.free hp
    · exact w1 a ha⟩⟩
end
def tN (K : PySem.W.Frag) (i : Nat) (ρ : List (Option D)) (p : List (Bool × Int)) : TE := fun σ H Q => ∃ (v u : V) (Z : Zone), σ[i]? = some (some v) ∧ Node H v p u ∧ Z.Open H ∧ EnvIn K H Z σ ρ ∧ ∀ H', Same H H' -> Q u H'
def EN (X : Cx) (i : Nat) (ρ : List (Option D)) (p : List (Bool × Int)) (o : Expr) : Prop := PE X o (tN X.K i ρ p)
section
variable {X : Cx} {ρ : List (Option D)} {m : Bool} {o ix : Expr} {pos : Pos} {i : Nat} {p : List (Bool × Int)} {j : Int} {x : Str}
theorem en_name (hN : X.N[i]? = some x := by rfl) (hv : Vis X.env.scope x := by first | exact Or.inl rfl | exact Or.inr (Or.inl rfl) | exact Or.inr (Or.inr rfl)) (hd : (x == ("__debug__" : Str)) = false := by decide) (hcd : (x == ("__classdict__" : Str)) = false := by decide) : EN X i ρ [] (.Name x pos) :=
 PE.mono (pe_var hN hv hd hcd) fun σ H Q ⟨v, u, Z, e, n, oz, en, k⟩ => by cases n; exact ⟨v, e, k H (Same.refl H)⟩
theorem en_ixL (ho : EN X i ρ p o) (hi : E X m ρ ix (.int j)) (hs : PlainIx ix := by intro _ _; rfl) : EN X i ρ (p ++ [(true, j)]) (.Subscript o ix pos) :=
 PE.mono (pe_ix ix_list ho hi hs) fun σ H Q ⟨v, u, Z, e, n, oz, en, k⟩ => by
  obtain ⟨a, xs, n1, h1, h2⟩ := n.snoc
  exact ⟨v, .ref a, Z, e, n1, oz, en, fun H1 s1 => ⟨Z, oz.same s1, en.same s1, fun y H2 s2 i2 => ⟨a, xs, j, u, rfl, in_int.mp (i2.plain (oz.same s1)), SqL.of ((s1.trans s2).at h1), h2, k H2 (s1.trans s2)⟩⟩⟩
end
section
variable {X : Cx} {F : Fn} {ρ : Rho} {Q : EndD} {rest : List Stmt} {e o : Expr} {d d' e' : D} {pos p : Pos}
def TreeSlot (mk : D -> Slot) (c : V -> Prop) : Prop := ∀ (K : PySem.W.Frag) (F : Fn) (H : Hp) (O : Addr -> Prop) (mine : List Addr) (v : V) (d : D), SlotIn K F H O mine v (mk d) ↔ c v ∧ Tr K H d v mine
theorem tree_tr : TreeSlot Slot.tr (fun _ => True) := fun K F H O mine v d => ⟨fun h => ⟨trivial, h⟩, fun h => h.2⟩
theorem tree_trl (u : V) : TreeSlot (Slot.trl u) (fun v => v = u) := fun K F H O mine v d => Iff.rfl
theorem StIn.trG {K : PySem.W.Frag} {H : Hp} {σ hv : St} {hρ : Rho} {A : Nat -> List Addr} {i : Nat} {mk : D -> Slot} {c : V -> Prop} (S : StIn K F H (σ ++ hv) (ρ ++ hρ) A) (hm : TreeSlot mk c) (hl : σ.length = ρ.length) (h : ρ[i]? = some (some (mk d))) : ∃ v, σ[i]? = some (some v) ∧ c v ∧ Tr K H d v (A i) := by
 have il : i < ρ.length := (List.getElem?_eq_some_iff.mp h).1
 obtain ⟨v, e1, e2⟩ := S.at' i (mk d) (by rw [List.getElem?_append_left il]; exact h)
 rw [List.getElem?_append_left (by omega)] at e1
 exact ⟨v, e1, (hm _ _ _ _ _ _ _).mp e2⟩
theorem StIn.tr {K : PySem.W.Frag} {H : Hp} {σ hv : St} {hρ : Rho} {A : Nat -> List Addr} {i : Nat} (S : StIn K F H (σ ++ hv) (ρ ++ hρ) A) (hl : σ.length = ρ.length) (h : ρ[i]? = some (some (.tr d))) : ∃ v, σ[i]? = some (some v) ∧ Tr K H d v (A i) :=
 let ⟨v, a, _, b⟩ := S.trG tree_tr hl h
 ⟨v, a, b⟩
theorem sd_setT (i : Nat) {x : Str} {d : D} (he : ET X (view true false ρ) e d) (hr : SD X F rest (ρ.set i (some (.tr d))) Q) (hN : X.N.Nodup) (hi : X.N[i]? = some x := by rfl)
 (hx : Loc X.env.scope x := by first | exact Or.inl rfl | exact Or.inr rfl) (hρ : i < ρ.length := by exact of_decide_eq_true rfl) (hs : swapsWith e (some (.Name x p)) pos.line X.env = pure false := by rfl) (hf : X.fn x = true ∨ X.env.scope.names.lookup x = some .local := by first | exact .inl rfl | exact .inr rfl) :
 SD X F (.Assign [.Name x p] e pos :: rest) ρ Q :=
 sd_then (PS.mono (ps_set hN hi hx he hs hf) fun Q' σ H z0 => el33 z0 fun hv hρ' A hl S f => ⟨_, vz_open S true false, S.env hl true false, fun v H1 as s1 t1 n1 w1 => by
  refine f.nx _ H1 ⟨_, putA A i as, by simp [hl], ?_, rfl⟩
  rw [<- set_app (by omega), <- set_app hρ]
  exact S.put (by rw [List.length_append]; omega) (by rw [List.length_append]; omega) s1 n1 (fun a ha => ⟨w1 a ha, let ⟨xs, q⟩ := t1.lsts a ha; ⟨.l xs, q⟩⟩) t1⟩) hr
theorem sd_trAppG (mk : D -> Slot) {cc : V -> Prop} (hm : TreeSlot mk cc) (i : Nat) {n : Nat} {pt : List (Bool × Int)} {ap cp : Pos} (h : ρ[i]? = some (some (mk d))) (ho : EN X i (view true false ρ) pt o) (up : TUp e' n pt d d') (hz : n < 100000) (he : ET X (view true false ρ) e e') (hr : SD X F rest (ρ.set i (some (mk d'))) Q)
 (hbase : attributeBase o "append" X.env (eval o X.env) = eval o X.env := by rfl) (hline : (ap.endLine == cp.line) = true := by rfl) (hs : starEach [e] X.env = [(false, eval e X.env)] := by rfl) (hsw : swapsWith (.Call (.Attribute o "append" ap) [e] [] cp) none pos.line X.env = pure false := by rfl) :
 SD X F (.Expr (.Call (.Attribute o "append" ap) [e] [] cp) pos :: rest) ρ Q := by
 refine sd_then (PS.mono (ps_expr (pe_bm PySem.F.plainAttrs_list PySem.F.slot_list_append PySem.F.type_list_append mt_append ho (pa_cons he pa_nil (by rw [hs]; rfl)) hbase (by rw [hs]; rfl) hline (by rw [hs]; rfl) rfl) hsw) ?_) hr
 rintro Q' σ H ⟨hv, hρ, A, hl, S, f⟩
 obtain ⟨v, e1, cv, tv⟩ := S.trG hm hl h
 have hi : i < σ.length := (List.getElem?_eq_some_iff.mp e1).1
 obtain ⟨a, xs, q1, q2, q3, q4, q5⟩ := tv.app up (S.nd i)
 refine ⟨v, .ref a, _, e1, q1, vz_open S true false, S.env hl true false, fun H1 s1 => ⟨.inl ⟨rfl, xs, SqL.of (s1.at q3)⟩, _, (vz_open S true false).same s1, (S.env hl true false).same s1, fun w H2 bs s2 t2 n2 w2 => ?_⟩⟩
 have s12 := s1.trans s2
 refine ⟨a, xs, w, rfl, rfl, s12.at q3, by rw [q4]; exact Nat.lt_of_lt_of_le hz (by decide), f.nx _ _ ?_⟩
 have new2 : ∀ b ∈ bs, H b = none := fun b hb => s1.free (w2 b hb)
 have na : a ∉ bs := fun z => by rw [new2 a z] at q3; cases q3
 have kk : ∀ b o, H b = some o -> isT o = false -> b ≠ a -> (upd H2 a (.lst (xs ++ [w]))) b = some o := fun b o e n hb => by rw [upd_ne hb]; exact s12.get b o e n
 obtain ⟨as', t3, pm⟩ := q5 (upd H2 a (.lst (xs ++ [w]))) w bs (fun b ys q => kk b _ q rfl fun z => by rw [z, q3] at q; cases q) (fun b ys _ hn q => kk b _ q rfl hn) upd_same
  (t2.carry (fun b ys q => by rw [upd_ne (show b ≠ a from fun z => by rw [z, s12.at q3] at q; cases q)]; exact q) fun b ys hb q => by rw [upd_ne (show b ≠ a from fun z => na (z ▸ hb))]; exact q)
 have nd' : as'.Nodup := pm.nodup_iff.mpr (List.nodup_append.mpr ⟨S.nd i, n2, fun b hb c hc z => by
  obtain ⟨ys, q⟩ := tv.lsts b hb
  rw [z, new2 c hc] at q; cases q⟩)
 refine ⟨_, putA A i as', by simp [hl], ?_, rfl⟩
 have key := S.re (i := i) (v := v) (sl := mk d') (l := as') (H2 := upd H2 a (.lst (xs ++ [w]))) (by rw [List.length_append]; omega) (by rw [List.length_append]; omega) ((S.same.trans s12).write (S.new i a q2) (s12.at q3)) (fun b o e n hb => kk b o e n fun z => hb (z ▸ q2)) nd' (fun b hb => ⟨?_, ?_⟩) ((hm _ _ _ _ _ _ _).mpr ⟨cv, t3⟩)
 · rw [set_self (by rw [List.getElem?_append_left hi]; exact e1), set_app (by omega)] at key
   exact key
 · rcases List.mem_append.mp (pm.mem_iff.mp hb) with hb | hb
   · exact .inl hb
   · exact .inr (new2 b hb)
 · obtain ⟨ys, q⟩ := t3.lsts b hb
   exact ⟨.l ys, q⟩
theorem sd_trApp (i : Nat) {n : Nat} {pt : List (Bool × Int)} {ap cp : Pos} (h : ρ[i]? = some (some (.tr d))) (ho : EN X i (view true false ρ) pt o) (up : TUp e' n pt d d') (hz : n < 100000) (he : ET X (view true false ρ) e e') (hr : SD X F rest (ρ.set i (some (.tr d'))) Q)
 (hbase : attributeBase o "append" X.env (eval o X.env) = eval o X.env := by rfl) (hline : (ap.endLine == cp.line) = true := by rfl) (hs : starEach [e] X.env = [(false, eval e X.env)] := by rfl) (hsw : swapsWith (.Call (.Attribute o "append" ap) [e] [] cp) none pos.line X.env = pure false := by rfl) :
 SD X F (.Expr (.Call (.Attribute o "append" ap) [e] [] cp) pos :: rest) ρ Q :=
 sd_trAppG .tr tree_tr i h ho up hz he hr hbase hline hs hsw
end
section
variable {K : PySem.W.Frag} {F : Fn} {H : Hp} {vs : St} {ρ : Rho} {A : Nat -> List Addr}
theorem StIn.regroup {i j : Nat} {v w : V} {si sj : Option Slot} {l1 l2 : List Addr} (hij : i ≠ j) (S : StIn K F H vs ρ A) (hi : i < ρ.length) (hiv : i < vs.length) (hj : j < ρ.length) (hjv : j < vs.length) (nd1 : l1.Nodup) (nd2 : l2.Nodup) (dj : ∀ a ∈ l1, a ∉ l2)
 (eq : ∀ a, (a ∈ l1 ∨ a ∈ l2) ↔ (a ∈ A i ∨ a ∈ A j)) (h1 : ∀ sl, si = some sl -> SlotIn K F H (Owned A) l1 v sl) (h2 : ∀ sl, sj = some sl -> SlotIn K F H (Owned A) l2 w sl) :
 StIn K F H ((vs.set i (some v)).set j (some w)) ((ρ.set i si).set j sj) (putA (putA A i l1) j l2) := by
 have ai : putA (putA A i l1) j l2 i = l1 := by rw [putA_ne hij, putA_same]
 have aj : putA (putA A i l1) j l2 j = l2 := putA_same
 have ak : ∀ {k : Nat}, k ≠ i -> k ≠ j -> putA (putA A i l1) j l2 k = A k := fun {k} q1 q2 => by rw [putA_ne q2, putA_ne q1]
 have two : ∀ {k : Nat} {a : Addr}, (k = i ∨ k = j) -> a ∈ putA (putA A i l1) j l2 k -> a ∈ A i ∨ a ∈ A j := fun {k a} hk ha => by
  rcases hk with rfl | rfl
  · rw [ai] at ha; exact (eq a).mp (.inl ha)
  · rw [aj] at ha; exact (eq a).mp (.inr ha)
 have own : Owned (putA (putA A i l1) j l2) = Owned A := by
  funext a
  refine propext ⟨fun ⟨k, hk⟩ => ?_, fun ⟨k, hk⟩ => ?_⟩
  · by_cases q : k = i ∨ k = j
    · rcases two q hk with z | z
      · exact ⟨i, z⟩
      · exact ⟨j, z⟩
    · rw [ak (fun z => q (.inl z)) fun z => q (.inr z)] at hk
      exact ⟨k, hk⟩
  · by_cases q : k = i ∨ k = j
    · have z : a ∈ A i ∨ a ∈ A j := by
       rcases q with rfl | rfl
       · exact .inl hk
       · exact .inr hk
      rcases (eq a).mpr z with z | z
      · exact ⟨i, by rw [ai]; exact z⟩
      · exact ⟨j, by rw [aj]; exact z⟩
    · exact ⟨k, by rw [ak (fun z => q (.inl z)) fun z => q (.inr z)]; exact hk⟩
 have apart : ∀ {k : Nat} {a : Addr}, k ≠ i -> k ≠ j -> a ∈ A k -> ¬ (a ∈ A i ∨ a ∈ A j) := fun {k a} q1 q2 ha z => by
  rcases z with z | z
  · exact q1 (S.one k i a ha z)
  · exact q2 (S.one k j a ha z)
 refine ⟨S.same, S.opn, fun k => ?_, fun k k' a hk hk' => ?_, fun k a ha => ?_, fun k a ha => ?_, fun k sl e => ?_⟩
 · by_cases q1 : k = i
   · rw [q1, ai]; exact nd1
   · by_cases q2 : k = j
     · rw [q2, aj]; exact nd2
     · rw [ak q1 q2]; exact S.nd k
 · by_cases q : k = i ∨ k = j
   · by_cases q' : k' = i ∨ k' = j
     · rcases q with rfl | rfl <;> rcases q' with rfl | rfl
       · rfl
       · rw [ai] at hk; rw [aj] at hk'; exact absurd hk' (dj a hk)
       · rw [aj] at hk; rw [ai] at hk'; exact absurd hk (dj a hk')
       · rfl
     · have z := two q hk
       rw [ak (fun z => q' (.inl z)) fun z => q' (.inr z)] at hk'
       exact absurd z (apart (fun z => q' (.inl z)) (fun z => q' (.inr z)) hk')
   · by_cases q' : k' = i ∨ k' = j
     · have z := two q' hk'
       rw [ak (fun z => q (.inl z)) fun z => q (.inr z)] at hk
       exact absurd z (apart (fun z => q (.inl z)) (fun z => q (.inr z)) hk)
     · rw [ak (fun z => q (.inl z)) fun z => q (.inr z)] at hk
       rw [ak (fun z => q' (.inl z)) fun z => q' (.inr z)] at hk'
       exact S.one k k' a hk hk'
 · have : ∃ k', a ∈ A k' := by
    have z : Owned (putA (putA A i l1) j l2) a := ⟨k, ha⟩
    rw [own] at z
    exact z
   obtain ⟨k', z⟩ := this
   exact S.new k' a z
 · have : ∃ k', a ∈ A k' := by
    have z : Owned (putA (putA A i l1) j l2) a := ⟨k, ha⟩
    rw [own] at z
    exact z
   obtain ⟨k', z⟩ := this
   exact S.lst k' a z
 · rw [own]
   by_cases q2 : k = j
   · subst q2
     rw [List.getElem?_set_self (by rw [List.length_set]; exact hj)] at e
     exact ⟨w, by rw [List.getElem?_set_self (by rw [List.length_set]; exact hjv)], by rw [aj]; exact h2 sl (Option.some.inj e)⟩
   · rw [List.getElem?_set_ne (Ne.symm q2)] at e
     by_cases q1 : k = i
     · subst q1
       rw [List.getElem?_set_self hi] at e
       exact ⟨v, by rw [List.getElem?_set_ne (Ne.symm q2), List.getElem?_set_self hiv], by rw [ai]; exact h1 sl (Option.some.inj e)⟩
     · rw [List.getElem?_set_ne (Ne.symm q1)] at e
       obtain ⟨u, a, b⟩ := S.at' k sl e
       exact ⟨u, by rw [List.getElem?_set_ne (Ne.symm q2), List.getElem?_set_ne (Ne.symm q1)]; exact a, by rw [ak q1 q2]; exact b⟩
theorem StIn.re2 {i j : Nat} {v w : V} {si sj : Option Slot} {l1 l2 : List Addr} {H2 : Hp} (hij : i ≠ j) (S : StIn K F H vs ρ A) (hi : i < ρ.length) (hiv : i < vs.length) (hj : j < ρ.length) (hjv : j < vs.length) (sm : Same F.H H2)
 (k : ∀ b o, H b = some o -> isT o = false -> b ∉ A i -> b ∉ A j -> H2 b = some o) (nd1 : l1.Nodup) (nd2 : l2.Nodup) (dj : ∀ a ∈ l1, a ∉ l2) (hl : ∀ a, a ∈ l1 ∨ a ∈ l2 -> (a ∈ A i ∨ a ∈ A j ∨ H a = none) ∧ ∃ xs : MO, H2 a = some xs.ho)
 (h1 : ∀ sl O, si = some sl -> SlotIn K F H2 O l1 v sl) (h2 : ∀ sl O, sj = some sl -> SlotIn K F H2 O l2 w sl) : ∃ A', StIn K F H2 ((vs.set i (some v)).set j (some w)) ((ρ.set i si).set j sj) A' := by
 obtain ⟨vi, evi⟩ : ∃ x, vs[i]? = some x := ⟨_, List.getElem?_eq_getElem hiv⟩
 have nij : (A i ++ A j).Nodup := List.nodup_append.mpr ⟨S.nd i, S.nd j, fun a ha b hb z => hij (S.one i j a ha (z ▸ hb))⟩
 have S1 := S.regroup (v := v) (w := w) (si := none) (sj := none) (l1 := A i ++ A j) (l2 := []) hij hi hiv hj hjv nij List.nodup_nil (fun _ _ z => by cases z) (fun a => by simp) (fun _ z => by cases z) fun _ z => by cases z
 have n12 : (l1 ++ l2).Nodup := List.nodup_append.mpr ⟨nd1, nd2, fun a ha b hb z => dj a ha (z ▸ hb)⟩
 have ai : putA (putA A i (A i ++ A j)) j [] i = A i ++ A j := by rw [putA_ne hij, putA_same]
 have S2 := S1.re (i := i) (v := v) (sl := .rf v) (l := l1 ++ l2) (H2 := H2) (by simp [hi]) (by simp [hiv]) sm (fun b o e n hb => k b o e n (fun z => hb (by rw [ai]; simp [z])) fun z => hb (by rw [ai]; simp [z])) n12 (fun a ha => ?_) rfl
 · have S3 := S2.regroup (i := i) (j := j) (v := v) (w := w) (si := si) (sj := sj) (l1 := l1) (l2 := l2) hij (by simp [hi]) (by simp [hiv]) (by simp [hj]) (by simp [hjv]) nd1 nd2 dj (fun a => ?_) (fun sl e => h1 sl _ e) fun sl e => h2 sl _ e
   · have e1 : ((((vs.set i (some v)).set j (some w)).set i (some v)).set i (some v)).set j (some w) = (vs.set i (some v)).set j (some w) := by
      rw [List.set_set, List.set_comm _ _ (Ne.symm hij), List.set_set, List.set_set]
     have e2 : ((((ρ.set i none).set j none).set i (some (Slot.rf v))).set i si).set j sj = (ρ.set i si).set j sj := by
      rw [List.set_set, List.set_comm _ _ (Ne.symm hij), List.set_set, List.set_set]
     rw [e1, e2] at S3
     exact ⟨_, S3⟩
   · rw [putA_same, putA_ne (Ne.symm hij), putA_same]
     simp
 · rcases hl a (List.mem_append.mp ha) with ⟨z, q⟩
   refine ⟨?_, q⟩
   rw [ai]
   rcases z with z | z | z
   · exact .inl (by simp [z])
   · exact .inl (by simp [z])
   · exact .inr z
end
def tEM (K : PySem.W.Frag) (j : Nat) (ρ : List (Option D)) (dj d : D) : TE := fun σ H Q => ∃ (Z : Zone) (v : V) (as : List Addr), Z.Open H ∧ EnvIn K H Z σ ρ ∧ σ[j]? = some (some v) ∧ Tr K H dj v as ∧ ∀ u H', Same H H' -> Tr K H' d u as -> Q u H'
def EM (X : Cx) (j : Nat) (ρ : List (Option D)) (dj : D) (e : Expr) (d : D) : Prop := PE X e (tEM X.K j ρ dj d)
theorem Tr.same {K : PySem.W.Frag} {H H' : Hp} {d : D} {v : V} {as : List Addr} (s : Same H H') (h : Tr K H d v as) : Tr K H' d v as := h.carry (fun a xs e => s.at e) fun a xs _ e => s.at e
section
variable {X : Cx} {ρ : List (Option D)} {m : Bool} {e e1 e2 : Expr} {pos : Pos} {j : Nat} {x : Str} {dj d d1 d2 : D}
theorem em_name (hN : X.N[j]? = some x := by rfl) (hv : Vis X.env.scope x := by first | exact Or.inl rfl | exact Or.inr (Or.inl rfl) | exact Or.inr (Or.inr rfl)) (hd : (x == ("__debug__" : Str)) = false := by decide) (hcd : (x == ("__classdict__" : Str)) = false := by decide) : EM X j ρ dj (.Name x pos) dj :=
 PE.mono (pe_var hN hv hd hcd) fun σ H Q ⟨Z, v, as, oz, en, e, t, k⟩ => ⟨v, e, k v H (Same.refl H) t⟩
theorem em_tup {x1} (h1 : E X m ρ e1 d1) (fl : d1.flat = true) (h2 : EM X j ρ dj e2 d2) (hs : starEach [e1, e2] X.env = [(false, eval e1 X.env), (false, eval e2 X.env)] := by rfl) (hs2 : starEach [e2] X.env = [(false, eval e2 X.env)] := by rfl) : EM X j ρ dj (.Tuple [e1, e2] x1 pos) (.tup [d1, d2]) :=
 PE.mono (pe_tup (pa_cons h1 (pa_cons h2 pa_nil (by rw [hs2]; rfl)) (by rw [hs, hs2]))) fun σ H Q ⟨Z, v, as, oz, en, e, t, k⟩ => ⟨Z, oz, en, fun y H1 s1 i1 => ⟨Z, v, as, oz.same s1, en.same s1, e, t.same s1, fun u H2 s2 t2 => ⟨by show 2 <= sizeLine; decide, fun p hp => by
  have s3 : Same H2 (upd H2 p (.tup [y, u])) := same_new hp
  refine k _ _ ((s1.trans s2).trans s3) (tr_tup.mpr ⟨p, [y, u], rfl, upd_same, ?_⟩)
  exact trs_cons.mpr ⟨y, [u], [], as, rfl, rfl, Tr.of_flat fl ((i1.same s2).same s3), Trs.one (t2.same s3)⟩⟩⟩⟩
end
theorem Trs.snoc {K : PySem.W.Frag} {H : Hp} {d : D} : ∀ {ds : List D} {vs : List V} {as : List Addr}, Trs K H (ds ++ [d]) vs as -> ∃ ws u bs cs, vs = ws ++ [u] ∧ as = bs ++ cs ∧ Trs K H ds ws bs ∧ Tr K H d u cs
 | [], _, _, h => by
  obtain ⟨v, r, bs, cs, rfl, rfl, i, j⟩ := trs_cons.mp h
  obtain ⟨rfl, rfl⟩ := trs_nil.mp j
  exact ⟨[], v, [], bs, rfl, by simp, trs_nil.mpr ⟨rfl, rfl⟩, i⟩
 | d0 :: ds, _, _, h => by
  obtain ⟨v, r, bs, cs, rfl, rfl, i, j⟩ := trs_cons.mp h
  obtain ⟨ws, u, b1, b2, rfl, rfl, t1, t2⟩ := Trs.snoc j
  exact ⟨v :: ws, u, bs ++ b1, b2, rfl, by rw [List.append_assoc], trs_cons.mpr ⟨v, ws, bs, b1, rfl, rfl, i, t1⟩, t2⟩
section
variable {X : Cx} {F : Fn} {ρ : Rho} {Q : EndD} {rest : List Stmt} {e o : Expr} {d d' e' dj : D} {pos p : Pos}
theorem sd_trMoveG (mk : D -> Slot) {cc : V -> Prop} (hm : TreeSlot mk cc) (i j : Nat) {n : Nat} {pt : List (Bool × Int)} {ap cp : Pos} (hij : i ≠ j) (h : ρ[i]? = some (some (mk d))) (hj : ρ[j]? = some (some (.tr dj))) (ho : EN X i (view true false ρ) pt o) (up : TUp e' n pt d d') (hz : n < 100000) (he : EM X j (view true false ρ) dj e e') (hr : SD X F rest ((ρ.set i (some (mk d'))).set j none) Q)
 (hbase : attributeBase o "append" X.env (eval o X.env) = eval o X.env := by rfl) (hline : (ap.endLine == cp.line) = true := by rfl) (hs : starEach [e] X.env = [(false, eval e X.env)] := by rfl) (hsw : swapsWith (.Call (.Attribute o "append" ap) [e] [] cp) none pos.line X.env = pure false := by rfl) :
 SD X F (.Expr (.Call (.Attribute o "append" ap) [e] [] cp) pos :: rest) ρ Q := by
 refine sd_then (PS.mono (ps_expr (pe_bm PySem.F.plainAttrs_list PySem.F.slot_list_append PySem.F.type_list_append mt_append ho (pa_cons he pa_nil (by rw [hs]; rfl)) hbase (by rw [hs]; rfl) hline (by rw [hs]; rfl) rfl) hsw) ?_) hr
 rintro Q' σ H ⟨hv, hρ, A, hl, S, f⟩
 obtain ⟨v, e1, cv, tv⟩ := S.trG hm hl h
 obtain ⟨w, e2, tw⟩ := S.tr hl hj
 have hi : i < σ.length := (List.getElem?_eq_some_iff.mp e1).1
 have hj' : j < σ.length := (List.getElem?_eq_some_iff.mp e2).1
 obtain ⟨a, xs, q1, q2, q3, q4, q5⟩ := tv.app up (S.nd i)
 have na : a ∉ A j := fun z => hij (S.one i j a q2 z)
 refine ⟨v, .ref a, _, e1, q1, vz_open S true false, S.env hl true false, fun H1 s1 => ⟨.inl ⟨rfl, xs, SqL.of (s1.at q3)⟩, _, w, A j, (vz_open S true false).same s1, (S.env hl true false).same s1, e2, tw.same s1, fun u H2 s2 t2 => ?_⟩⟩
 have s12 := s1.trans s2
 refine ⟨a, xs, u, rfl, rfl, s12.at q3, by rw [q4]; exact Nat.lt_of_lt_of_le hz (by decide), f.nx _ _ ?_⟩
 have kk : ∀ b o, H b = some o -> isT o = false -> b ≠ a -> (upd H2 a (.lst (xs ++ [u]))) b = some o := fun b o e n hb => by rw [upd_ne hb]; exact s12.get b o e n
 obtain ⟨as', t3, pm⟩ := q5 (upd H2 a (.lst (xs ++ [u]))) u (A j) (fun b ys q => kk b _ q rfl fun z => by rw [z, q3] at q; cases q) (fun b ys _ hn q => kk b _ q rfl hn) upd_same
  (t2.carry (fun b ys q => by rw [upd_ne (show b ≠ a from fun z => by rw [z, s12.at q3] at q; cases q)]; exact q) fun b ys hb q => by rw [upd_ne (show b ≠ a from fun z => na (z ▸ hb))]; exact q)
 have nd' : as'.Nodup := pm.nodup_iff.mpr (List.nodup_append.mpr ⟨S.nd i, S.nd j, fun b hb c hc z => hij (S.one i j b hb (z ▸ hc))⟩)
 have hx := S.re2 (i := i) (j := j) (v := v) (w := w) (si := some (mk d')) (sj := none) (l1 := as') (l2 := []) (H2 := upd H2 a (.lst (xs ++ [u]))) hij (by rw [List.length_append]; omega) (by rw [List.length_append]; omega) (by rw [List.length_append]; omega) (by rw [List.length_append]; omega) ((S.same.trans s12).write (S.new i a q2) (s12.at q3))
  (fun b o e n hb _ => kk b o e n fun z => hb (z ▸ q2)) nd' List.nodup_nil (fun _ _ z => by cases z) (fun b hb => ?_) (fun sl O e => by cases e; exact (hm _ _ _ _ _ _ _).mpr ⟨cv, t3⟩) fun sl O e => by cases e
 · obtain ⟨A', key⟩ := hx
   refine ⟨_, A', by simp [hl], ?_, rfl⟩
   have z1 : (σ ++ hv).set i (some v) = σ ++ hv := set_self (by rw [List.getElem?_append_left hi]; exact e1)
   have z2 : (σ ++ hv).set j (some w) = σ ++ hv := set_self (by rw [List.getElem?_append_left hj']; exact e2)
   rw [z1, z2, set_app (by omega), set_app (by rw [List.length_set]; omega)] at key
   exact key
 · have hb' : b ∈ as' := by simpa using hb
   refine ⟨?_, ?_⟩
   · rcases List.mem_append.mp (pm.mem_iff.mp hb') with z | z
     · exact .inl z
     · exact .inr (.inl z)
   · obtain ⟨ys, q⟩ := t3.lsts b hb'
     exact ⟨.l ys, q⟩
theorem sd_trMove (i j : Nat) {n : Nat} {pt : List (Bool × Int)} {ap cp : Pos} (hij : i ≠ j) (h : ρ[i]? = some (some (.tr d))) (hj : ρ[j]? = some (some (.tr dj))) (ho : EN X i (view true false ρ) pt o) (up : TUp e' n pt d d') (hz : n < 100000) (he : EM X j (view true false ρ) dj e e') (hr : SD X F rest ((ρ.set i (some (.tr d'))).set j none) Q)
 (hbase : attributeBase o "append" X.env (eval o X.env) = eval o X.env := by rfl) (hline : (ap.endLine == cp.line) = true := by rfl) (hs : starEach [e] X.env = [(false, eval e X.env)] := by rfl) (hsw : swapsWith (.Call (.Attribute o "append" ap) [e] [] cp) none pos.line X.env = pure false := by rfl) :
 SD X F (.Expr (.Call (.Attribute o "append" ap) [e] [] cp) pos :: rest) ρ Q :=
 sd_trMoveG .tr tree_tr i j hij h hj ho up hz he hr hbase hline hs hsw
theorem sd_trName (i j : Nat) {x y : Str} {px py : Pos} (hij : i ≠ j) (h : ρ[i]? = some (some (.tr d))) (hr : SD X F rest ((ρ.set i none).set j (some (.tr d))) Q) (hN : X.N.Nodup) (hj : X.N[j]? = some y := by rfl) (hi : X.N[i]? = some x := by rfl)
 (hy : Loc X.env.scope y := by first | exact Or.inl rfl | exact Or.inr rfl) (hv : Vis X.env.scope x := by first | exact Or.inl rfl | exact Or.inr (Or.inl rfl) | exact Or.inr (Or.inr rfl)) (hρ : j < ρ.length := by exact of_decide_eq_true rfl)
 (hd : (x == ("__debug__" : Str)) = false := by decide) (hcd : (x == ("__classdict__" : Str)) = false := by decide) (hs : swapsWith (.Name x px) (some (.Name y py)) pos.line X.env = pure false := by rfl) (hf : X.fn y = true ∨ X.env.scope.names.lookup y = some .local := by first | exact .inl rfl | exact .inr rfl) :
 SD X F (.Assign [.Name y py] (.Name x px) pos :: rest) ρ Q := by
 refine sd_then (PS.mono (ps_set hN hj hy (pe_var hi hv hd hcd) hs hf) ?_) hr
 rintro Q' σ H ⟨hv, hρ', A, hl, S, f⟩
 obtain ⟨v, e1, tv⟩ := S.tr hl h
 have il : i < σ.length := (List.getElem?_eq_some_iff.mp e1).1
 refine ⟨v, e1, f.nx _ H ?_⟩
 have hx := S.re2 (i := i) (j := j) (v := v) (w := v) (si := none) (sj := some (.tr d)) (l1 := []) (l2 := A i) (H2 := H) hij (by rw [List.length_append]; omega) (by rw [List.length_append]; omega) (by rw [List.length_append]; omega) (by rw [List.length_append]; omega) S.same (fun b o e _ _ _ => e) List.nodup_nil (S.nd i) (fun _ z => by cases z) (fun b hb => ?_) (fun sl O e => by cases e) fun sl O e => by cases e; exact tv
 · obtain ⟨A', key⟩ := hx
   refine ⟨_, A', by simp [hl], ?_, rfl⟩
   have z1 : (σ ++ hv).set i _ = σ ++ hv := set_self (by rw [List.getElem?_append_left il]; exact e1)
   rw [z1, set_app (by omega), set_app (by omega), set_app (by rw [List.length_set]; omega)] at key
   exact key
 · have hb' : b ∈ A i := by simpa using hb
   exact ⟨.inl hb', S.lst i b hb'⟩
theorem sd_trPopG (mk : D -> Slot) {cc : V -> Prop} (hm : TreeSlot mk cc) (i j : Nat) {x y : Str} {px py ap cp : Pos} {ds : List D} (hij : i ≠ j) (h : ρ[i]? = some (some (mk (.lst (ds ++ [d]))))) (hr : SD X F rest ((ρ.set i (some (mk (.lst ds)))).set j (some (.tr d))) Q) (hN : X.N.Nodup) (hj : X.N[j]? = some y := by rfl) (hi : X.N[i]? = some x := by rfl)
 (hy : Loc X.env.scope y := by first | exact Or.inl rfl | exact Or.inr rfl) (hv : Vis X.env.scope x := by first | exact Or.inl rfl | exact Or.inr (Or.inl rfl) | exact Or.inr (Or.inr rfl)) (hρ : j < ρ.length := by exact of_decide_eq_true rfl)
 (hd : (x == ("__debug__" : Str)) = false := by decide) (hcd : (x == ("__classdict__" : Str)) = false := by decide) (hbase : attributeBase (.Name x px) "pop" X.env (eval (.Name x px) X.env) = eval (.Name x px) X.env := by rfl) (hline : (ap.endLine == cp.line) = true := by rfl)
 (hs : swapsWith (.Call (.Attribute (.Name x px) "pop" ap) [] [] cp) (some (.Name y py)) pos.line X.env = pure false := by rfl) (hf : X.fn y = true ∨ X.env.scope.names.lookup y = some .local := by first | exact .inl rfl | exact .inr rfl) :
 SD X F (.Assign [.Name y py] (.Call (.Attribute (.Name x px) "pop" ap) [] [] cp) pos :: rest) ρ Q := by
 refine sd_then (PS.mono (ps_set hN hj hy (pe_bm0 PySem.F.plainAttrs_list PySem.F.slot_list_pop PySem.F.type_list_pop mt_pop (pe_var hi hv hd hcd) hbase hline) hs hf) ?_) hr
 rintro Q' σ H ⟨hv, hρ', A, hl, S, f⟩
 obtain ⟨v, e1, cv, tv⟩ := S.trG hm hl h
 have il : i < σ.length := (List.getElem?_eq_some_iff.mp e1).1
 obtain ⟨a, xs, bs, rfl, ea, ha, tt⟩ := tr_lst.mp tv
 obtain ⟨xs1, u, b1, b2, rfl, rfl, t1, t2⟩ := tt.snoc
 have nd := S.nd i
 rw [ea] at nd
 obtain ⟨n0, nd1⟩ := List.nodup_cons.mp nd
 obtain ⟨n1, n2, dj⟩ := List.nodup_append.mp nd1
 have aA : a ∈ A i := by rw [ea]; exact List.mem_cons_self
 refine ⟨.ref a, e1, .inl ⟨rfl, _, SqL.of ha⟩, a, xs1 ++ [u], u, rfl, rfl, ha, by simp, ?_⟩
 rw [List.dropLast_concat]
 have up : ∀ b o, H b = some o -> b ≠ a -> (upd H a (.lst xs1)) b = some o := fun b o e hb => by rw [upd_ne hb]; exact e
 have tk : ∀ b (ys : List V), H b = some (.tup ys) -> (upd H a (.lst xs1)) b = some (.tup ys) := fun b ys q => up b _ q fun z => by rw [z, ha] at q; cases q
 refine f.nx _ _ ?_
 have hx := S.re2 (i := i) (j := j) (v := .ref a) (w := u) (si := some (mk (.lst ds))) (sj := some (.tr d)) (l1 := a :: b1) (l2 := b2) (H2 := upd H a (.lst xs1)) hij (by rw [List.length_append]; omega) (by rw [List.length_append]; omega) (by rw [List.length_append]; omega) (by rw [List.length_append]; omega) (S.same.write (S.new i a aA) ha)
  (fun b o e n hb _ => up b o e fun z => hb (z ▸ aA)) (List.nodup_cons.mpr ⟨fun z => n0 (by simp [z]), n1⟩) n2 (fun b hb z => ?_) (fun b hb => ?_)
  (fun sl O e => by cases e; exact (hm _ _ _ _ _ _ _).mpr ⟨cv, tr_lst.mpr ⟨a, xs1, b1, rfl, rfl, upd_same, t1.carry tk fun b ys hb q => up b _ q fun z => n0 (by simp [<- z, hb])⟩⟩)
  fun sl O e => by cases e; exact t2.carry tk fun b ys hb q => up b _ q fun z => n0 (by simp [<- z, hb])
 · obtain ⟨A', key⟩ := hx
   refine ⟨_, A', by simp [hl], ?_, rfl⟩
   have z1 : (σ ++ hv).set i _ = σ ++ hv := set_self (by rw [List.getElem?_append_left il]; exact e1)
   rw [z1, set_app (by omega), set_app (by omega), set_app (by rw [List.length_set]; omega)] at key
   exact key
 · rcases List.mem_cons.mp hb with rfl | hb
   · exact n0 (by simp [z])
   · exact dj b hb b z rfl
 · have hb' : b = a ∨ b ∈ b1 ∨ b ∈ b2 := by
    rcases hb with hb | hb
    · rcases List.mem_cons.mp hb with q | q
      · exact .inl q
      · exact .inr (.inl q)
    · exact .inr (.inr hb)
   have bA : b ∈ A i := by
    rw [ea]
    rcases hb' with q | q | q <;> simp [q]
   refine ⟨.inl bA, ?_⟩
   by_cases z : b = a
   · exact ⟨.l xs1, by rw [z]; exact upd_same⟩
   · obtain ⟨o, q⟩ := S.lst i b bA
     exact ⟨o, up b _ q z⟩
end
def rmH (H : Hp) (as : List Addr) : Hp := fun b => if b ∈ as then none else H b
theorem rm_out {H : Hp} {as : List Addr} {b : Addr} (h : b ∉ as) : rmH H as b = H b := by unfold rmH; rw [if_neg h]
theorem rm_in {H : Hp} {as : List Addr} {b : Addr} (h : b ∈ as) : rmH H as b = none := by unfold rmH; rw [if_pos h]
theorem rm_some {H : Hp} {as : List Addr} {b : Addr} {o : HO} (h : rmH H as b = some o) : H b = some o ∧ b ∉ as := by
 by_cases q : b ∈ as
 · rw [rm_in q] at h; cases h
 · rw [rm_out q] at h; exact ⟨h, q⟩
theorem rm_none {H : Hp} {as : List Addr} {b : Addr} (h : rmH H as b = none) : b ∈ as ∨ H b = none := by
 by_cases q : b ∈ as
 · exact .inl q
 · rw [rm_out q] at h; exact .inr h
theorem rm_tabs {H : Hp} {as : List Addr} (hl : ∀ a ∈ as, ∃ xs, H a = some (.lst xs)) (t : TabsOk H) : TabsOk (rmH H as) := fun P hP => by
 obtain ⟨ps, e, tr, k⟩ := t P hP
 have no : ∀ {b : Addr} {o : HO}, H b = some o -> (∀ xs : List V, o ≠ .lst xs) -> b ∉ as := fun {b o} q n z => by
  obtain ⟨xs, q'⟩ := hl b z
  rw [q] at q'
  exact n xs (Option.some.inj q')
 refine ⟨ps, by rw [rm_out (no e (by intro xs z; cases z))]; exact e, tr, fun pos cv q => ?_⟩
 obtain ⟨c, rfl, hc⟩ := k pos cv q
 exact ⟨c, rfl, by rw [rm_out (no hc (by intro xs z; cases z))]; exact hc⟩
theorem un_tabs {H : Hp} {as : List Addr} (t : TabsOk (rmH H as)) : TabsOk H := fun P hP => by
 obtain ⟨ps, e, tr, k⟩ := t P hP
 refine ⟨ps, (rm_some e).1, tr, fun pos cv q => ?_⟩
 obtain ⟨c, rfl, hc⟩ := k pos cv q
 exact ⟨c, rfl, (rm_some hc).1⟩
theorem same_un {H : Hp} {as : List Addr} : Same (rmH H as) H := ⟨fun b o e _ => (rm_some e).1, fun b ps e => ⟨ps, (rm_some e).1⟩, un_tabs⟩
theorem same_rm {H0 H : Hp} {as : List Addr} (s : Same H0 H) (hn : ∀ a ∈ as, H0 a = none) (hl : ∀ a ∈ as, ∃ xs, H a = some (.lst xs)) : Same H0 (rmH H as) := by
 have no : ∀ {b : Addr} {o : HO}, H0 b = some o -> b ∉ as := fun {b o} q z => by rw [hn b z] at q; cases q
 exact ⟨fun b o e n => by rw [rm_out (no e)]; exact s.get b o e n, fun b ps e => by rw [rm_out (no e)]; exact s.tbl b ps e, fun t => rm_tabs hl (s.tabs t)⟩
def spM (K : PySem.W.Frag) (ds : List D) (d d' : D) : Sp := fun vs H Q _ => ∃ (Z : Zone) (xs : List V) (u : V) (as : List Addr), vs = xs ++ [u] ∧ Z.Open H ∧ Ins K H Z ds xs ∧ Tr K H d u as ∧ as.Nodup ∧
 ∀ H' as', Same (rmH H as) H' -> Tr K H' d' u as' -> as'.Nodup -> (∀ a ∈ as', rmH H as a = none) -> Q .non H'
theorem start_put' {N : List Str} {xs : List V} {v : V} (h : xs.length < N.length) : L2.start N (xs ++ [v]) = (L2.start N xs).set xs.length (some v) := by
 unfold L2.start
 obtain ⟨k, hk⟩ : ∃ k, N.length - xs.length = k + 1 := ⟨N.length - xs.length - 1, by omega⟩
 have hk' : N.length - (xs ++ [v]).length = k := by rw [List.length_append]; simp; omega
 rw [hk, hk', List.replicate_succ, List.map_append, List.append_assoc, List.set_append_right _ _ (by simp)]
 simp
def startM (N : List Str) (ds : List D) (u : V) (d : D) : Rho := (startD N ds).set ds.length (some (.trl u d))
theorem startM_in {K : PySem.W.Frag} {Z : Zone} {H : Hp} {N : List Str} {ds : List D} {xs : List V} {u : V} {d : D} {as : List Addr} (oz : Z.Open H) (h : Ins K H Z ds xs) (fl : flats ds = true) (hN : ds.length < N.length) (t : Tr K H d u as) (nd : as.Nodup) :
 StIn K ⟨true, ⟨Z.m, fun a => Z.S a ∨ a ∈ as⟩, rmH H as⟩ H (L2.start N (xs ++ [u]) ++ []) (startM N ds u d ++ []) (putA (fun _ => []) ds.length as) := by
 have hl := h.length
 have opn : (⟨Z.m, fun a => Z.S a ∨ a ∈ as⟩ : Zone).Open (rmH H as) := ⟨fun a q => by
  rcases rm_none q with z | z
  · exact .inr z
  · exact .inl (oz.op a z), rm_tabs t.lsts oz.tb⟩
 have own : ∀ {i : Nat} {a : Addr}, a ∈ putA (fun _ => []) ds.length as i -> i = ds.length ∧ a ∈ as := fun {i a} ha => by
  by_cases q : i = ds.length
  · rw [q, putA_same] at ha; exact ⟨q, ha⟩
  · rw [putA_ne q] at ha; cases ha
 have e1 : (L2.start N xs).length = N.length := by simp [L2.start]; omega
 have e2 : (startD N ds).length = N.length := by simp [startD]; omega
 refine ⟨same_un, opn, fun i => ?_, fun i j a ha hb => (own ha).1.trans (own hb).1.symm, fun i a ha => rm_in (own ha).2, fun i a ha => ?_, fun i sl e => ?_⟩
 · by_cases q : i = ds.length
   · rw [q, putA_same]; exact nd
   · rw [putA_ne q]; exact List.nodup_nil
 · obtain ⟨ys, z⟩ := t.lsts a (own ha).2
   exact ⟨.l ys, z⟩
 · rw [List.append_nil] at e ⊢
   rw [start_put' (by omega), <- hl]
   unfold startM at e
   by_cases q : i = ds.length
   · subst q
     rw [List.getElem?_set_self (by omega)] at e
     cases e
     exact ⟨u, by rw [List.getElem?_set_self (by omega)], rfl, by rw [putA_same]; exact t⟩
   · rw [List.getElem?_set_ne (Ne.symm q)] at e
     have S0 := start_in (m := true) (N := N) oz h
     obtain ⟨v, a, b⟩ := S0.at' i sl (by rw [List.append_nil]; exact e)
     rw [List.append_nil] at a
     refine ⟨v, by rw [List.getElem?_set_ne (Ne.symm q)]; exact a, ?_⟩
     -- the slot is a flat datum
     unfold startD at e
     by_cases hi : i < ds.length
     · rw [List.getElem?_append_left (by simpa using hi), List.getElem?_map] at e
       have hd : ds[i]? = some ds[i] := by simp [hi]
       rw [hd] at e
       have e' : some (Slot.pl false ds[i]) = some sl := by simpa using e
       cases e'
       have b' : In K H (zn ⟨true, Z, H⟩ (Owned fun _ => []) false) ds[i] v := b
       exact In.flat' (flats_mem fl _ (List.getElem_mem hi)) b'
     · rw [List.getElem?_append_right (by simpa using hi), List.getElem?_replicate] at e
       split at e <;> cases e
section
variable {P : Program} {w : World} {K : PySem.W.Frag} {mg : Str -> Option Value} {base : Heap}
theorem fnM {x qual : Str} {st : Stmt} {f : Addr} {fd : FuncData} {N ps : List Str} {k : Nat} {ds : List D} {d d' : D} (Fx : Fun K x qual st f fd) (S : FnScope N ps (defScope st)) (hlen : ds.length + 1 = ps.length) (hN : ds.length < N.length) (fl : flats ds = true)
 (body : ∀ (cdv : Value) (A : Around) (outer : List Env) (s : Shared) (H : Hp) (E : XK) (F : Fn) (u : V), Room k (A.deeper (envOfC qual (defScope st) s.heap.objs.size f cdv)) ->
  SD (cxOf CX0 P w K mg base N qual (defScope st) f cdv A outer s H E).nox F (defBody st) (startM N ds u d) { nx := fun r => r[ds.length]? = some (some (.trl u d')), rt := fun _ => False }) : FnOk P w K mg base CX0 (k + 1) f fd ps (spM K ds d d') := by
 refine Fx.ok S (fun vs H Q E ⟨Z, xs, u, as, e, oz, i, t, nd, kk⟩ => ?_) (fun cdv A outer s H vs Q E hr ⟨Z, xs, u, as, e, oz, i, t, nd, kk⟩ => ?_)
 · rw [e, List.length_append, <- i.length]; exact hlen
 · subst e
   have hl := i.length
   refine ⟨_, body cdv A outer s H E _ u hr, [], [], _, ?_, startM_in oz i fl hN t nd, ⟨rfl, fun σ H' ⟨r, A', hl', S', e⟩ => ?_, fun σ H' ⟨r, A', hl, S', e⟩ => e.elim, fun σ H' ⟨r, A', hl, S', e⟩ => e.elim, fun _ _ _ _ _ e => e.elim, fun _ _ _ _ _ _ _ _ e => e.elim, fun _ _ _ _ _ _ _ _ _ _ _ _ _ e => e.elim⟩⟩
   · simp [L2.start, startM, startD]; omega
   · obtain ⟨v, e1, cv, tv⟩ := S'.trG (tree_trl u) hl' e
     subst cv
     exact kk H' (A' ds.length) S'.same tv (S'.nd _) (S'.new _)
end
section
variable {X : Cx} {F : Fn} {ρ : Rho} {Q : EndD} {rest : List Stmt} {e : Expr} {d d' de : D} {pos p py cp : Pos} {m : Bool}
theorem sd_callM (j : Nat) {f : Addr} {fd : FuncData} {p1 p2 x y : Str} {k : Nat} (Fk : FnOk X.prog X.w X.K X.mg X.base CX0 k f fd [p1, p2] (spM X.K [de] d d')) (hb : Binds X.K fd [p1, p2] []) (hk : PySem.W.keepIn X.K (.ref f) = true) (hmg : X.mg x = some (.ref f)) (hr0 : Room k X.A)
 (h : ρ[j]? = some (some (.tr d))) (he : E X m (view true false ρ) e de) (hr : SD X F rest (ρ.set j (some (.tr d'))) Q) (hN : X.N[j]? = some y := by rfl) (hv : Vis X.env.scope y := by first | exact Or.inl rfl | exact Or.inr (Or.inl rfl) | exact Or.inr (Or.inr rfl))
 (hd : (y == ("__debug__" : Str)) = false := by decide) (hcd : (y == ("__classdict__" : Str)) = false := by decide) (hg : Gl X x := by rfl) (hdb : (x == ("__debug__" : Str)) = false := by decide)
 (h1 : starEach [e, .Name y py] X.env = (false, eval e X.env) :: starEach [.Name y py] X.env := by rfl) (h2 : starEach [.Name y py] X.env = (false, eval (.Name y py) X.env) :: starEach [] X.env := by rfl) (hpl : (backTo cp (starEach [.Name y py] X.env)).any (·.1) = false := by rfl)
 (hsw : swapsWith (.Call (.Name x p) [e, .Name y py] [] cp) none pos.line X.env = pure false := by rfl) : SD X F (.Expr (.Call (.Name x p) [e, .Name y py] [] cp) pos :: rest) ρ Q := by
 refine sd_then (PS.mono (ps_expr (pe_call Fk hr0 hg hmg hk hb .nil pass0 (pa_cons he (pa_cons (pe_var hN hv hd hcd) pa_nil h2) h1) hdb h1 hpl) hsw) ?_) hr
 rintro Q' σ H ⟨hv, hρ, A, hl, S, ff⟩
 obtain ⟨v, e1, tv⟩ := S.tr hl h
 have hj : j < σ.length := (List.getElem?_eq_some_iff.mp e1).1
 refine ⟨_, vz_open S true false, S.env hl true false, fun xe H1 s1 i1 => ⟨v, e1, ?_⟩⟩
 have t1 := tv.same s1
 refine ⟨_, [xe], v, A j, rfl, (vz_open S true false).same s1, Ins.one (i1.plain (vz_open S true false)), t1, S.nd j, fun H' as' sm t' nd' nw' => ff.nx _ _ ⟨_, putA A j as', by simp [hl], ?_, rfl⟩⟩
 have key := S.re (i := j) (v := v) (sl := .tr d') (l := as') (H2 := H') (by rw [List.length_append]; omega) (by rw [List.length_append]; omega) ((same_rm (S.same.trans s1) (S.new j) t1.lsts).trans sm) (fun b o e n hb => sm.get b o (by rw [rm_out hb]; exact s1.get b o e n) n) nd' (fun b hb => ⟨?_, ?_⟩) t'
 · rw [set_self (by rw [List.getElem?_append_left hj]; exact e1), set_app (by omega)] at key
   exact key
 · rcases rm_none (nw' b hb) with z | z
   · exact .inl z
   · exact .inr (s1.free z)
 · obtain ⟨ys, q⟩ := t'.lsts b hb
   exact ⟨.l ys, q⟩
end
section
variable {X : Cx} {ρ : List (Option D)} {m1 m2 : Bool} {o a : Expr} {ap cp p pos : Pos}
theorem e_strI {i : Int} (ha : E X m1 ρ a (.int i)) (h : i.natAbs.log2 < 1920) (hm : X.mg "str" = none) (hg : Gl X "str" := by rfl) (hs : starEach [a] X.env = [(false, eval a X.env)] := by rfl) : E X true ρ (.Call (.Name "str" p) [a] [] pos) (.str (toString i)) :=
 PE.mono (pe_callTy call_str_int hg hm PyProof.Rows.boot_str (pa_cons ha pa_nil (by rw [hs]; rfl)) (by decide) (by decide) (by rw [hs]; rfl) rfl) fun σ H Q z0 => el13 z0 fun Z oz en k => ⟨Z, oz, en, fun x H1 s1 i1 => by
  cases in_int.mp (i1.plain oz)
  exact ⟨i, rfl, h, k _ H1 s1 (in_str.mpr rfl)⟩⟩
end
theorem digit_str {n : Nat} (h : n < 10) : cl (toString ((n : Nat) : Int) : Str) = [48 + n] := by
 have : n = 0 ∨ n = 1 ∨ n = 2 ∨ n = 3 ∨ n = 4 ∨ n = 5 ∨ n = 6 ∨ n = 7 ∨ n = 8 ∨ n = 9 := by omega
 rcases this with rfl | rfl | rfl | rfl | rfl | rfl | rfl | rfl | rfl | rfl <;> decide +kernel
mutual
def tP : Pt -> List Nat
 | .word w => cl w
 | .beg w => cl w ++ [42]
 | .fin w => 42 :: cl w
 | .any => [63]
 | .upto n => [46, 46, 48 + n]
 | .inn q => [40, 32] ++ joinL [32, 124, 32] (tQs q) ++ [32, 41]
def tPs : List Pt -> List (List Nat)
 | [] => []
 | p :: ps => tP p :: tPs ps
def tQs : List (List Pt) -> List (List Nat)
 | [] => []
 | ps :: q => joinL [32] (tPs ps) :: tQs q
end
def tR (ps : List Pt) : List Nat := joinL [32] (tPs ps)
def tQ (q : List (List Pt)) : List Nat := joinL [32, 124, 32] (tQs q)
theorem tPs_map : ∀ ps : List Pt, tPs ps = ps.map tP
 | [] => by simp [tPs]
 | p :: ps => by simp [tPs, tPs_map ps]
theorem tQs_map : ∀ q : List (List Pt), tQs q = q.map tR
 | [] => by simp [tQs]
 | p :: ps => by simp [tQs, tQs_map ps, tR]
def wOk (w : Str) : Prop := cl w ≠ [] ∧ (∀ c ∈ cl w, sgB c = true) ∧ (cl w).length <= 40
mutual
def pW : Nat -> Pt -> Prop
 | _, .word w => wOk w
 | _, .beg w => wOk w
 | _, .fin w => wOk w
 | _, .any => True
 | _, .upto n => n < 10
 | k, .inn q => ∃ j, k = j + 1 ∧ q ≠ [] ∧ qWs j q
def rWs : Nat -> List Pt -> Prop
 | _, [] => True
 | k, p :: ps => pW k p ∧ rWs k ps
def qWs : Nat -> List (List Pt) -> Prop
 | _, [] => True
 | k, ps :: q => (ps ≠ [] ∧ rWs k ps) ∧ qWs k q
end
theorem rWs_mem : ∀ {ps : List Pt} {k : Nat}, rWs k ps ↔ ∀ p ∈ ps, pW k p
 | [], _ => by simp [rWs]
 | p :: ps, k => by simp [rWs, rWs_mem (ps := ps)]
theorem qWs_mem : ∀ {q : List (List Pt)} {k : Nat}, qWs k q ↔ ∀ ps ∈ q, ps ≠ [] ∧ rWs k ps
 | [], _ => by simp [qWs]
 | p :: ps, k => by simp [qWs, qWs_mem (q := ps)]
def qW (k : Nat) (q : List (List Pt)) : Prop := q ≠ [] ∧ qWs k q
mutual
theorem pW_ok : ∀ {p : Pt} {k : Nat}, pW k p -> ptOk p k
 | .word _, _, _ => by unfold ptOk; trivial
 | .beg _, _, _ => by unfold ptOk; trivial
 | .fin _, _, _ => by unfold ptOk; trivial
 | .any, _, _ => by unfold ptOk; trivial
 | .upto n, _, h => by unfold pW at h; unfold ptOk; omega
 | .inn q, k, h => by
  unfold pW at h
  obtain ⟨j, e, _, h⟩ := h
  unfold ptOk
  exact ⟨j, e, qWs_ok h⟩
theorem rWs_ok : ∀ {ps : List Pt} {k : Nat}, rWs k ps -> psOk ps k
 | [], _, _ => by unfold psOk; trivial
 | p :: ps, k, h => by unfold rWs at h; unfold psOk; exact ⟨pW_ok h.1, rWs_ok h.2⟩
theorem qWs_ok : ∀ {q : List (List Pt)} {k : Nat}, qWs k q -> qOk q k
 | [], _, _ => by unfold qOk; trivial
 | ps :: q, k, h => by unfold qWs at h; unfold qOk; exact ⟨rWs_ok h.1.2, qWs_ok h.2⟩
end
theorem joinL_len2 {sep : List Nat} (hs : sep ≠ []) : ∀ l : List (List Nat), (l.map List.length).sum + l.length <= (joinL sep l).length + 1
 | [] => by simp
 | [x] => by simp [joinL]
 | x :: y :: r => by
  have ih := joinL_len2 hs (y :: r)
  have : 0 < sep.length := List.length_pos_iff.mpr hs
  rw [joinL_cons2]
  simp only [List.map_cons, List.sum_cons, List.length_cons, List.length_append] at ih ⊢
  omega
theorem joinL_mem {sep : List Nat} : ∀ {l : List (List Nat)} {x : List Nat}, x ∈ l -> x.length <= (joinL sep l).length
 | [], x, h => by simp at h
 | [y], x, h => by simp at h; subst h; simp [joinL]
 | y :: z :: r, x, h => by
  rw [joinL_cons2]
  rcases List.mem_cons.mp h with rfl | h
  · simp only [List.length_append]; omega
  · have := joinL_mem (sep := sep) h
    simp only [List.length_append] at this ⊢; omega
def Firm (l : List Nat) : Prop := ∃ a b : Nat, l.head? = some a ∧ l.getLast? = some b ∧ a ≠ 32 ∧ b ≠ 32
theorem sg_ne32 {c : Nat} (h : sgB c = true) : c ≠ 32 := fun e => by rw [e, sg32] at h; cases h
theorem firm_word {w : Str} (h : wOk w) : Firm (cl w) := by
 obtain ⟨h1, h2, _⟩ := h
 cases hw : cl w with
 | nil => exact absurd hw h1
 | cons a r =>
  rw [hw] at h2
  have hl : ∃ b, (a :: r).getLast? = some b := ⟨_, List.getLast?_eq_some_getLast (by simp)⟩
  obtain ⟨b, hb⟩ := hl
  exact ⟨a, b, rfl, hb, sg_ne32 (h2 a (by simp)), sg_ne32 (h2 b (List.mem_of_getLast? hb))⟩
def gShowQ (k : Nat) (ds : List D) (d : D) : Prop := ∃ q : List (List Pt), qW k q ∧ (tQ q).length <= 100000 ∧ ds = [questD q] ∧ d = .str (mkS (tQ q))
def gShowR (k : Nat) (ds : List D) (d : D) : Prop := ∃ ps : List Pt, ps ≠ [] ∧ rWs k ps ∧ (tR ps).length <= 100000 ∧ ds = [.lst (psDs ps)] ∧ d = .str (mkS (tR ps))
def gShowP (k : Nat) (ds : List D) (d : D) : Prop := ∃ p : Pt, pW k p ∧ (tP p).length <= 100000 ∧ ds = [ptD p] ∧ d = .str (mkS (tP p))
theorem join_mk (sep : Str) (l : List (List Nat)) : Txt.join sep (l.map mkS) = mkS (joinL (cl sep) l) := by
 refine cl_inj ?_
 rw [cl_tjoin, cl_mkS, List.map_map]
 congr 1
 exact (List.map_congr_left fun x _ => by simp [cl_mkS]).trans (List.map_id l)
mutual
theorem ptD_inj : ∀ {p p' : Pt}, ptD p = ptD p' -> p = p'
 | .word w, p', h => by cases p' <;> simp [ptD] at h ⊢ <;> first | exact h | (revert h; decide +kernel) | (exact absurd h.1 (by decide +kernel))
 | .beg w, p', h => by cases p' <;> simp [ptD] at h ⊢ <;> first | exact h | (revert h; decide +kernel) | (exact absurd h.1 (by decide +kernel))
 | .fin w, p', h => by cases p' <;> simp [ptD] at h ⊢ <;> first | exact h | (revert h; decide +kernel) | (exact absurd h.1 (by decide +kernel))
 | .any, p', h => by cases p' <;> simp [ptD] at h ⊢
 | .upto n, p', h => by cases p' <;> simp [ptD] at h ⊢ <;> first | exact h | omega | (exact absurd h.1 (by decide +kernel))
 | .inn q, p', h => by
  cases p' with
  | inn q' => simp [ptD] at h; rw [qDs_inj h]
  | _ => simp [ptD] at h
theorem psDs_inj : ∀ {ps ps' : List Pt}, psDs ps = psDs ps' -> ps = ps'
 | [], [], _ => rfl
 | [], _ :: _, h => by simp [psDs] at h
 | _ :: _, [], h => by simp [psDs] at h
 | p :: ps, p' :: ps', h => by
  simp [psDs] at h
  rw [ptD_inj h.1, psDs_inj h.2]
theorem qDs_inj : ∀ {q q' : List (List Pt)}, qDs q = qDs q' -> q = q'
 | [], [], _ => rfl
 | [], _ :: _, h => by simp [qDs] at h
 | _ :: _, [], h => by simp [qDs] at h
 | p :: ps, p' :: ps', h => by
  simp [qDs] at h
  rw [psDs_inj h.1, qDs_inj h.2]
end
open Classical in
noncomputable def ptOf (d : D) : Pt := if h : ∃ p, ptD p = d then h.choose else .any
theorem ptOf_ptD (p : Pt) : ptOf (ptD p) = p := by
 have h : ∃ p', ptD p' = ptD p := ⟨p, rfl⟩
 unfold ptOf
 rw [dif_pos h]
 exact ptD_inj h.choose_spec
open Classical in
noncomputable def rowOfD (d : D) : List Pt := if h : ∃ ps, D.lst (psDs ps) = d then h.choose else []
theorem rowOfD_ps (ps : List Pt) : rowOfD (.lst (psDs ps)) = ps := by
 have h : ∃ ps', D.lst (psDs ps') = D.lst (psDs ps) := ⟨ps, rfl⟩
 unfold rowOfD
 rw [dif_pos h]
 have e := h.choose_spec
 injection e with e
 exact psDs_inj e
def wlen (c : Int) : Int := 1 + part c 0 ([3, 14, 40].getD (part c 1 3).toNat 0)
def wordC (c : Int) (n : Nat) : Str := mkS ((List.range n).map fun k => (cl W36).getD (part c (((k : Nat) : Int) + 2) 36).toNat 0)
theorem wlen_le (c : Int) : 1 <= wlen c ∧ wlen c <= 40 := by
 have h0 := part_nn c 1 (show (0 : Int) < 3 by decide)
 have h1 := part_lt c 1 (show (0 : Int) < 3 by decide)
 unfold wlen
 have : (part c 1 3).toNat = 0 ∨ (part c 1 3).toNat = 1 ∨ (part c 1 3).toNat = 2 := by omega
 rcases this with h | h | h <;> rw [h]
 · have a := part_nn c 0 (show (0 : Int) < 3 by decide)
   have b := part_lt c 0 (show (0 : Int) < 3 by decide)
   exact ⟨by simp; omega, by simp; omega⟩
 · have a := part_nn c 0 (show (0 : Int) < 14 by decide)
   have b := part_lt c 0 (show (0 : Int) < 14 by decide)
   exact ⟨by simp; omega, by simp; omega⟩
 · have a := part_nn c 0 (show (0 : Int) < 40 by decide)
   have b := part_lt c 0 (show (0 : Int) < 40 by decide)
   exact ⟨by simp; omega, by simp; omega⟩
theorem sg_at {n : Nat} (h : n < 36) : sgB ((cl W36).getD n 0) = true := by
 have hl : (cl W36).length = 36 := by decide +kernel
 unfold sgB
 rw [decide_eq_true_iff, List.getD_eq_getElem?_getD, List.getElem?_eq_getElem (by omega)]
 exact List.getElem_mem _
theorem wordC_ok (c : Int) : wOk (wordC c (wlen c).toNat) := by
 obtain ⟨h1, h2⟩ := wlen_le c
 unfold wordC wOk
 rw [cl_mkS]
 refine ⟨?_, fun x hx => ?_, by simp; omega⟩
 · intro z
   have := congrArg List.length z
   simp at this
   omega
 · obtain ⟨k, _, rfl⟩ := List.mem_map.mp hx
   have a := part_nn c (((k : Nat) : Int) + 2) (show (0 : Int) < 36 by decide)
   have b := part_lt c (((k : Nat) : Int) + 2) (show (0 : Int) < 36 by decide)
   exact sg_at (by omega)
def singleP (c : Int) : Pt :=
 if part c 50 7 < 3 then .word (wordC c (wlen c).toNat) else if part c 50 7 = 3 then .beg (wordC c (wlen c).toNat) else if part c 50 7 = 4 then .fin (wordC c (wlen c).toNat) else if part c 50 7 = 5 then .any else .upto (part c 51 10).toNat
theorem single_ok (c : Int) (k : Nat) : pW k (singleP c) ∧ (tP (singleP c)).length <= 41 := by
 have hw := wordC_ok c
 have a := part_nn c 51 (show (0 : Int) < 10 by decide)
 have b := part_lt c 51 (show (0 : Int) < 10 by decide)
 unfold singleP
 split
 · exact ⟨by unfold pW; exact hw, by unfold tP; have := hw.2.2; omega⟩
 · split
   · exact ⟨by unfold pW; exact hw, by unfold tP; have := hw.2.2; simp; omega⟩
   · split
     · exact ⟨by unfold pW; exact hw, by unfold tP; have := hw.2.2; simp; omega⟩
     · split
       · exact ⟨by unfold pW; trivial, by unfold tP; simp⟩
       · exact ⟨by unfold pW; omega, by unfold tP; simp⟩
def gWord31 (ds : List D) (d : D) : Prop := ∃ c : Int, ds = [.int c] ∧ d = .str (wordC c (wlen c).toNat)
def gSingle (ds : List D) (d : D) : Prop := ∃ c : Int, ds = [.int c] ∧ d = ptD (singleP c)
def lastR (q : List (List Pt)) : List Pt := q.getLastD []
def addL (q : List (List Pt)) (p : Pt) : List (List Pt) := q.dropLast ++ [lastR q ++ [p]]
theorem lastR_snoc (q : List (List Pt)) (r : List Pt) : lastR (q ++ [r]) = r := by simp [lastR]
theorem addL_snoc (q : List (List Pt)) (r : List Pt) (p : Pt) : addL (q ++ [r]) p = q ++ [r ++ [p]] := by simp [addL, lastR]
theorem quest_snoc (q : List (List Pt)) (r : List Pt) : questD (q ++ [r]) = .lst (qDs q ++ [.lst (psDs r)]) := by
 unfold questD; rw [qDs_map, qDs_map, List.map_append]; rfl
theorem qDs_len (q : List (List Pt)) : (qDs q).length = q.length := by rw [qDs_map, List.length_map]
theorem psDs_len (q : List Pt) : (psDs q).length = q.length := by rw [psDs_map, List.length_map]
theorem psDs_snoc (r : List Pt) (p : Pt) : psDs (r ++ [p]) = psDs r ++ [ptD p] := by rw [psDs_map, psDs_map]; simp
theorem ixN_last (n : Nat) : ixN (n + 1) (-1) = some n := by
 unfold ixN
 rw [if_neg (by omega), if_pos (by omega)]
 congr 1
 omega
theorem up_last (q : List (List Pt)) (r : List Pt) (p : Pt) : TUp (ptD p) r.length [(true, -1)] (questD (q ++ [r])) (questD (addL (q ++ [r]) p)) := by
 rw [addL_snoc, quest_snoc, quest_snoc, psDs_snoc]
 have h := TUp.lst (e := ptD p) (n := r.length) (ds := qDs q ++ [.lst (psDs r)]) (j := -1) (k := (qDs q).length) (d := .lst (psDs r)) (d' := .lst (psDs r ++ [ptD p])) (p := []) (by rw [List.length_append, List.length_singleton]; exact ixN_last _) (by simp) (.here (psDs_len r))
 rw [List.set_append_right _ _ (Nat.le_refl _), Nat.sub_self] at h
 exact h
theorem up_bar (q : List (List Pt)) : TUp (.lst []) q.length [] (questD q) (questD (q ++ [[]])) := by
 rw [quest_snoc]
 unfold questD
 have h := TUp.here (e := .lst []) (n := q.length) (ds := qDs q) (qDs_len q)
 simpa [psDs] using h
theorem last_at (q : List (List Pt)) (r : List Pt) : atI (qDs q ++ [.lst (psDs r)]) (-1) = some (.lst (psDs r)) := by
 refine atI_of (k := (qDs q).length) ?_ (by simp)
 rw [List.length_append, List.length_singleton]
 exact ixN_last _
theorem row_empty (r : List Pt) : deq (.lst (psDs r)) (.lst []) = decide (r = []) := by
 cases r with
 | nil => simp [psDs, deq, deqs]
 | cons p r => simp [psDs, deq, deqs]
theorem opn_empty (os : List (List (List Pt))) : deq (.lst (os.map questD)) (.lst []) = decide (os = []) := by
 cases os with
 | nil => simp [deq, deqs]
 | cons p r => simp [deq, deqs]
theorem flat_single (c : Int) : (ptD (singleP c)).flat = true := by
 unfold singleP
 split
 · rfl
 · split
   · rfl
   · split
     · rfl
     · split <;> rfl
mutual
def kP : Pt -> List (List Nat)
 | .inn q => [40] :: (kQ q ++ [[41]])
 | .word w => [tP (.word w)]
 | .beg w => [tP (.beg w)]
 | .fin w => [tP (.fin w)]
 | .any => [tP .any]
 | .upto n => [tP (.upto n)]
def kR : List Pt -> List (List Nat)
 | [] => []
 | p :: ps => kP p ++ kR ps
def kQ : List (List Pt) -> List (List Nat)
 | [] => []
 | [ps] => kR ps
 | ps :: q :: r => kR ps ++ [124] :: kQ (q :: r)
end
theorem kR_flat : ∀ ps : List Pt, kR ps = ps.flatMap kP
 | [] => by simp [kR]
 | p :: ps => by simp [kR, kR_flat ps]
def isWC (t : List Nat) : Bool := !t.isEmpty && t.all sgB
def partT (t : List Nat) : Option Pt :=
 if isWC t then some (.word (mkS t))
 else if t = [63] then some .any
 else if t.length = 3 ∧ t.take 2 = [46, 46] ∧ 48 <= t.getD 2 0 ∧ t.getD 2 0 <= 57 then some (.upto (t.getD 2 0 - 48))
 else if t.getLast? = some 42 ∧ isWC t.dropLast = true then some (.beg (mkS t.dropLast))
 else if t.head? = some 42 ∧ isWC (t.drop 1) = true then some (.fin (mkS (t.drop 1)))
 else none
theorem isWC_w {w : Str} (h : wOk w) : isWC (cl w) = true := by
 obtain ⟨h1, h2, _⟩ := h
 unfold isWC
 rw [Bool.and_eq_true]
 refine ⟨?_, List.all_eq_true.mpr h2⟩
 cases hq : cl w with
 | nil => exact absurd hq h1
 | cons a r => rfl
theorem sg42 : sgB 42 = false := by decide +kernel
theorem sg63 : sgB 63 = false := by decide +kernel
theorem sg46 : sgB 46 = false := by decide +kernel
theorem partT_tP : ∀ {p : Pt} {k : Nat}, pW k p -> (∀ q, p ≠ .inn q) -> partT (tP p) = some p
 | .word w, _, h, _ => by
  unfold pW at h
  unfold tP partT
  rw [if_pos (isWC_w h), mkS_cl]
 | .beg w, _, h, _ => by
  unfold pW at h
  unfold tP partT
  obtain ⟨h1, h2, h3⟩ := h
  have n0 : isWC (cl w ++ [42]) = false := by
   unfold isWC
   rw [Bool.and_eq_false_iff]
   right
   simp [sg42]
  obtain ⟨a, r, hw⟩ : ∃ a r, cl w = a :: r := by
   cases hq : cl w with
   | nil => exact absurd hq h1
   | cons a r => exact ⟨a, r, rfl⟩
  have ha : sgB a = true := h2 a (by rw [hw]; simp)
  rw [if_neg (by rw [n0]; simp), if_neg, if_neg, if_pos]
  · rw [List.dropLast_concat, mkS_cl]
  · rw [List.dropLast_concat]
    exact ⟨by simp, isWC_w ⟨h1, h2, h3⟩⟩
  · rw [hw]
    rintro ⟨_, h5, _⟩
    have : a = 46 := by simp at h5; exact h5.1
    rw [this, sg46] at ha
    cases ha
  · rw [hw]
    intro z
    have : a = 63 := by simp at z
    rw [this, sg63] at ha
    cases ha
 | .fin w, _, h, _ => by
  unfold pW at h
  unfold tP partT
  obtain ⟨h1, h2, h3⟩ := h
  have n0 : isWC (42 :: cl w) = false := by
   unfold isWC
   rw [Bool.and_eq_false_iff]
   right
   simp [sg42]
  have nl : ¬((42 :: cl w).getLast? = some 42 ∧ isWC (42 :: cl w).dropLast = true) := by
   rintro ⟨hl, _⟩
   obtain ⟨a, b, _, hb, _, _⟩ := firm_word ⟨h1, h2, h3⟩
   have : (42 :: cl w).getLast? = some b := by rw [<- List.singleton_append, List.getLast?_append, hb]; rfl
   rw [this] at hl
   cases hl
   have := h2 42 (List.mem_of_getLast? hb)
   rw [sg42] at this
   cases this
  rw [if_neg (by rw [n0]; simp), if_neg (by simp), if_neg (by simp), if_neg nl, if_pos ⟨rfl, isWC_w ⟨h1, h2, h3⟩⟩]
  simp [mkS_cl]
 | .any, _, _, _ => by unfold tP partT; rw [if_neg (by decide +kernel), if_pos rfl]
 | .upto n, _, h, _ => by
  unfold pW at h
  unfold tP
  have : n = 0 ∨ n = 1 ∨ n = 2 ∨ n = 3 ∨ n = 4 ∨ n = 5 ∨ n = 6 ∨ n = 7 ∨ n = 8 ∨ n = 9 := by omega
  have n0 : isWC [46, 46, 48 + n] = false := by
   unfold isWC
   simp [sg46]
  unfold partT
  rw [if_neg (by rw [n0]; simp), if_neg (by simp), if_pos ⟨rfl, rfl, by simp, by simp; omega⟩]
  simp
 | .inn q, _, _, h => absurd rfl (h q)
def takeT (st : List (List (List Pt))) (t : List Nat) : List (List (List Pt)) :=
 if t = [40] then st ++ [[[]]]
 else if t = [124] then st.dropLast ++ [st.getLastD [] ++ [[]]]
 else if t = [41] then st.dropLast.dropLast ++ [addL (st.dropLast.getLastD []) (.inn (st.getLastD []))]
 else st.dropLast ++ [addL (st.getLastD []) ((partT t).getD .any)]
def readT (st : List (List (List Pt))) (ts : List (List Nat)) : List (List (List Pt)) := ts.foldl takeT st
theorem readT_app (st : List (List (List Pt))) (a b : List (List Nat)) : readT st (a ++ b) = readT (readT st a) b := by simp [readT]
theorem part_none {c : Nat} (h : c = 40 ∨ c = 124 ∨ c = 41) : partT [c] = none := by
 unfold partT
 rcases h with rfl | rfl | rfl <;> rw [if_neg (by decide +kernel), if_neg (by decide), if_neg (by decide), if_neg (by decide +kernel), if_neg (by decide +kernel)]
theorem tP_marks {p : Pt} {k : Nat} (h : pW k p) (n : ∀ q, p ≠ .inn q) : tP p ≠ [40] ∧ tP p ≠ [124] ∧ tP p ≠ [41] := by
 have e := partT_tP h n
 refine ⟨fun z => ?_, fun z => ?_, fun z => ?_⟩
 · rw [z, part_none (.inl rfl)] at e; cases e
 · rw [z, part_none (.inr (.inl rfl))] at e; cases e
 · rw [z, part_none (.inr (.inr rfl))] at e; cases e
theorem take_one {p : Pt} {k : Nat} (h : pW k p) (n : ∀ q, p ≠ .inn q) (s : List (List (List Pt))) (q : List (List Pt)) : takeT (s ++ [q]) (tP p) = s ++ [addL q p] := by
 obtain ⟨n1, n2, n3⟩ := tP_marks h n
 unfold takeT
 rw [if_neg n1, if_neg n2, if_neg n3, partT_tP h n]
 simp
mutual
theorem read_P : ∀ (p : Pt) {k : Nat}, pW k p -> ∀ (s : List (List (List Pt))) (q : List (List Pt)), q ≠ [] -> readT (s ++ [q]) (kP p) = s ++ [addL q p]
 | .word w, k, h, s, q, _ => by unfold kP; exact take_one h (by intro q z; cases z) s q
 | .beg w, k, h, s, q, _ => by unfold kP; exact take_one h (by intro q z; cases z) s q
 | .fin w, k, h, s, q, _ => by unfold kP; exact take_one h (by intro q z; cases z) s q
 | .any, k, h, s, q, _ => by unfold kP; exact take_one h (by intro q z; cases z) s q
 | .upto n, k, h, s, q, _ => by unfold kP; exact take_one h (by intro q z; cases z) s q
 | .inn q', k, h, s, q, hq => by
  unfold pW at h
  obtain ⟨j, _, hn, hw⟩ := h
  unfold kP
  rw [show ([40] :: (kQ q' ++ [[41]])) = [[40]] ++ (kQ q' ++ [[41]]) from rfl, readT_app, readT_app]
  have e1 : readT (s ++ [q]) [[40]] = (s ++ [q]) ++ [[] ++ [[]]] := by simp [readT, takeT]
  rw [e1, read_Q q' hw hn (s ++ [q]) [] ]
  simp [readT, takeT]
theorem read_R : ∀ (ps : List Pt) {k : Nat}, rWs k ps -> ∀ (s : List (List (List Pt))) (q0 : List (List Pt)) (r : List Pt), readT (s ++ [q0 ++ [r]]) (kR ps) = s ++ [q0 ++ [r ++ ps]]
 | [], k, _, s, q0, r => by simp [kR, readT]
 | p :: ps, k, h, s, q0, r => by
  unfold rWs at h
  unfold kR
  rw [readT_app, read_P p h.1 s (q0 ++ [r]) (by simp), addL_snoc, read_R ps h.2 s q0 (r ++ [p])]
  simp
theorem read_Q : ∀ (q : List (List Pt)) {k : Nat}, qWs k q -> q ≠ [] -> ∀ (s : List (List (List Pt))) (q0 : List (List Pt)), readT (s ++ [q0 ++ [[]]]) (kQ q) = s ++ [q0 ++ q]
 | [], k, _, hn, s, q0 => absurd rfl hn
 | [ps], k, h, _, s, q0 => by
  unfold qWs at h
  unfold kQ
  rw [read_R ps h.1.2 s q0 []]
  simp
 | ps :: q :: r, k, h, _, s, q0 => by
  unfold qWs at h
  unfold kQ
  rw [readT_app, read_R ps h.1.2 s q0 []]
  rw [show ([124] :: kQ (q :: r)) = [[124]] ++ kQ (q :: r) from rfl, readT_app]
  have e1 : readT (s ++ [q0 ++ [[] ++ ps]]) [[124]] = s ++ [(q0 ++ [ps]) ++ [[]]] := by simp [readT, takeT]
  rw [e1, read_Q (q :: r) h.2 (by simp) s (q0 ++ [ps])]
  simp
end
def stD (st : List (List (List Pt))) : D := .lst (st.map questD)
def Can (st : List (List (List Pt))) (t : List Nat) : Prop :=
 (t = [40] ∧ st.length <= 20) ∨ (t = [124] ∧ lastR (st.getLastD []) ≠ []) ∨ (t = [41] ∧ lastR (st.getLastD []) ≠ [] ∧ 2 <= st.length) ∨ (∃ p k, t = tP p ∧ pW k p ∧ ∀ q, p ≠ .inn q)
def Good : List (List (List Pt)) -> List (List Nat) -> Prop
 | _, [] => True
 | st, t :: ts => Can st t ∧ Good (takeT st t) ts
theorem good_app : ∀ {a b : List (List Nat)} {st : List (List (List Pt))}, Good st (a ++ b) ↔ Good st a ∧ Good (readT st a) b
 | [], b, st => by simp [Good, readT]
 | t :: a, b, st => by
  have ih := good_app (a := a) (b := b) (st := takeT st t)
  show Can st t ∧ Good (takeT st t) (a ++ b) ↔ (Can st t ∧ Good (takeT st t) a) ∧ Good (readT (takeT st t) a) b
  rw [ih, and_assoc]
theorem good_at : ∀ {ts : List (List Nat)} {st : List (List (List Pt))} {n : Nat} {t : List Nat}, Good st ts -> ts[n]? = some t -> Can (readT st (ts.take n)) t
 | [], _, _, _, _, h => by simp at h
 | x :: ts, st, 0, t, g, h => by simp at h; subst h; unfold Good at g; simpa [readT] using g.1
 | x :: ts, st, n + 1, t, g, h => by
  unfold Good at g
  have := good_at (n := n) g.2 (by simpa using h)
  simpa [readT] using this
theorem good_one {p : Pt} {k : Nat} (h : pW k p) (n : ∀ q, p ≠ .inn q) (st : List (List (List Pt))) : Good st [tP p] := ⟨.inr (.inr (.inr ⟨p, k, rfl, h, n⟩)), trivial⟩
mutual
theorem good_P : ∀ (p : Pt) {k : Nat}, pW k p -> ∀ (s : List (List (List Pt))) (q : List (List Pt)), q ≠ [] -> s.length + k <= 20 -> Good (s ++ [q]) (kP p)
 | .word w, k, h, s, q, _, _ => by unfold kP; exact good_one h (by intro q z; cases z) _
 | .beg w, k, h, s, q, _, _ => by unfold kP; exact good_one h (by intro q z; cases z) _
 | .fin w, k, h, s, q, _, _ => by unfold kP; exact good_one h (by intro q z; cases z) _
 | .any, k, h, s, q, _, _ => by unfold kP; exact good_one h (by intro q z; cases z) _
 | .upto n, k, h, s, q, _, _ => by unfold kP; exact good_one h (by intro q z; cases z) _
 | .inn q', k, h, s, q, hq, hs => by
  unfold pW at h
  obtain ⟨j, hj, hn, hw⟩ := h
  unfold kP
  rw [show ([40] :: (kQ q' ++ [[41]])) = [[40]] ++ (kQ q' ++ [[41]]) from rfl, good_app, good_app]
  have e1 : readT (s ++ [q]) [[40]] = (s ++ [q]) ++ [[] ++ [[]]] := by simp [readT, takeT]
  rw [e1, read_Q q' hw hn (s ++ [q]) []]
  refine ⟨⟨.inl ⟨rfl, by simp; omega⟩, trivial⟩, good_Q q' hw hn (s ++ [q]) [] (by simp; omega), ⟨.inr (.inr (.inl ⟨rfl, ?_, by simp⟩)), trivial⟩⟩
  have hl : lastR q' ≠ [] := by
   obtain ⟨q0, r, rfl⟩ : ∃ q0 r, q' = q0 ++ [r] := ⟨_, _, (List.dropLast_concat_getLast hn).symm⟩
   rw [lastR_snoc]
   exact (qWs_mem.mp hw r (by simp)).1
  simpa using hl
theorem good_R : ∀ (ps : List Pt) {k : Nat}, rWs k ps -> ∀ (s : List (List (List Pt))) (q0 : List (List Pt)) (r : List Pt), s.length + k <= 20 -> Good (s ++ [q0 ++ [r]]) (kR ps)
 | [], k, _, s, q0, r, _ => by unfold kR; trivial
 | p :: ps, k, h, s, q0, r, hs => by
  unfold rWs at h
  unfold kR
  rw [good_app, read_P p h.1 s (q0 ++ [r]) (by simp), addL_snoc]
  exact ⟨good_P p h.1 s (q0 ++ [r]) (by simp) hs, good_R ps h.2 s q0 (r ++ [p]) hs⟩
theorem good_Q : ∀ (q : List (List Pt)) {k : Nat}, qWs k q -> q ≠ [] -> ∀ (s : List (List (List Pt))) (q0 : List (List Pt)), s.length + k <= 20 -> Good (s ++ [q0 ++ [[]]]) (kQ q)
 | [], k, _, hn, s, q0, _ => absurd rfl hn
 | [ps], k, h, _, s, q0, hs => by
  unfold qWs at h
  unfold kQ
  exact good_R ps h.1.2 s q0 [] hs
 | ps :: q :: r, k, h, _, s, q0, hs => by
  unfold qWs at h
  unfold kQ
  rw [good_app, read_R ps h.1.2 s q0 []]
  refine ⟨good_R ps h.1.2 s q0 [] hs, ?_⟩
  rw [show ([124] :: kQ (q :: r)) = [[124]] ++ kQ (q :: r) from rfl, good_app]
  have e1 : readT (s ++ [q0 ++ [[] ++ ps]]) [[124]] = s ++ [(q0 ++ [ps]) ++ [[]]] := by simp [readT, takeT]
  rw [e1]
  refine ⟨⟨.inr (.inl ⟨rfl, ?_⟩), trivial⟩, good_Q (q :: r) h.2 (by simp) s (q0 ++ [ps]) hs⟩
  have : lastR (q0 ++ [ps]) ≠ [] := by rw [lastR_snoc]; exact h.1.1
  simpa using this
end
structure Shp (n : Nat) (st : List (List (List Pt))) : Prop where
 ne : st ≠ []
 rows : ∀ q ∈ st, q ≠ []
 len : st.length <= n + 1
 ql : ∀ q ∈ st, q.length <= n + 1
 rl : ∀ q ∈ st, ∀ r ∈ q, r.length <= n
theorem shp0 : Shp 0 [[[]]] := ⟨by simp, by simp, by simp, by simp, by simp⟩
theorem shp_add {n : Nat} {q : List (List Pt)} {p : Pt} (h0 : q ≠ []) (h1 : q.length <= n + 1) (h2 : ∀ r ∈ q, r.length <= n) : addL q p ≠ [] ∧ (addL q p).length <= n + 1 + 1 ∧ ∀ r ∈ addL q p, r.length <= n + 1 := by
 obtain ⟨q0, r0, rfl⟩ : ∃ q0 r, q = q0 ++ [r] := ⟨_, _, (List.dropLast_concat_getLast h0).symm⟩
 rw [addL_snoc]
 refine ⟨by simp, by simp at h1 ⊢; omega, fun r hr => ?_⟩
 rcases List.mem_append.mp hr with hr | hr
 · exact Nat.le_succ_of_le (h2 r (by simp [hr]))
 · simp at hr; subst hr
   have := h2 r0 (by simp)
   simp; omega
theorem shp_step {n : Nat} {st : List (List (List Pt))} {t : List Nat} (h : Shp n st) (c : Can st t) : Shp (n + 1) (takeT st t) := by
 obtain ⟨s, q, rfl⟩ : ∃ s q, st = s ++ [q] := ⟨_, _, (List.dropLast_concat_getLast h.ne).symm⟩
 have put : ∀ (q' : List (List Pt)), q' ≠ [] -> q'.length <= n + 1 + 1 -> (∀ r ∈ q', r.length <= n + 1) -> Shp (n + 1) (s ++ [q']) := fun q' a1 a2 a3 => by
  have hl := h.len
  refine ⟨by simp, fun x hx => ?_, by simp at hl ⊢; omega, fun x hx => ?_, fun x hx r hr => ?_⟩
  · rcases List.mem_append.mp hx with hx | hx
    · exact h.rows x (by simp [hx])
    · simp at hx; subst hx; exact a1
  · rcases List.mem_append.mp hx with hx | hx
    · exact Nat.le_succ_of_le (h.ql x (by simp [hx]))
    · simp at hx; subst hx; exact a2
  · rcases List.mem_append.mp hx with hx | hx
    · exact Nat.le_succ_of_le (h.rl x (by simp [hx]) r hr)
    · simp at hx; subst hx; exact a3 r hr
 have hq0 := h.rows q (by simp)
 have hq1 := h.ql q (by simp)
 have hq2 := h.rl q (by simp)
 rcases c with ⟨rfl, hc⟩ | ⟨rfl, hc⟩ | ⟨rfl, hc, hc2⟩ | ⟨p, k, rfl, hp, hn⟩
 · have hl := h.len
   have e : takeT (s ++ [q]) [40] = (s ++ [q]) ++ [[[]]] := by simp [takeT]
   rw [e]
   refine ⟨by simp, fun x hx => ?_, by simp at hl ⊢; omega, fun x hx => ?_, fun x hx r hr => ?_⟩
   · rcases List.mem_append.mp hx with hx | hx
     · exact h.rows x hx
     · simp at hx; subst hx; simp
   · rcases List.mem_append.mp hx with hx | hx
     · exact Nat.le_succ_of_le (h.ql x hx)
     · simp at hx; subst hx; simp
   · rcases List.mem_append.mp hx with hx | hx
     · exact Nat.le_succ_of_le (h.rl x hx r hr)
     · simp at hx; subst hx; simp at hr; subst hr; simp
 · have e : takeT (s ++ [q]) [124] = s ++ [q ++ [[]]] := by simp [takeT]
   rw [e]
   refine put _ (by simp) (by simp; omega) fun r hr => ?_
   rcases List.mem_append.mp hr with hr | hr
   · exact Nat.le_succ_of_le (hq2 r hr)
   · simp at hr; subst hr; simp
 · have hs : s ≠ [] := fun z => by rw [z] at hc2; simp at hc2
   obtain ⟨s', o, rfl⟩ : ∃ s' o, s = s' ++ [o] := ⟨_, _, (List.dropLast_concat_getLast hs).symm⟩
   have e : takeT (s' ++ [o] ++ [q]) [41] = s' ++ [addL o (.inn q)] := by simp [takeT]
   rw [e]
   obtain ⟨a1, a2, a3⟩ := shp_add (p := .inn q) (h.rows o (by simp)) (h.ql o (by simp)) (h.rl o (by simp))
   have hl := h.len
   refine ⟨by simp, fun x hx => ?_, by simp at hl ⊢; omega, fun x hx => ?_, fun x hx r hr => ?_⟩
   · rcases List.mem_append.mp hx with hx | hx
     · exact h.rows x (by simp [hx])
     · simp at hx; subst hx; exact a1
   · rcases List.mem_append.mp hx with hx | hx
     · exact Nat.le_succ_of_le (h.ql x (by simp [hx]))
     · simp at hx; subst hx; exact a2
   · rcases List.mem_append.mp hx with hx | hx
     · exact Nat.le_succ_of_le (h.rl x (by simp [hx]) r hr)
     · simp at hx; subst hx; exact a3 r hr
 · rw [take_one hp hn s q]
   obtain ⟨a1, a2, a3⟩ := shp_add (p := p) hq0 hq1 hq2
   exact put _ a1 a2 a3
theorem shp_run : ∀ {ts : List (List Nat)} {st : List (List (List Pt))} {n : Nat}, Shp n st -> Good st ts -> Shp (n + ts.length) (readT st ts)
 | [], st, n, h, _ => by simpa [readT] using h
 | t :: ts, st, n, h, g => by
  unfold Good at g
  have := shp_run (shp_step h g.1) g.2
  rw [List.length_cons, show n + (ts.length + 1) = n + 1 + ts.length by omega]
  simpa [readT] using this
theorem good_take {ts : List (List Nat)} {st : List (List (List Pt))} (n : Nat) (g : Good st ts) : Good st (ts.take n) := by
 have e := List.take_append_drop n ts
 rw [<- e] at g
 exact (good_app.mp g).1
theorem stD_snoc (s : List (List (List Pt))) (q : List (List Pt)) : stD (s ++ [q]) = .lst (s.map questD ++ [questD q]) := by unfold stD; rw [List.map_append]; rfl
theorem up_in {e : D} {n : Nat} {p : List (Bool × Int)} {q q' : List (List Pt)} (s : List (List (List Pt))) (u : TUp e n p (questD q) (questD q')) : TUp e n ((true, -1) :: p) (stD (s ++ [q])) (stD (s ++ [q'])) := by
 rw [stD_snoc, stD_snoc]
 have h := TUp.lst (e := e) (n := n) (ds := s.map questD ++ [questD q]) (j := -1) (k := (s.map questD).length) (d := questD q) (d' := questD q') (p := p) (by rw [List.length_append, List.length_singleton]; exact ixN_last _) (by simp) u
 rw [List.set_append_right _ _ (Nat.le_refl _), Nat.sub_self] at h
 exact h
theorem st_last (s : List (List (List Pt))) (q : List (List Pt)) : atI (s.map questD ++ [questD q]) (-1) = some (questD q) := by
 refine atI_of (k := (s.map questD).length) ?_ (by simp)
 rw [List.length_append, List.length_singleton]
 exact ixN_last _
def gMust (ds : List D) (d : D) : Prop := ∃ (s : List (List (List Pt))) (q0 : List (List Pt)) (r : List Pt) (k : Nat), k <= 40 ∧ psOk r k ∧ ds = [stD (s ++ [q0 ++ [r]])] ∧ d = .bl (decide (r = []))
def gBrk (ds : List D) (d : D) : Prop := ∃ st : List (List (List Pt)), ds = [stD st] ∧ d = .int ((st.length : Int) - 1)
def gPartOf (ds : List D) (d : D) : Prop := ∃ (p : Pt) (k : Nat), pW k p ∧ (∀ q, p ≠ .inn q) ∧ ds = [.str (mkS (tP p))] ∧ d = ptD p
theorem qOk_iff : ∀ {q : List (List Pt)} {k : Nat}, qOk q k ↔ ∀ ps ∈ q, psOk ps k
 | [], k => by simp [qOk]
 | ps :: q, k => by unfold qOk; rw [qOk_iff (q := q)]; simp
theorem psOk_iff : ∀ {q : List Pt} {k : Nat}, psOk q k ↔ ∀ p ∈ q, ptOk p k
 | [], k => by simp [psOk]
 | p :: q, k => by unfold psOk; rw [psOk_iff (q := q)]; simp
theorem qOk_add {q : List (List Pt)} {p : Pt} {k : Nat} (h0 : q ≠ []) (h : qOk q k) (hp : ptOk p k) : qOk (addL q p) k := by
 obtain ⟨q0, r0, rfl⟩ : ∃ q0 r, q = q0 ++ [r] := ⟨_, _, (List.dropLast_concat_getLast h0).symm⟩
 rw [addL_snoc]
 rw [qOk_iff] at h ⊢
 intro ps hps
 rcases List.mem_append.mp hps with hps | hps
 · exact h ps (by simp [hps])
 · simp at hps; subst hps
   have := h r0 (by simp)
   rw [psOk_iff] at this ⊢
   intro x hx
   rcases List.mem_append.mp hx with hx | hx
   · exact this x hx
   · simp at hx; subst hx; exact hp
theorem ptOk_any {p : Pt} {k : Nat} (h : pW k p) (n : ∀ q, p ≠ .inn q) (l : Nat) : ptOk p l := by
 cases p with
 | inn q => exact absurd rfl (n q)
 | upto m => unfold pW at h; unfold ptOk; omega
 | _ => unfold ptOk; trivial
structure Lv (st : List (List (List Pt))) : Prop where
 len : st.length <= 21
 lv : ∀ i q, st[i]? = some q -> qOk q (20 - i)
theorem lv0 : Lv [[[]]] := ⟨by simp, fun i q e => by
 cases i with
 | zero => simp at e; subst e; simp [qOk, psOk]
 | succ i => simp at e⟩
theorem lv_put {s : List (List (List Pt))} {q q' : List (List Pt)} (h : Lv (s ++ [q])) (hq : qOk q' (20 - s.length)) : Lv (s ++ [q']) := by
 refine ⟨by have := h.len; simpa using this, fun i x e => ?_⟩
 by_cases hi : i < s.length
 · rw [List.getElem?_append_left hi] at e
   exact h.lv i x (by rw [List.getElem?_append_left hi]; exact e)
 · rw [List.getElem?_append_right (by omega)] at e
   cases hz : i - s.length with
   | zero => rw [hz] at e; simp at e; subst e; rw [show i = s.length by omega]; exact hq
   | succ k => rw [hz] at e; simp at e
theorem lv_step {n : Nat} {st : List (List (List Pt))} {t : List Nat} (h : Shp n st) (v : Lv st) (c : Can st t) : Lv (takeT st t) := by
 obtain ⟨s, q, rfl⟩ : ∃ s q, st = s ++ [q] := ⟨_, _, (List.dropLast_concat_getLast h.ne).symm⟩
 have hq := v.lv s.length q (by simp)
 have hlen := v.len
 rw [List.length_append, List.length_singleton] at hlen
 rcases c with ⟨rfl, hc⟩ | ⟨rfl, hc⟩ | ⟨rfl, hc, hc2⟩ | ⟨p, k, rfl, hp, hn⟩
 · have e : takeT (s ++ [q]) [40] = (s ++ [q]) ++ [[[]]] := by simp [takeT]
   rw [e]
   refine ⟨by simp at hc ⊢; omega, fun i x e => ?_⟩
   by_cases hi : i < (s ++ [q]).length
   · rw [List.getElem?_append_left hi] at e
     exact v.lv i x e
   · rw [List.getElem?_append_right (by omega)] at e
     cases hz : i - (s ++ [q]).length with
     | zero => rw [hz] at e; simp at e; subst e; simp [qOk, psOk]
     | succ k => rw [hz] at e; simp at e
 · have e : takeT (s ++ [q]) [124] = s ++ [q ++ [[]]] := by simp [takeT]
   rw [e]
   refine lv_put v ?_
   rw [qOk_iff] at hq ⊢
   intro ps hps
   rcases List.mem_append.mp hps with hps | hps
   · exact hq ps hps
   · simp at hps; subst hps; unfold psOk; trivial
 · have hs : s ≠ [] := fun z => by rw [z] at hc2; simp at hc2
   obtain ⟨s', o, rfl⟩ : ∃ s' o, s = s' ++ [o] := ⟨_, _, (List.dropLast_concat_getLast hs).symm⟩
   have e : takeT (s' ++ [o] ++ [q]) [41] = s' ++ [addL o (.inn q)] := by simp [takeT]
   rw [e]
   rw [List.length_append, List.length_singleton] at hlen hq
   have ho := v.lv s'.length o (by simp)
   have v' : Lv (s' ++ [o]) := ⟨by simp; omega, fun i x e => v.lv i x (by rw [List.getElem?_append_left (List.getElem?_eq_some_iff.mp e).1]; exact e)⟩
   refine lv_put v' (qOk_add (h.rows o (by simp)) ho ?_)
   unfold ptOk
   exact ⟨20 - (s'.length + 1), by omega, hq⟩
 · rw [take_one hp hn s q]
   exact lv_put v (qOk_add (h.rows q (by simp)) hq (ptOk_any hp hn _))
theorem lv_run : ∀ {ts : List (List Nat)} {st : List (List (List Pt))} {n : Nat}, Shp n st -> Lv st -> Good st ts -> Lv (readT st ts)
 | [], st, n, _, v, _ => by simpa [readT] using v
 | t :: ts, st, n, h, v, g => by
  unfold Good at g
  have := lv_run (shp_step h g.1) (lv_step h v g.1) g.2
  simpa [readT] using this
def gCan (ds : List D) (d : D) : Prop := ∃ (n : Nat) (st : List (List (List Pt))) (t : List Nat), Shp n st ∧ Lv st ∧ Can st t ∧ ds = [.str (mkS t), stD st] ∧ d = .bl true
def tokS (z : Str) : List Str := (Txt.split (Txt.lower z) " ").filter fun x => !decide (x = "")
def gTok (ds : List D) (d : D) : Prop := ∃ z : Str, z.length <= 100000 ∧ (∀ c ∈ cl z, c < 128) ∧ ds = [.str z] ∧ d = strsD (tokS z)
def gRead (ds : List D) (d : D) : Prop := ∃ (z : Str) (q : List (List Pt)), z.length <= 100000 ∧ (∀ c ∈ cl z, c < 128) ∧ qW 20 q ∧ tokS z = (kQ q).map mkS ∧ (kQ q).length <= 90000 ∧ ds = [.str z] ∧ d = questD q
section
variable {X : Cx} {ρ : List (Option D)} {m1 m2 : Bool} {a b : Expr} {pos : Pos}
theorem e_notN {ds : List D} (ha : E X m1 ρ a (.tup ds)) (hb : E X m2 ρ b .non) (hm : behindInMarks .IsNot b = false := by rfl) : E X true ρ (.Compare a [.IsNot] [b] pos) (.bl true) :=
 e_cmp op_notN ha hb (fun x y H Z Q _ i1 i2 k => ⟨in_non.mp i2, by
  obtain ⟨p, xs, rfl, _⟩ := in_tup.mp i1
  exact k _ _ (Same.refl H) (in_bl.mpr rfl)⟩) hm
end
theorem ptD_tup (p : Pt) : ∃ ds, ptD p = .tup ds := by cases p <;> exact ⟨_, by unfold ptD; rfl⟩
theorem wp_rng {M : Model} {A : Around} {E : Value -> Shared -> Prop} {s : Shared} {β : Type} (f : Nat -> β -> Sem (ForInStep β)) (I : List Nat -> β -> Shared -> Prop) (Q : β -> Shared -> Prop)
 (turn : ∀ x rest b s, I (x :: rest) b s -> wpAny M A (f x b) (fun r s' => match r with | .yield b' => I rest b' s' | .done b' => Q b' s') E s)
 (fin : ∀ b s, I [] b s -> Q b s) (r : Std.Legacy.Range) (b : β) (h : I (List.range' r.start r.size r.step) b s) : wpAny M A (forIn r b f) Q E s := by
 rw [Std.Legacy.Range.forIn_eq_forIn_range']
 exact wpAny_forIn_list f I Q turn fin _ b h
theorem tindex (l : Addr) (items : Array Value) (n : Nat) (dd : Option Addr) (sl : Array (Option Value)) (x : Str) (tx : Tok) (ys : List Str) (hy : ∀ (i : Nat) (y : Value), items[i]? = some y -> ∃ (z : Str) (t : Tok), ys[i]? = some z ∧ y = Value.str z t) (j : Nat) (hj : ys[j]? = some x) (hs : ys.length = items.size) (hn : ∀ i : Nat, i < j -> ys[i]? ≠ some x) :
 Meets (Builtin.«tuple.index» ⟨[.ref l, .str x tx], []⟩) (fun _ R s => s.heap.get? l = some { cls := .type "tuple", dict := dd, data := .seq items n, slots := sl } ∧ R (.ok (.ret (.int j s.toks))) { s with toks := s.toks + 1 }) := by
 have hjl : j < items.size := by rw [<- hs]; exact (List.getElem?_eq_some_iff.mp hj).1
 intro prog w A R s h
 obtain ⟨hp, g, d, tk, os⟩ := s
 obtain ⟨hl, h⟩ := h
 wp_walk using wpAny_loadPart' hl, wp_rng _ (fun rest b s' => b.1 = none ∧ s' = ⟨hp, g, d, tk, os⟩ ∧ ∃ i, rest = List.range' i (items.size - i) ∧ i <= j) _
 case turn =>
  rintro i rest b s' ⟨hb, rfl, i0, hi, hle⟩
  have hlt : i0 < items.size := by omega
  rw [show items.size - i0 = (items.size - i0 - 1) + 1 by omega, List.range'_succ] at hi
  injection hi with e1 e2
  subst e1
  have hget : items[i]? = some items[i] := by simp [hlt]
  obtain ⟨z, t, hz, hv⟩ := hy i _ hget
  rw [hget, hv]
  dsimp only
  refine wpAny_bind (wpAny_eqBool_str ?_)
  by_cases q : z = x
  · have hij : i = j := by
     by_cases c : i < j
     · exact absurd (by rw [hz, q]) (hn i c)
     · omega
    subst hij
    rw [decide_eq_true q]
    wp_walk
    exact h
  · have hij : i ≠ j := fun c => by rw [c, hj] at hz; exact q (Option.some.inj hz).symm
    rw [decide_eq_false q]
    wp_walk
    exact ⟨rfl, rfl, i + 1, by rw [e2, Nat.sub_sub], by omega⟩
 case fin =>
  rintro b s' ⟨hb, rfl, i0, hi, hle⟩
  exfalso
  rw [show items.size - i0 = (items.size - i0 - 1) + 1 by omega, List.range'_succ] at hi
  cases hi
 case h =>
  exact ⟨rfl, rfl, 0, by simp [Std.Legacy.Range.size], Nat.zero_le _⟩
section
variable {X : Cx} {ρ : List (Option D)} {m1 m2 : Bool} {o a b : Expr} {pos ap cp : Pos} {ks : List Key}
theorem e_gtup {x : Str} {l : Addr} (hm : X.mg x = some (.ref l)) (hK : KTup X.K l ks) (hg : Gl X x := by rfl) (hd : (x == ("__debug__" : Str)) = false := by decide) : E X true ρ (.Name x pos) (.ktup ks) :=
 PE.mono (pe_glob (v := .ref l) hg hm rfl hd) fun σ H Q z0 => el13 z0 fun Z oz en k => k _ _ (Same.refl H) (in_ktup.mpr ⟨l, rfl, hK⟩)
theorem in_strs (x : Str) : ∀ zs : List Str, inV (.str x) ((zs.map fun z => (Sum.inr z : Key)).map kV) = decide (x ∈ zs)
 | [] => by simp [inV]
 | z :: zs => by
  have ih := in_strs x zs
  unfold inV at ih ⊢
  rw [List.map_cons, List.map_cons, List.any_cons, ih]
  have : eqV (kV (Sum.inr z)) (.str x) = decide (x = z) := by
   show (z == x) = _
   by_cases h : x = z
   · subst h; simp
   · simp [h]
     exact fun e => h e.symm
  rw [this]
  simp
theorem t_inKT {x : Str} {zs : List Str} (ha : E X m1 ρ a (.str x)) (hb : E X m2 ρ b (.ktup (zs.map fun z => (Sum.inr z : Key)))) (hm : behindInMarks .In b = false := by rfl) : T X ρ (.Compare a [.In] [b] pos) (decide (x ∈ zs)) :=
 t_cmp op_in_seq ha hb (fun x' y H Z Q _ i1 i2 k => by
  obtain ⟨l, rfl, t⟩ := in_ktup.mp i2
  cases in_str.mp i1
  refine ⟨l, _, rfl, .inr t.sq, rfl, ?_, ?_⟩
  · simp [flatV, kV]
  · simp only [Bool.false_eq_true, if_false]
    rw [in_strs]
    exact k _ (Same.refl H)) hm
theorem mt_tindex : MtR X "tuple.index" (fun x xs H Q => ∃ (l : Addr) (zs : List Str) (y : Str) (j : Nat), x = .ref l ∧ xs = [.str y] ∧ KTup X.K l (zs.map fun z => (Sum.inr z : Key)) ∧ zs[j]? = some y ∧ (∀ i : Nat, i < j -> zs[i]? ≠ some y) ∧ Q (.int (j : Nat)) H) := by
 intro pins s σ H x xs v us Q I rx rs h
 obtain ⟨l, zs, y, j, rfl, rfl, hK, hj, hn, q⟩ := h
 cases rx
 obtain ⟨u, rfl, ru⟩ := Vals.one rs
 obtain ⟨t', rfl⟩ := ru
 obtain ⟨o, its, n, lk, hc, hd, hz, hv⟩ := hK
 have e := I.kIn l o lk
 obtain ⟨oc, od, dat, sl⟩ := o
 dsimp only at hc hd
 subst hc hd
 have hs : zs.length = its.size := by have := hv.length; simpa using this
 refine call_meets F.slot_tuple_index ⟨_, e, rfl⟩ F.entry_tuple_index (F.args_tuple_index_2 _ _) (tindex l its n od sl y t' zs (fun i w hw => ?_) j hj hs hn) ⟨e, ?_⟩
 · have hi : i < zs.length := by rw [hs]; exact (Array.getElem?_eq_some_iff.mp hw).1
   obtain ⟨u, hu, ru⟩ := hv.get (i := i) (x := .str zs[i]) (by simp [hi, kV])
   rw [Array.getElem?_toList, hw] at hu
   cases hu
   obtain ⟨t, rfl⟩ := ru
   exact ⟨zs[i], t, by simp [hi], rfl⟩
 · exact ⟨.int (j : Nat), H, I.tok _, ⟨_, rfl⟩, q⟩
theorem e_tindex {x : Str} {l : Addr} {zs : List Str} {y : Str} {j : Nat} {p : Pos} (hm : X.mg x = some (.ref l)) (hK : KTup X.K l (zs.map fun z => (Sum.inr z : Key))) (hD : ∃ o, X.K.lookup l = some o ∧ o.cls = .type "tuple" ∧ o.dict = none) (ha : E X m2 ρ a (.str y)) (hj : zs[j]? = some y) (hn : ∀ i : Nat, i < j -> zs[i]? ≠ some y)
 (hg : Gl X x := by rfl) (hd : (x == ("__debug__" : Str)) = false := by decide) (hbase : attributeBase (.Name x p) "index" X.env (eval (.Name x p) X.env) = eval (.Name x p) X.env := by rfl) (hline : (ap.endLine == cp.line) = true := by rfl) (hs : starEach [a] X.env = [(false, eval a X.env)] := by rfl) : E X true ρ (.Call (.Attribute (.Name x p) "index" ap) [a] [] cp) (.int (j : Nat)) :=
 PE.mono (pe_bm F.plainAttrs_tuple F.slot_tuple_index F.type_tuple_index mt_tindex (pe_glob (v := .ref l) hg hm rfl hd) (pa_cons ha pa_nil (by rw [hs]; rfl)) hbase (by rw [hs]; rfl) hline (by rw [hs]; rfl) rfl) fun σ H Q ⟨Z, oz, en, k⟩ =>
  ⟨.inr (.inl ⟨rfl, hD⟩), Z, oz, en, fun w H2 s2 i2 => by
   cases in_str.mp (i2.plain oz)
   exact ⟨l, zs, y, j, rfl, rfl, hK, hj, hn, k _ H2 s2 (in_int.mpr rfl)⟩⟩
end
theorem mkS_len (l : List Nat) : (mkS l).length = l.length := by rw [<- cl_len, cl_mkS]
theorem mkS_inj {a b : List Nat} : (mkS a : Str) = mkS b ↔ a = b := ⟨fun h => by have := congrArg cl h; rwa [cl_mkS, cl_mkS] at this, fun h => by rw [h]⟩
theorem slice_last (l : List Nat) (c : Nat) : Txt.slice (mkS (l ++ [c])) none (some (-1)) = mkS l := by
 have hl : (mkS (l ++ [c])).length = l.length + 1 := by rw [mkS_len]; simp
 have e : Txt.slice (mkS (l ++ [c])) none (some (-1)) = Txt.slice (mkS (l ++ [c])) none (some (-1 + ((mkS (l ++ [c])).length : Int))) := StrLaws.sliceText_neg_hi _ none (by decide) (by rw [hl]; omega)
 rw [e, hl]
 refine cl_inj ?_
 rw [cl_slice_to _ (by omega) (by rw [cl_mkS]; simp; omega), cl_mkS, cl_mkS, show (-1 + ((l.length + 1 : Nat) : Int)).toNat = l.length by omega]
 simp
theorem slice_tail (c : Nat) (l : List Nat) : Txt.slice (mkS (c :: l)) (some 1) none = mkS l := by
 refine cl_inj ?_
 rw [cl_slice_from _ (by decide) (by rw [cl_mkS]; simp; omega), cl_mkS, cl_mkS]
 rfl
theorem ends_star (l : List Nat) (c : Nat) : Txt.endswith (mkS (l ++ [c])) "*" = decide (c = 42) := by
 have hl : (mkS (l ++ [c])).length = l.length + 1 := by rw [mkS_len]; simp
 have e : Txt.slice (mkS (l ++ [c])) (some (((mkS (l ++ [c])).length : Int) - (("*" : Str).length : Int))) none = mkS [c] := by
  refine cl_inj ?_
  rw [hl, show (("*" : Str).length : Int) = 1 from rfl, cl_slice_from _ (by omega) (by rw [cl_mkS]; simp; omega), cl_mkS, cl_mkS, show (((l.length + 1 : Nat) : Int) - 1).toNat = l.length by omega]
  simp
 rw [ends_slice, e, hl, show (("*" : Str).length : Int) = 1 from rfl, decide_eq_true (show (1 : Int) <= ((l.length + 1 : Nat) : Int) by omega), Bool.true_and, show ("*" : Str) = mkS [42] from rfl]
 rw [decide_eq_decide, mkS_inj]
 simp
theorem starts_star (c : Nat) (l : List Nat) : Txt.startswith (mkS (c :: l)) "*" = decide (c = 42) := by
 have e : Txt.slice (mkS (c :: l)) none (some (("*" : Str).length : Int)) = mkS [c] := by
  refine cl_inj ?_
  rw [show (("*" : Str).length : Int) = 1 from rfl, cl_slice_to _ (by decide) (by rw [cl_mkS]; simp; omega), cl_mkS, cl_mkS]
  rfl
 rw [starts_slice, e, show ("*" : Str) = mkS [42] from rfl, decide_eq_decide, mkS_inj]
 simp
theorem isWB_mk (t : List Nat) : isWB (mkS t) = isWC t := by
 unfold isWB isWC
 rw [cl_mkS]
 have e : (!decide ((mkS t : Str) = "")) = !t.isEmpty := by
  cases t with
  | nil => rfl
  | cons a r =>
   have : (mkS (a :: r) : Str) ≠ "" := fun z => by have := congrArg cl z; rw [cl_mkS] at this; cases this
   simp [this]
 rw [e]
 congr 1
 rw [List.all_map]
 rfl
def uptos : List Str := ["..0", "..1", "..2", "..3", "..4", "..5", "..6", "..7", "..8", "..9"]
theorem upto_at {n : Nat} (h : n < 10) : uptos[n]? = some (mkS [46, 46, 48 + n]) ∧ ∀ i : Nat, i < n -> uptos[i]? ≠ some (mkS [46, 46, 48 + n]) := by
 have hh : ∀ k : Nat, k < 10 -> uptos[k]? = some (mkS [46, 46, 48 + k]) := by
  intro k hk
  have : k = 0 ∨ k = 1 ∨ k = 2 ∨ k = 3 ∨ k = 4 ∨ k = 5 ∨ k = 6 ∨ k = 7 ∨ k = 8 ∨ k = 9 := by omega
  rcases this with rfl | rfl | rfl | rfl | rfl | rfl | rfl | rfl | rfl | rfl <;> rfl
 refine ⟨hh n h, fun i hi z => ?_⟩
 rw [hh i (by omega)] at z
 have := mkS_inj.mp (Option.some.inj z)
 simp at this
 omega
theorem upto_mem {n : Nat} (h : n < 10) : mkS [46, 46, 48 + n] ∈ uptos := List.mem_of_getElem? (upto_at h).1
theorem upto_head : ∀ z ∈ uptos, (cl z).head? = some 46 := by decide +kernel
theorem not_upto {t : List Nat} (h : t.head? ≠ some 46) : mkS t ∉ uptos := fun z => h (by have := upto_head _ z; rwa [cl_mkS] at this)
theorem cutAt_two (c : Nat) : ∀ (x y : List Nat), cutAt c (x ++ c :: y) = cutAt c x ++ cutAt c y
 | [], y => by simp [cutAt]
 | a :: x, y => by
  have ih := cutAt_two c x y
  rw [List.cons_append]
  by_cases h : a = c
  · simp [cutAt, h, ih]
  · obtain ⟨p, r, e⟩ : ∃ p r, cutAt c x = p :: r := by
     cases q : cutAt c x with
     | nil => exact absurd q (cutAt_ne c x)
     | cons p r => exact ⟨p, r, rfl⟩
    simp [cutAt, h, ih, e]
theorem cut_join : ∀ {l : List (List Nat)}, l ≠ [] -> cutAt 32 (joinL [32] l) = l.flatMap (cutAt 32)
 | [], h => absurd rfl h
 | [x], _ => by simp [joinL]
 | x :: y :: r, _ => by
  rw [joinL_cons2, List.append_assoc, List.singleton_append, cutAt_two, cut_join (l := y :: r) (by simp)]; simp [List.flatMap_cons]
theorem cut_word {l : List Nat} (h : ∀ c ∈ l, c ≠ 32) : cutAt 32 l = [l] := cutAt_free fun z => h 32 z rfl
theorem w_no32 {w : Str} (h : wOk w) : ∀ c ∈ cl w, c ≠ 32 := fun c hc => sg_ne32 (h.2.1 c hc)
mutual
theorem cut_P : ∀ {p : Pt} {k : Nat}, pW k p -> cutAt 32 (tP p) = kP p
 | .word w, k, h => by unfold pW at h; unfold kP tP; exact cut_word (w_no32 h)
 | .beg w, k, h => by
  unfold pW at h
  unfold kP tP
  refine cut_word fun c hc => ?_
  rcases List.mem_append.mp hc with hc | hc
  · exact w_no32 h c hc
  · simp at hc; subst hc; decide
 | .fin w, k, h => by
  unfold pW at h
  unfold kP tP
  refine cut_word fun c hc => ?_
  rcases List.mem_cons.mp hc with hc | hc
  · subst hc; decide
  · exact w_no32 h c hc
 | .any, k, h => by unfold kP tP; rfl
 | .upto n, k, h => by
  unfold kP tP
  refine cut_word fun c hc => ?_
  simp at hc
  omega
 | .inn q, k, h => by
  unfold pW at h
  obtain ⟨j, _, hn, hw⟩ := h
  have ih := cut_Q hw hn
  unfold tQ at ih
  unfold kP tP
  rw [show [40, 32] ++ joinL [32, 124, 32] (tQs q) ++ [32, 41] = [40] ++ 32 :: (joinL [32, 124, 32] (tQs q) ++ 32 :: [41]) by simp, cutAt_two, cutAt_two, ih]
  rfl
theorem cut_R : ∀ {ps : List Pt} {k : Nat}, rWs k ps -> (tPs ps).flatMap (cutAt 32) = kR ps
 | [], k, _ => by simp [tPs, kR]
 | p :: ps, k, h => by
  unfold rWs at h
  have ih := cut_R h.2
  unfold tPs kR
  rw [List.flatMap_cons, ih, cut_P h.1]
theorem cut_Q : ∀ {q : List (List Pt)} {k : Nat}, qWs k q -> q ≠ [] -> cutAt 32 (tQ q) = kQ q
 | [], k, _, h => absurd rfl h
 | [ps], k, h, _ => by
  unfold qWs at h
  unfold kQ
  rw [<- cut_R h.1.2, <- cut_join (by rw [tPs_map]; simpa using h.1.1)]
  simp [tQ, tQs, joinL]
 | ps :: p2 :: q, k, h, _ => by
  unfold qWs at h
  have ih := cut_Q h.2 (by simp)
  unfold kQ
  have e : tQ (ps :: p2 :: q) = joinL [32] (tPs ps) ++ 32 :: ([124] ++ 32 :: tQ (p2 :: q)) := by
   unfold tQ
   rw [show tQs (ps :: p2 :: q) = joinL [32] (tPs ps) :: tQs (p2 :: q) by rw [tQs]]
   cases hq : tQs (p2 :: q) with
   | nil => simp [tQs] at hq
   | cons x r => rw [joinL_cons2]; simp
  rw [e, cutAt_two, cutAt_two, ih, cut_join (by rw [tPs_map]; simpa using h.1.1), cut_R h.1.2]
  rfl
end
def fullC (x : List Nat) : List (List Nat) := (cutAt 32 x).filter fun t => !t.isEmpty
theorem full_two (x y : List Nat) : fullC (x ++ 32 :: y) = fullC x ++ fullC y := by unfold fullC; rw [cutAt_two, List.filter_append]
theorem full_nil : fullC [] = [] := rfl
theorem full_blanks : ∀ (n : Nat) (y : List Nat), fullC (List.replicate n 32 ++ y) = fullC y
 | 0, y => by simp
 | n + 1, y => by
  rw [List.replicate_succ, List.cons_append, show (32 :: (List.replicate n 32 ++ y)) = [] ++ 32 :: (List.replicate n 32 ++ y) from rfl, full_two, full_nil, List.nil_append, full_blanks n y]
theorem full_tok {t : List Nat} (h1 : t ≠ []) (h2 : ∀ c ∈ t, c ≠ 32) : fullC t = [t] := by
 unfold fullC
 rw [cut_word h2]
 cases t with
 | nil => exact absurd rfl h1
 | cons a r => rfl
theorem full_next {t : List Nat} (h1 : t ≠ []) (h2 : ∀ c ∈ t, c ≠ 32) (n : Nat) (y : List Nat) : fullC (t ++ List.replicate (n + 1) 32 ++ y) = t :: fullC y := by
 rw [List.replicate_succ, List.append_assoc, List.cons_append, full_two, full_tok h1 h2, full_blanks]
 rfl
def blk32 (n : Nat) : List Nat := List.replicate n 32
section
variable {X : Cx} {ρ : List (Option D)} {m1 m2 : Bool} {a b : Expr} {pos : Pos}
theorem op_mulB : OpR X (binaryOp .Mult) (fun x y H Q => ∃ n : Nat, n <= 3 ∧ x = .str " " ∧ y = .int (n : Nat) ∧ Q (.str (mkS (blk32 n))) H) := by
 intro pins s σ H x y v u Q I rx ry h
 obtain ⟨n, hn, rfl, rfl, q⟩ := h
 obtain ⟨t, rfl⟩ := rx
 obtain ⟨t', rfl⟩ := ry
 have : n = 0 ∨ n = 1 ∨ n = 2 ∨ n = 3 := by omega
 rcases this with rfl | rfl | rfl | rfl
 · refine P.mul_str (by decide) (by decide) (by decide) ?_
   exact ⟨by decide, .str _, H, I.tok _, ⟨_, rfl⟩, q⟩
 · refine P.mul_str (by decide) (by decide) (by decide) ?_
   exact ⟨.str _, H, I, ⟨_, rfl⟩, q⟩
 · refine P.mul_str (by decide) (by decide +kernel) (by decide +kernel) ?_
   exact ⟨by decide +kernel, .str _, H, I.tok _, ⟨_, rfl⟩, q⟩
 · refine P.mul_str (by decide) (by decide +kernel) (by decide +kernel) ?_
   exact ⟨by decide +kernel, .str _, H, I.tok _, ⟨_, rfl⟩, q⟩
theorem e_mulB {n : Nat} (ha : E X m1 ρ a (.str " ")) (hb : E X m2 ρ b (.int (n : Nat))) (h : n <= 3) : E X true ρ (.BinOp a .Mult b pos) (.str (mkS (blk32 n))) :=
 e_op op_mulB ha hb fun x y H Z Q _ i1 i2 k => ⟨n, h, in_str.mp i1, in_int.mp i2, k _ _ (Same.refl H) (in_str.mpr rfl)⟩
end
theorem tok_full {z : Str} (h : ∀ c ∈ cl z, c < 128) : (tokS z).map cl = fullC ((cl z).map lo1) := by
 have e1 : cl (Txt.lower z) = (cl z).map lo1 := by rw [lower_ascii h]; simp [cl]
 have e2 : (Txt.split (Txt.lower z) " ").map cl = cutAt 32 (cl (Txt.lower z)) := split_cut _ 32
 unfold tokS fullC
 rw [<- e1, <- e2]
 induction Txt.split (Txt.lower z) " " with
 | nil => rfl
 | cons x l ih =>
  have hx : (!(cl x).isEmpty) = !decide (x = "") := by
   by_cases q : x = ""
   · subst q; rfl
   · have : cl x ≠ [] := fun w => q (cl_eq_nil.mp w)
     cases hc : cl x with
     | nil => exact absurd hc this
     | cons a r => simp [q]
  rw [List.map_cons, List.filter_cons, List.filter_cons, hx]
  by_cases q : x = ""
  · simp [q, ih]
  · simp [q, ih]
theorem tok_is {z : Str} {ts : List (List Nat)} (h : ∀ c ∈ cl z, c < 128) (e : fullC ((cl z).map lo1) = ts) : tokS z = ts.map mkS := by
 rw [<- e, <- tok_full h, List.map_map]
 exact ((List.map_congr_left fun x _ => by simp [mkS_cl]).trans (List.map_id _)).symm
def tame (x : Nat) : Prop := lo1 x = x ∧ lo1 (up1 x) = x ∧ x < 128 ∧ up1 x < 128
theorem tame_sg : ∀ x ∈ cl W36, tame x := by unfold tame; decide +kernel
theorem tame_oth : ∀ x ∈ [32, 40, 41, 42, 46, 63, 124, 48, 49, 50, 51, 52, 53, 54, 55, 56, 57], tame x := by unfold tame; decide +kernel
def fine (t : List Nat) : Prop := t ≠ [] ∧ ∀ x ∈ t, x ≠ 32 ∧ tame x
theorem fine_w {w : Str} (h : wOk w) : ∀ x ∈ cl w, x ≠ 32 ∧ tame x := fun x hx => ⟨w_no32 h x hx, tame_sg x (sg_mem (h.2.1 x hx))⟩
theorem tame_d {n : Nat} (h : n < 10) : tame (48 + n) := by
 have : n = 0 ∨ n = 1 ∨ n = 2 ∨ n = 3 ∨ n = 4 ∨ n = 5 ∨ n = 6 ∨ n = 7 ∨ n = 8 ∨ n = 9 := by omega
 rcases this with rfl | rfl | rfl | rfl | rfl | rfl | rfl | rfl | rfl | rfl <;> exact tame_oth _ (by decide)
mutual
theorem fine_P : ∀ {p : Pt} {k : Nat}, pW k p -> ∀ t ∈ kP p, fine t
 | .word w, k, h, t, ht => by
  unfold pW at h; unfold kP tP at ht
  simp at ht; subst ht
  exact ⟨h.1, fine_w h⟩
 | .beg w, k, h, t, ht => by
  unfold pW at h; unfold kP tP at ht
  simp at ht; subst ht
  refine ⟨by simp, fun x hx => ?_⟩
  rcases List.mem_append.mp hx with hx | hx
  · exact fine_w h x hx
  · simp at hx; subst hx; exact ⟨by decide, tame_oth _ (by decide)⟩
 | .fin w, k, h, t, ht => by
  unfold pW at h; unfold kP tP at ht
  simp at ht; subst ht
  refine ⟨by simp, fun x hx => ?_⟩
  rcases List.mem_cons.mp hx with hx | hx
  · subst hx; exact ⟨by decide, tame_oth _ (by decide)⟩
  · exact fine_w h x hx
 | .any, k, h, t, ht => by
  unfold kP tP at ht
  simp at ht; subst ht
  refine ⟨by simp, fun x hx => ?_⟩
  simp at hx; subst hx; exact ⟨by decide, tame_oth _ (by decide)⟩
 | .upto n, k, h, t, ht => by
  unfold pW at h; unfold kP tP at ht
  simp at ht; subst ht
  refine ⟨by simp, fun x hx => ?_⟩
  simp at hx
  rcases hx with rfl | rfl
  · exact ⟨by decide, tame_oth _ (by decide)⟩
  · exact ⟨by omega, tame_d h⟩
 | .inn q, k, h, t, ht => by
  unfold pW at h
  obtain ⟨j, _, hn, hw⟩ := h
  unfold kP at ht
  rcases List.mem_cons.mp ht with rfl | ht
  · exact ⟨by simp, fun x hx => by simp at hx; subst hx; exact ⟨by decide, tame_oth _ (by decide)⟩⟩
  · rcases List.mem_append.mp ht with ht | ht
    · exact fine_Q hw t ht
    · simp at ht; subst ht
      exact ⟨by simp, fun x hx => by simp at hx; subst hx; exact ⟨by decide, tame_oth _ (by decide)⟩⟩
theorem fine_R : ∀ {ps : List Pt} {k : Nat}, rWs k ps -> ∀ t ∈ kR ps, fine t
 | [], k, _, t, ht => by simp [kR] at ht
 | p :: ps, k, h, t, ht => by
  unfold rWs at h
  unfold kR at ht
  rcases List.mem_append.mp ht with ht | ht
  · exact fine_P h.1 t ht
  · exact fine_R h.2 t ht
theorem fine_Q : ∀ {q : List (List Pt)} {k : Nat}, qWs k q -> ∀ t ∈ kQ q, fine t
 | [], k, _, t, ht => by simp [kQ] at ht
 | [ps], k, h, t, ht => by
  unfold qWs at h
  unfold kQ at ht
  exact fine_R h.1.2 t ht
 | ps :: p2 :: q, k, h, t, ht => by
  unfold qWs at h
  unfold kQ at ht
  rcases List.mem_append.mp ht with ht | ht
  · exact fine_R h.1.2 t ht
  · rcases List.mem_cons.mp ht with rfl | ht
    · exact ⟨by simp, fun x hx => by simp at hx; subst hx; exact ⟨by decide, tame_oth _ (by decide)⟩⟩
    · exact fine_Q h.2 t ht
end
theorem cut_total (c : Nat) : ∀ l : List Nat, ((cutAt c l).map List.length).sum + (cutAt c l).length = l.length + 1
 | [] => by simp [cutAt]
 | k :: r => by
  have ih := cut_total c r
  obtain ⟨p, t, e⟩ : ∃ p t, cutAt c r = p :: t := by
   cases q : cutAt c r with
   | nil => exact absurd q (cutAt_ne c r)
   | cons p r => exact ⟨p, r, rfl⟩
  by_cases h : k = c
  · simp [cutAt, h] at ih ⊢; omega
  · simp [cutAt, h, e] at ih ⊢; omega
mutual
def plD' : Nat -> D -> Prop
 | _, .str _ => True
 | _, .int _ => True
 | n, .lst ds => ∃ m, n = m + 1 ∧ ds.length <= 100000 ∧ plDs m ds
 | n, .tup ds => ∃ m, n = m + 1 ∧ ds.length <= 100000 ∧ plDs m ds
 | _, _ => False
def plDs : Nat -> List D -> Prop
 | _, [] => True
 | n, d :: ds => plD' n d ∧ plDs n ds
end
theorem plDs_mem : ∀ {ds : List D} {n : Nat}, plDs n ds ↔ ∀ d ∈ ds, plD' n d
 | [], n => by simp [plDs]
 | d :: ds, n => by simp [plDs, plDs_mem (ds := ds)]
mutual
theorem pl_P : ∀ {p : Pt} {k : Nat}, ptOk p k -> (tP p).length <= 90000 -> plD' (3 * k + 1) (ptD p)
 | .word w, k, _, _ => by simp [ptD, plD', plDs]
 | .beg w, k, _, _ => by simp [ptD, plD', plDs]
 | .fin w, k, _, _ => by simp [ptD, plD', plDs]
 | .any, k, _, _ => by simp [ptD, plD', plDs]
 | .upto n, k, _, _ => by simp [ptD, plD', plDs]
 | .inn q, k, h, hl => by
  unfold ptOk at h
  obtain ⟨j, rfl, hq⟩ := h
  have h3 : (tQ q).length <= 90000 := by unfold tP at hl; simp at hl; unfold tQ; omega
  have ih := pl_Q hq h3
  have hlen : (qDs q).length <= 100000 := by
   have := joinL_len2 (sep := [32, 124, 32]) (by simp) (tQs q)
   have e : (tQs q).length = q.length := by rw [tQs_map, List.length_map]
   unfold tQ at h3
   rw [qDs_len]
   omega
  unfold ptD plD'
  refine ⟨3 * (j + 1), rfl, by simp, ?_⟩
  unfold plDs plDs plDs
  refine ⟨by unfold plD'; trivial, ?_, trivial⟩
  unfold plD'
  exact ⟨3 * j + 2, by omega, hlen, ih⟩
theorem pl_R : ∀ {ps : List Pt} {k : Nat}, psOk ps k -> (∀ p ∈ ps, (tP p).length <= 90000) -> plDs (3 * k + 1) (psDs ps)
 | [], k, _, _ => by simp [psDs, plDs]
 | p :: ps, k, h, hl => by
  unfold psOk at h
  unfold psDs plDs
  exact ⟨pl_P h.1 (hl p (by simp)), pl_R h.2 fun x hx => hl x (by simp [hx])⟩
theorem pl_Q : ∀ {q : List (List Pt)} {k : Nat}, qOk q k -> (tQ q).length <= 90000 -> plDs (3 * k + 2) (qDs q)
 | [], k, _, _ => by simp [qDs, plDs]
 | ps :: q, k, h, hl => by
  have h1 : (tR ps).length <= 90000 := Nat.le_trans (joinL_mem (sep := [32, 124, 32]) (l := tQs (ps :: q)) (by rw [tQs_map]; simp)) hl
  have h2 : (tQ q).length <= 90000 := by
   refine Nat.le_trans ?_ hl
   unfold tQ
   rw [show tQs (ps :: q) = joinL [32] (tPs ps) :: tQs q by rw [tQs]]
   cases tQs q with
   | nil => simp [joinL]
   | cons x r => rw [joinL_cons2]; simp only [List.length_append]; omega
  have hlen : (psDs ps).length <= 100000 := by
   have := joinL_len2 (sep := [32]) (by simp) (tPs ps)
   have e : (tPs ps).length = ps.length := by rw [tPs_map, List.length_map]
   unfold tR at h1
   rw [psDs_len]
   omega
  unfold qOk at h
  unfold qDs plDs
  refine ⟨?_, pl_Q h.2 h2⟩
  unfold plD'
  exact ⟨3 * k + 1, by omega, hlen, pl_R h.1 fun p hp => Nat.le_trans (joinL_mem (sep := [32]) (l := tPs ps) (by rw [tPs_map]; exact List.mem_map_of_mem hp)) h1⟩
end
def gAlk (n : Nat) (ds : List D) (d : D) : Prop := ∃ x : D, plD' n x ∧ ds = [x, x] ∧ d = .bl true
section
variable {X : Cx} {ρ : List (Option D)} {m1 : Bool} {a : Expr} {d : D} {p pos : Pos}
inductive NotV (K : PySem.W.Frag) (H : Hp) : V -> String -> Prop where
 | is (i : Int) : NotV K H (.int i) "str"
 | ls {a : Addr} {xs : List V} (h : SqL K H a xs) : NotV K H (.ref a) "str"
 | li {a : Addr} {xs : List V} (h : SqL K H a xs) : NotV K H (.ref a) "int"
 | lt {a : Addr} {xs : List V} (h : SqL K H a xs) : NotV K H (.ref a) "tuple"
 | ts {a : Addr} {xs : List V} (h : SqT K H a xs) : NotV K H (.ref a) "str"
 | ti {a : Addr} {xs : List V} (h : SqT K H a xs) : NotV K H (.ref a) "int"
 | tl {a : Addr} {xs : List V} (h : SqT K H a xs) : NotV K H (.ref a) "list"
theorem call_noinst : CallR X (.builtin "isinstance") (fun xs H Q => ∃ x T, xs = [x, .ty T] ∧ NotV X.K H x T ∧ Q (.bl false) H) := by
 intro pins s σ H xs us Q I r h
 obtain ⟨x, T, rfl, hi, q⟩ := h
 obtain ⟨u, w', rfl, ru, rw'⟩ := vals2 r
 cases rw'
 have fin : ∀ k, EP X pins σ Q (.bool false) { s with toks := k } := fun k => ⟨.bl false, H, I.tok k, rfl, q⟩
 cases hi with
 | is => obtain ⟨t, rfl⟩ := ru; exact IsiPair.int_str (fin _)
 | ls h => cases ru; obtain ⟨its, _, ⟨o, n, e, c, _⟩, _⟩ := I.list h; exact IsiPair.list_str e c (fin _)
 | li h => cases ru; obtain ⟨its, _, ⟨o, n, e, c, _⟩, _⟩ := I.list h; exact IsiPair.list_int e c (fin _)
 | lt h => cases ru; obtain ⟨its, _, ⟨o, n, e, c, _⟩, _⟩ := I.list h; exact IsiPair.list_tuple e c (fin _)
 | ts h => cases ru; obtain ⟨its, _, ⟨o, e, c, _⟩, _⟩ := I.tuple h; exact IsiPair.tuple_str e c (fin _)
 | ti h => cases ru; obtain ⟨its, _, ⟨o, e, c, _⟩, _⟩ := I.tuple h; exact IsiPair.tuple_int e c (fin _)
 | tl h => cases ru; obtain ⟨its, _, ⟨o, e, c, _⟩, _⟩ := I.tuple h; exact IsiPair.tuple_list e c (fin _)
def noD : D -> String -> Bool
 | .int _, "str" => true
 | .lst _, "str" => true
 | .lst _, "int" => true
 | .lst _, "tuple" => true
 | .tup _, "str" => true
 | .tup _, "int" => true
 | .tup _, "list" => true
 | _, _ => false
theorem notV_of {K : PySem.W.Frag} {H : Hp} {Z : Zone} {v : V} {ty : String} (i : In K H Z d v) (h : noD d ty = true) : NotV K H v ty := by
 unfold noD at h
 split at h <;> first
  | (cases h; done)
  | (rw [in_int.mp i]; exact .is _)
  | (obtain ⟨a, xs, rfl, at', _⟩ := in_lst.mp i; first | exact .ls at'.sq | exact .li at'.sq | exact .lt at'.sq)
  | (obtain ⟨a, xs, rfl, at', _⟩ := in_tupS i; first | exact .ts at' | exact .ti at' | exact .tl at')
theorem e_isiF {ty : String} {tn : Str} {p2 : Pos} (ha : E X m1 ρ a d) (h : noD d ty = true) (hv : bootBuiltins tn = some (.type ty)) (hm : X.mg "isinstance" = none) (hm2 : X.mg tn = none) (hg : Gl X "isinstance" := by rfl) (hg2 : Gl X tn := by rfl)
 (hs : starEach [a, .Name tn p2] X.env = [(false, eval a X.env), (false, eval (.Name tn p2) X.env)] := by rfl) (hs2 : starEach [.Name tn p2] X.env = [(false, eval (.Name tn p2) X.env)] := by rfl) (hn : tn ≠ "__name__" := by decide) (hdb : (tn == ("__debug__" : Str)) = false := by decide) :
 E X true ρ (.Call (.Name "isinstance" p) [a, .Name tn p2] [] pos) (.bl false) :=
 PE.mono (pe_callB call_noinst hg hm boot_isinstance (pa_cons ha (pa_cons (pe_bltn (v := .ty ty) hg2 hm2 hv rfl hn hdb) pa_nil (by rw [hs2]; rfl)) (by rw [hs, hs2])) (by decide) (by decide) (by rw [hs, hs2]) (by rw [hs2]; rfl)) fun σ H Q z0 => el13 z0 fun Z oz en k => ⟨Z, oz, en, fun x H1 s1 i1 =>
  ⟨x, ty, rfl, notV_of (i1.plain oz) h, k _ H1 s1 (in_bl.mpr rfl)⟩⟩
end
theorem ktup_uptos {K : PySem.W.Frag} {a : Addr} {t0 t1 t2 t3 t4 t5 t6 t7 t8 t9 : Tok} {od : Option Addr} {n : Nat} {sl : Array (Option Value)} (h : K.lookup a = some ⟨.type "tuple", od, .seq #[.str "..0" t0, .str "..1" t1, .str "..2" t2, .str "..3" t3, .str "..4" t4, .str "..5" t5, .str "..6" t6, .str "..7" t7, .str "..8" t8, .str "..9" t9] n, sl⟩) :
 KTup K a (uptos.map fun z => (Sum.inr z : Key)) :=
 ⟨_, _, _, h, rfl, rfl, (show 10 <= sizeLine by decide), .cons ⟨_, rfl⟩ (.cons ⟨_, rfl⟩ (.cons ⟨_, rfl⟩ (.cons ⟨_, rfl⟩ (.cons ⟨_, rfl⟩ (.cons ⟨_, rfl⟩ (.cons ⟨_, rfl⟩ (.cons ⟨_, rfl⟩ (.cons ⟨_, rfl⟩ (.cons ⟨_, rfl⟩ .nil)))))))))⟩
theorem kQ_total {q : List (List Pt)} {k : Nat} (h : qW k q) : ((kQ q).map List.length).sum + (kQ q).length = (tQ q).length + 1 := by
 rw [<- cut_Q h.2 h.1]
 exact cut_total 32 _
theorem mem_cut (c : Nat) : ∀ (l : List Nat) (x : Nat), x ∈ l -> x = c ∨ ∃ t ∈ cutAt c l, x ∈ t
 | [], _, h => by cases h
 | k :: r, x, h => by
  obtain ⟨p, t, e⟩ : ∃ p t, cutAt c r = p :: t := by
   cases q : cutAt c r with
   | nil => exact absurd q (cutAt_ne c r)
   | cons p r => exact ⟨p, r, rfl⟩
  by_cases hk : k = c
  · rcases List.mem_cons.mp h with rfl | h
    · exact .inl hk
    · rcases mem_cut c r x h with z | ⟨u, hu, hx⟩
      · exact .inl z
      · refine .inr ⟨u, ?_, hx⟩
        simp [cutAt, hk, hu]
  · rcases List.mem_cons.mp h with rfl | h
    · refine .inr ⟨x :: p, ?_, by simp⟩
      simp [cutAt, hk, e]
    · rcases mem_cut c r x h with z | ⟨u, hu, hx⟩
      · exact .inl z
      · rw [e] at hu
        rcases List.mem_cons.mp hu with rfl | hu
        · exact .inr ⟨k :: u, by simp [cutAt, hk, e], by simp [hx]⟩
        · exact .inr ⟨u, by simp [cutAt, hk, e, hu], hx⟩
theorem tame_Q {q : List (List Pt)} {k : Nat} (h : qW k q) : ∀ x ∈ tQ q, tame x := fun x hx => by
 rcases mem_cut 32 _ x hx with rfl | ⟨t, ht, hx⟩
 · exact tame_oth 32 (by simp)
 · rw [cut_Q h.2 h.1] at ht
   exact ((fine_Q h.2 t ht).2 x hx).2
theorem gRead_own {q : List (List Pt)} (h : qW 20 q) (hl : (tQ q).length <= 80000) : gRead [.str (mkS (tQ q))] (questD q) := by
 have tm := tame_Q h
 have low : ∀ c ∈ cl (mkS (tQ q)), c < 128 := fun c hc => by rw [cl_mkS] at hc; exact (tm c hc).2.2.1
 refine ⟨_, q, by rw [mkS_len]; omega, low, h, tok_is low ?_, ?_, rfl, rfl⟩
 · have e : (tQ q).map lo1 = tQ q := (List.map_congr_left fun x hx => (tm x hx).1).trans (List.map_id _)
   rw [cl_mkS, e]
   unfold fullC
   rw [cut_Q h.2 h.1]
   refine List.filter_eq_self.mpr fun t ht => ?_
   have := (fine_Q h.2 t ht).1
   cases t with
   | nil => exact absurd rfl this
   | cons _ _ => rfl
 · have := kQ_total h
   omega
theorem plQ63 {q : List (List Pt)} (h : qW 20 q) (hl : (tQ q).length <= 80000) : plD' 63 (questD q) := by
 have h1 : plDs (3 * 20 + 2) (qDs q) := pl_Q (qWs_ok h.2) (by omega)
 have h2 : (qDs q).length <= 100000 := by
  have := joinL_len2 (sep := [32, 124, 32]) (by simp) (tQs q)
  have e : (tQs q).length = q.length := by rw [tQs_map, List.length_map]
  unfold tQ at hl
  rw [qDs_len]
  omega
 unfold questD plD'
 exact ⟨62, rfl, h2, h1⟩
section
variable {X : Cx} {ρ : List (Option D)} {m m1 m2 : Bool} {a b : Expr} {ds es : List D} {d : D} {p pos : Pos}
variable {i : Nat} {e : Addr}
inductive NotS : D -> Prop where
 | non : NotS .non
 | bl (b : Bool) : NotS (.bl b)
 | int (i : Int) : NotS (.int i)
 | lst (ds : List D) : NotS (.lst ds)
 | tup (ds : List D) : NotS (.tup ds)
theorem call_noS : CallR X (.builtin "isinstance") (fun xs H Q => (xs = [.non, .ty "str"] ∨ ∃ b, xs = [.bl b, .ty "str"]) ∧ Q (.bl false) H) := by
 intro pins s σ H xs us Q I r ⟨h, q⟩
 have fin : ∀ k, EP X pins σ Q (.bool false) { s with toks := k } := fun k => ⟨.bl false, H, I.tok k, rfl, q⟩
 rcases h with rfl | ⟨b, rfl⟩
 · obtain ⟨u, w', rfl, ru, rw'⟩ := vals2 r
   cases rw'
   cases ru
   exact IsiPair.NoneType_str (fin _)
 · obtain ⟨u, w', rfl, ru, rw'⟩ := vals2 r
   cases rw'
   cases ru
   exact IsiPair.bool_str (fin _)
theorem e_noStr {p2 : Pos} (ha : E X m1 ρ a d) (h : NotS d) (hm : X.mg "isinstance" = none) (hm2 : X.mg "str" = none) (hg : Gl X "isinstance" := by rfl) (hg2 : Gl X "str" := by rfl)
 (hs : starEach [a, .Name "str" p2] X.env = [(false, eval a X.env), (false, eval (.Name "str" p2) X.env)] := by rfl) (hs2 : starEach [.Name "str" p2] X.env = [(false, eval (.Name "str" p2) X.env)] := by rfl) :
 E X true ρ (.Call (.Name "isinstance" p) [a, .Name "str" p2] [] pos) (.bl false) := by
 cases h with
 | int i => exact e_isiF ha rfl PyProof.Rows.boot_str hm hm2 hg hg2 hs hs2
 | lst ds => exact e_isiF ha rfl PyProof.Rows.boot_str hm hm2 hg hg2 hs hs2
 | tup ds => exact e_isiF ha rfl PyProof.Rows.boot_str hm hm2 hg hg2 hs hs2
 | non =>
  exact PE.mono (pe_callB call_noS hg hm boot_isinstance (pa_cons ha (pa_cons (pe_bltn (v := .ty "str") hg2 hm2 PyProof.Rows.boot_str rfl (by decide) (by decide)) pa_nil (by rw [hs2]; rfl)) (by rw [hs, hs2])) (by decide) (by decide) (by rw [hs, hs2]) (by rw [hs2]; rfl)) fun σ H Q z0 => el13 z0 fun Z oz en k => ⟨Z, oz, en, fun x H1 s1 i1 =>
   ⟨.inl (by rw [in_non.mp (i1.plain oz)]), k _ H1 s1 (in_bl.mpr rfl)⟩⟩
 | bl b =>
  exact PE.mono (pe_callB call_noS hg hm boot_isinstance (pa_cons ha (pa_cons (pe_bltn (v := .ty "str") hg2 hm2 PyProof.Rows.boot_str rfl (by decide) (by decide)) pa_nil (by rw [hs2]; rfl)) (by rw [hs, hs2])) (by decide) (by decide) (by rw [hs, hs2]) (by rw [hs2]; rfl)) fun σ H Q z0 => el13 z0 fun Z oz en k => ⟨Z, oz, en, fun x H1 s1 i1 =>
   ⟨.inr ⟨b, by rw [in_bl.mp (i1.plain oz)]⟩, k _ H1 s1 (in_bl.mpr rfl)⟩⟩
end
def Bad (st : List (List (List Pt))) (t : List Nat) : Prop :=
 (t = [40] ∧ 20 < st.length) ∨ (t = [124] ∧ lastR (st.getLastD []) = []) ∨ (t = [41] ∧ (lastR (st.getLastD []) = [] ∨ st.length <= 1)) ∨ (t ≠ [40] ∧ t ≠ [124] ∧ t ≠ [41] ∧ partT t = none)
def gPartN (ds : List D) (d : D) : Prop := ∃ t : List Nat, t ≠ [] ∧ t.length <= 100 ∧ partT t = none ∧ ds = [.str (mkS t)] ∧ d = .non
def gPartO (ds : List D) (d : D) : Prop := gPartOf ds d ∨ gPartN ds d
def gCanN (ds : List D) (d : D) : Prop := ∃ (n : Nat) (st : List (List (List Pt))) (t : List Nat), Shp n st ∧ Lv st ∧ t ≠ [] ∧ t.length <= 100 ∧ Bad st t ∧ ds = [.str (mkS t), stD st] ∧ d = .bl false
def gCanO (ds : List D) (d : D) : Prop := gCan ds d ∨ gCanN ds d
structure RefT (z : Str) (ts : List (List Nat)) (k : Nat) : Prop where
 zl : z.length <= 100000
 as : ∀ c ∈ cl z, c < 128
 tk : tokS z = ts.map mkS
 tl : ts.length <= 90000
 tn : ∀ t ∈ ts, t ≠ [] ∧ t.length <= 100
 gd : Good [[[]]] (ts.take k)
 no : (∃ t, ts[k]? = some t ∧ Bad (readT [[[]]] (ts.take k)) t) ∨ (k = ts.length ∧ (lastR ((readT [[[]]] ts).getLastD []) = [] ∨ 2 <= (readT [[[]]] ts).length))
def rRead (xq : Addr) (ds : List D) (c : XD) : Prop := (∃ d, NotS d ∧ ds = [d] ∧ c = ⟨xq, some 0⟩) ∨ ∃ z ts k, RefT z ts k ∧ ds = [.str z] ∧ c = ⟨xq, some ((k : Nat) : Int)⟩
theorem cond3_mem {t : List Nat} (h : (mkS t : Str) ∈ uptos) : t.length = 3 ∧ t.take 2 = [46, 46] ∧ 48 <= t.getD 2 0 ∧ t.getD 2 0 <= 57 := by
 have key : ∀ n, n < 10 -> (mkS t : Str) = mkS [46, 46, 48 + n] -> t.length = 3 ∧ t.take 2 = [46, 46] ∧ 48 <= t.getD 2 0 ∧ t.getD 2 0 <= 57 := fun n hn e => by
  rw [mkS_inj.mp e]
  refine ⟨rfl, rfl, ?_, ?_⟩ <;> (simp; try omega)
 obtain ⟨n, hn⟩ := List.getElem?_of_mem h
 have lt : n < 10 := (List.getElem?_eq_some_iff.mp hn).1
 have := (upto_at lt).1
 rw [hn] at this
 exact key n lt (Option.some.inj this)
theorem partT_none {t : List Nat} (h : partT t = none) : isWC t = false ∧ t ≠ [63] ∧ ¬ (mkS t : Str) ∈ uptos ∧ ¬ (t.getLast? = some 42 ∧ isWC t.dropLast = true) ∧ ¬ (t.head? = some 42 ∧ isWC (t.drop 1) = true) := by
 unfold partT at h
 split at h
 · cases h
 · rename_i h1
   split at h
   · cases h
   · rename_i h2
     split at h
     · cases h
     · rename_i h3
       split at h
       · cases h
       · rename_i h4
         split at h
         · cases h
         · rename_i h5
           exact ⟨by simpa using h1, h2, fun z => h3 (cond3_mem z), h4, h5⟩
theorem Def.sub {P : Program} {w : World} {K : PySem.W.Frag} {mg : Str -> Option Value} {base : Heap} {k : Nat} {x : Str} {m : Bool} {G G' : List D -> D -> Prop} (h : Def P w K mg base k x m G) (s : ∀ ds d, G' ds d -> G ds d) : Def P w K mg base k x m G' := by
 obtain ⟨f, fd, ps, a, b, c, d⟩ := h.ex
 exact ⟨f, fd, ps, ⟨fun vs H Q E ⟨Z, ds, d, oz, i, g, k⟩ => a.len vs H Q E ⟨Z, ds, d, oz, i, s ds d g, k⟩, fun A outer s0 H args us vs Q E hr e0 hb r ⟨Z, ds, d, oz, i, g, k⟩ => a.run A outer s0 H args us vs Q E hr e0 hb r ⟨Z, ds, d, oz, i, s ds d g, k⟩⟩, b, c, d⟩
theorem DefX.sub {P : Program} {w : World} {K : PySem.W.Frag} {mg : Str -> Option Value} {base : Heap} {k : Nat} {x : Str} {m : Bool} {G : List D -> D -> Prop} {R : List D -> XD -> Prop} (h : DefX P w K mg base k x m G R) : ∃ f fd ps, FnOk P w K mg base (CX1 P w) k f fd ps (spD K m G) ∧ mg x = some (.ref f) ∧ PySem.W.keepIn K (.ref f) = true ∧ Binds K fd ps [] := by
 obtain ⟨f, fd, ps, a, b, c, d⟩ := h.ex
 exact ⟨f, fd, ps, ⟨fun vs H Q E ⟨Z, ds, d, oz, i, g, k⟩ => a.len vs H Q E ⟨Z, ds, oz, i, .inl ⟨d, g, k⟩⟩, fun A outer s0 H args us vs Q E hr e0 hb r ⟨Z, ds, d, oz, i, g, k⟩ => a.run A outer s0 H args us vs Q E hr e0 hb r ⟨Z, ds, oz, i, .inl ⟨d, g, k⟩⟩⟩, b, c, d⟩
section
variable {X : Cx} {ρ : List (Option D)} {m : Bool} {e : Expr} {es : List Expr} {ds : List D} {d : D} {pos p : Pos} {k : Nat} {x : Str} {G : List D -> D -> Prop} {R : List D -> XD -> Prop}
theorem e_callX (Df : DefX X.prog X.w X.K X.mg X.base k x m G R) (hr : Room k X.A) (ha : EA X ρ (e :: es) ds) (h : G ds d) (hg : Gl X x := by rfl) (hdb : (x == ("__debug__" : Str)) = false := by decide)
 (he : starEach (e :: es) X.env = (false, eval e X.env) :: starEach es X.env := by rfl) (hpl : (backTo pos (starEach es X.env)).any (·.1) = false := by rfl) : E X m ρ (.Call (.Name x p) (e :: es) [] pos) d := by
 obtain ⟨f, fd, ps, a, b, c, dd⟩ := Df.sub
 refine PE.mono (pe_call a hr hg b c dd .nil (fun pins σ H s e s' I hq => ?_) ha hdb he hpl) fun σ H Q z0 => el13 z0 fun Z oz en k => ⟨Z, oz, en, fun vs H1 s1 i1 => by
  show spD X.K m G (vs ++ []) H1 Q E0
  rw [List.append_nil]
  exact ⟨Z, ds, d, oz.same s1, i1, h, fun v H' s' i => k v H' (s1.trans s') (i.later s1)⟩⟩
 obtain ⟨_, _, _, _, _, _, z⟩ := hq
 exact z.elim
theorem e_notNN {m1 m2 : Bool} {a b : Expr} (ha : E X m1 ρ a .non) (hb : E X m2 ρ b .non) (hm : behindInMarks .IsNot b = false := by rfl) : E X true ρ (.Compare a [.IsNot] [b] pos) (.bl false) :=
 e_cmp op_notN ha hb (fun x y H Z Q _ i1 i2 k => ⟨in_non.mp i2, by
  cases in_non.mp i1
  exact k _ H (Same.refl H) (in_bl.mpr rfl)⟩) hm
end
section
variable {X : Cx} {ρ : List (Option D)} {m m1 m2 : Bool} {a b : Expr} {ds es : List D} {d : D} {p pos : Pos}
theorem foldl_rep (v : Value) : ∀ (n : Nat) (acc : Array Value), (List.replicate n #[v]).foldl (fun x1 x2 => x1 ++ x2) acc = acc ++ (List.replicate n v).toArray
 | 0, acc => by simp
 | n + 1, acc => by
  rw [List.replicate_succ, List.foldl_cons, foldl_rep v n, List.replicate_succ]
  apply Array.toList_inj.mp
  simp
theorem vals_rep {v : V} {u : Value} (r : RelV v u) : ∀ n : Nat, Vals (List.replicate n v) (List.replicate n u)
 | 0 => .nil
 | n + 1 => .cons r (vals_rep r n)
theorem list_mulN (l : Addr) (items : Array Value) (k : Nat) (sl : Array (Option Value)) (x : Int) (t : Tok) (h0 : 0 <= x) (h1 : x <= 100) (hz : items.size * x.toNat <= 100) :
 Meets (Builtin.«list.__mul__» ⟨[.ref l, .int x t], []⟩) (fun _ R s => s.heap.get? l = some { cls := .type "list", dict := none, data := .seq items k, slots := sl } ∧
  R (.ok (.ret (.ref s.heap.objs.size))) { s with heap := s.heap.push { cls := .type "list", data := .seq (List.foldl (fun x1 x2 => x1 ++ x2) #[] (List.replicate (if items.isEmpty = true then 0 else x.toNat) items)) }, toks := s.toks }) := by
 refine lm_list_mul_any l items k none sl x t ?_ ?_ ?_
 · simp [Builtin.List.listFitsIndex]
   omega
 · exact Nat.not_lt.mpr (Nat.le_trans hz (by decide))
 · unfold Builtin.List.listTooLong
   rw [decide_eq_true_eq]
   exact Nat.not_lt.mpr (Nat.le_trans hz (by decide))
theorem op_mulL : OpR X (binaryOp .Mult) (fun x y H Q => ∃ (l : Addr) (v : V) (n : Nat), x = .ref l ∧ y = .int n ∧ SqL X.K H l [v] ∧ n <= 100 ∧ ∀ p, H p = none -> Q (.ref p) (upd H p (.lst (List.replicate n v)))) := by
 intro pins s σ H x y v u Q I rx ry h
 obtain ⟨l, v0, n, rfl, rfl, hH, hn, q⟩ := h
 cases rx
 obtain ⟨t', rfl⟩ := ry
 obtain ⟨its, k, sl, r, e, z⟩ := Inv.listX I hH
 obtain ⟨u0, rfl, ru⟩ := vals1 r
 refine wpAny_binaryOp_repeat_ref (T := "list") (U := "int") (by decide) ⟨_, e, rfl⟩ (fun _ => rfl) noFill_list_mul F.fills_int_mul F.slot_int_rmul repeat_list F.slot_int_index.lookup ?_
 refine call_meets F.slot_int_rmul (typeIs_int s _ t') F.entry_int_rmul (F.args_int_rmul_2 _ _) (lm_int_rmul_list_any _ t' l [u0].toArray k none sl) ⟨e, rfl, ⟨_, e, rfl⟩, ?_⟩
 have hz : [u0].toArray.size * ((n : Nat) : Int).toNat <= 100 := by rw [Int.toNat_natCast]; show 1 * n <= 100; omega
 generalize hI : [u0].toArray = items at e hz ⊢
 generalize hX : ((n : Nat) : Int) = x at hz ⊢
 have M := list_mulN l items k sl x t' (by omega) (by omega) hz
 refine call_meets F.slot_list_mul ⟨_, e, rfl⟩ F.entry_list_mul (F.args_list_mul_2 _ _) M ⟨e, ?_⟩
 rw [<- hI, <- hX]
 have hrep : List.foldl (fun x1 x2 => x1 ++ x2) #[] (List.replicate (if [u0].toArray.isEmpty = true then 0 else (n : Int).toNat) [u0].toArray) = (List.replicate n u0).toArray := by
  rw [if_neg (by simp), Int.toNat_natCast, foldl_rep]
  simp
 rw [hrep]
 exact ⟨.ref _, _, I.lnew (t' := s.toks) (vals_rep ru n) (by rw [List.length_replicate]; exact Nat.le_trans hn (by decide)), rfl, q _ I.fresh⟩
theorem e_mulL {n : Nat} (ha : E X m1 ρ a (.lst [d])) (hb : E X m2 ρ b (.int (n : Nat))) (hd : d.flat = true) (h : n <= 100) : E X true ρ (.BinOp a .Mult b pos) (.lst (List.replicate n d)) := by
 refine PE.mono (pe_op op_mulL ha hb) fun σ H Q z0 => el13 z0 fun Z oz en k => ⟨Z, oz, en, fun x H1 s1 i1 => ⟨Z, oz.same s1, en.same s1, fun y H2 s2 i2 => by
  have s := s1.trans s2
  obtain ⟨p, xs, rfl, lq, j⟩ := in_lst.mp (In.same s2 (i1.plain oz))
  obtain ⟨v, r, rfl, iv, j2⟩ := ins_cons.mp j
  cases ins_nil.mp j2
  cases in_int.mp (i2.plain (oz.same s1))
  refine ⟨p, v, n, rfl, rfl, lq.sq, h, fun q hq => k (.ref q) _ (s.trans (same_new hq)) (in_lst.mpr ⟨q, _, rfl, .inl ⟨upd_same, s.free hq⟩, ?_⟩)⟩
  have iv' : In X.K (upd H2 q (.lst (List.replicate n v))) (nw H) d v := (iv.same (same_new hq)).flat' hd
  exact Ins.of_get (by simp) fun i e w h1 h2 => by
   rw [List.getElem?_replicate] at h1 h2
   split at h1
   · cases h1
     split at h2
     · cases h2; exact iv'
     · contradiction
   · cases h1⟩⟩
end
section
variable {X : Cx} {F : Fn} {ρ : Rho} {Q : EndD} {rest : List Stmt} {e : Expr} {pos : Pos}
theorem sd_pairN (k l : Nat) {x y : Str} {px py pt : Pos} {kt : Nat} {d1 d2 : D} (he : E X true (view true false ρ) e (.tup [d1, d2])) (hr : SD X F rest ((ρ.set k (some (.pl true d1))).set l (some (.pl true d2))) Q) (hρ : k < ρ.length ∧ l < ρ.length)
 (hN : X.N.Nodup) (hx : X.N[k]? = some x := by rfl) (hy : X.N[l]? = some y := by rfl) (hxl : Loc X.env.scope x := by first | exact Or.inl rfl | exact Or.inr rfl) (hyl : Loc X.env.scope y := by first | exact Or.inl rfl | exact Or.inr rfl)
 (hf : X.fn x = true ∨ X.env.scope.names.lookup x = some .local := by first | exact .inl rfl | exact .inr rfl) (hf' : X.fn y = true ∨ X.env.scope.names.lookup y = some .local := by first | exact .inl rfl | exact .inr rfl) (hc : X.calm = true := by rfl)
 (hes : (assignEach [.Name x px, .Name y py] X.env).map (·.2) = [assign (.Name x px) X.env, assign (.Name y py) X.env] := by rfl) (hes2 : (assignEach [.Name y py] X.env).map (·.2) = [assign (.Name y py) X.env] := by rfl)
 (hen : (assignEach [.Name x px, .Name y py] X.env).length = 2 := by rfl) (hst : (assignEach [.Name x px, .Name y py] X.env).findIdx? (·.1) = none := by rfl)
 (hs : swapsWithSole [.Tuple [.Name x px, .Name y py] kt pt] e pos.line X.env = pure false := by rfl) (hw : swappedStores [.Tuple [.Name x px, .Name y py] kt pt] e X.env = pure none := by rfl)
 (h1 : (assignEach [.Tuple [.Name x px, .Name y py] kt pt] X.env).map (·.2) = [assign (.Tuple [.Name x px, .Name y py] kt pt) X.env] := by rfl) :
 SD X F (.Assign [.Tuple [.Name x px, .Name y py] kt pt] e pos :: rest) ρ Q := by
 refine sd_then (PS.mono (ps_asg he (pg_tup hc (pgs_cons (pg_name hN hx hxl hf) (pgs_cons (pg_name hN hy hyl hf') pgs_nil (by rw [hes2]; rfl)) (by rw [hes, hes2])) hen hst) hs hw h1) ?_) hr
 rintro Q' σ H ⟨hv, hρ', A, hl, S, f⟩
 refine ⟨_, vz_open S true false, S.env hl true false, fun v H1 s1 i1 => ?_⟩
 have i0 : In X.K H1 (zn F (Owned A) true) (.tup [d1, d2]) v := In.up (zn_open S true) i1
 obtain ⟨a, xs, rfl, t, j⟩ := in_tupS i0
 obtain ⟨v1, r1, rfl, i1, j1⟩ := ins_cons.mp j
 obtain ⟨v2, r2, rfl, i2, j2⟩ := ins_cons.mp j1
 cases ins_nil.mp j2
 refine ⟨a, _, rfl, t, rfl, v1, _, rfl, v2, _, rfl, rfl, f.nx _ _ ?_⟩
 exact put_pl (by simp [hl]) (put_plA (fr := true) hl S hρ.1 s1 i1) (by simpa using hρ.2) (Same.refl _) (In.carry zn_drop i2)
end
def tameB (x : Nat) : Bool := decide (x ≠ 32) && decide (lo1 x = x) && decide (lo1 (up1 x) = x) && decide (x < 128) && decide (up1 x < 128)
def badOk (t : List Nat) : Bool := decide (t ≠ []) && t.all tameB && decide (t.length <= 100) && decide (t ≠ [40]) && decide (t ≠ [124]) && decide (t ≠ [41]) && (partT t).isNone
structure BadTok (t : List Nat) : Prop where
 fn : fine t
 sh : t.length <= 100
 no : t ≠ [40] ∧ t ≠ [124] ∧ t ≠ [41] ∧ partT t = none
theorem fine1 {c : Nat} (h : tameB c = true) : fine [c] ∧ [c].length <= 100 := by
 unfold tameB at h
 simp only [Bool.and_eq_true, decide_eq_true_eq] at h
 obtain ⟨⟨⟨⟨a1, a2⟩, a3⟩, a4⟩, a5⟩ := h
 exact ⟨⟨by simp, fun x hx => by rw [List.mem_singleton.mp hx]; exact ⟨a1, a2, a3, a4, a5⟩⟩, by simp⟩
end Y
namespace Y
open PySem PySem.Spec PyProof.Rows L2
open PySem.W (findObj findIn InstAt)
variable [Tabs]
section
variable {X : Cx} {ρ : List (Option D)} {m m1 m2 : Bool} {a b : Expr} {es : List Expr} {ds ds' : List D} {pos : Pos}
theorem es_lstN (h : ESA X ρ es ds) (f : flats ds = true) (hz : ds.length <= 1000) : ES X true ρ (.List es pos) (.lst ds) := ⟨e_lstN h.ok f hz⟩
end
section
variable {X : Cx} {F : Fn} {ρ : Rho} {Q : EndD} {rest : List Stmt} {e : Expr} {pos p : Pos}
theorem sds_setN (i : Nat) {x : Str} {d : D} (he : ES X true (view true false ρ) e d) (hr : SDS X F rest (ρ.set i (some (.pl true d))) Q) (hN : X.N.Nodup) (hi : X.N[i]? = some x)
 (hx : Loc X.env.scope x) (hρ : i < ρ.length) (hs : swapsWith e (some (.Name x p)) pos.line X.env = pure false) (hf : X.fn x = true ∨ X.env.scope.names.lookup x = some .local) :
 SDS X F (.Assign [.Name x p] e pos :: rest) ρ Q := ⟨sd_setN i he.ok hr.ok hN hi hx hρ hs hf⟩
end
end Y
namespace Y
open PySem PySem.Spec PyProof.Rows L2
variable [Tabs]
mutual
theorem sh_P : ∀ {p : Pt} {k : Nat}, pW k p -> ∀ t ∈ kP p, t.length <= 100
 | .word w, k, h, t, ht => by
  unfold pW at h; unfold kP tP at ht
  simp at ht; subst ht
  have := h.2.2
  omega
 | .beg w, k, h, t, ht => by
  unfold pW at h; unfold kP tP at ht
  simp at ht; subst ht
  have := h.2.2
  rw [List.length_append, List.length_singleton]
  omega
 | .fin w, k, h, t, ht => by
  unfold pW at h; unfold kP tP at ht
  simp at ht; subst ht
  have := h.2.2
  rw [List.length_cons]
  omega
 | .any, k, h, t, ht => by
  unfold kP tP at ht
  simp at ht; subst ht
  simp
 | .upto n, k, h, t, ht => by
  unfold kP tP at ht
  simp at ht; subst ht
  simp
 | .inn q, k, h, t, ht => by
  unfold pW at h
  obtain ⟨j, _, hn, hw⟩ := h
  unfold kP at ht
  rcases List.mem_cons.mp ht with rfl | ht
  · simp
  · rcases List.mem_append.mp ht with ht | ht
    · exact sh_Q hw t ht
    · simp at ht; subst ht
      simp
theorem sh_R : ∀ {ps : List Pt} {k : Nat}, rWs k ps -> ∀ t ∈ kR ps, t.length <= 100
 | [], k, _, t, ht => by simp [kR] at ht
 | p :: ps, k, h, t, ht => by
  unfold rWs at h
  unfold kR at ht
  rcases List.mem_append.mp ht with ht | ht
  · exact sh_P h.1 t ht
  · exact sh_R h.2 t ht
theorem sh_Q : ∀ {q : List (List Pt)} {k : Nat}, qWs k q -> ∀ t ∈ kQ q, t.length <= 100
 | [], k, _, t, ht => by simp [kQ] at ht
 | [ps], k, h, t, ht => by
  unfold qWs at h
  unfold kQ at ht
  exact sh_R h.1.2 t ht
 | ps :: p2 :: q, k, h, t, ht => by
  unfold qWs at h
  unfold kQ at ht
  rcases List.mem_append.mp ht with ht | ht
  · exact sh_R h.1.2 t ht
  · rcases List.mem_cons.mp ht with rfl | ht
    · simp
    · exact sh_Q h.2 t ht
end
structure ESF (X : Cx) (ρ : List (Option D)) (es : List Expr) (ds : List D) : Prop where
 ok : EAF X ρ es ds
section
variable {X : Cx} {ρ : List (Option D)} {m1 : Bool} {e : Expr} {es : List Expr} {d : D} {ds : List D} {pos : Pos}
theorem esf_nil : ESF X ρ [] [] := ⟨eaf_nil⟩
theorem esf_cons (ha : ES X true ρ e d) (hr : ESF X ρ es ds) (hs : starEach (e :: es) X.env = (false, eval e X.env) :: starEach es X.env) : ESF X ρ (e :: es) (d :: ds) := ⟨eaf_cons ha.ok hr.ok hs⟩
theorem es_tupF {x1} (h : ESF X ρ es ds) (hz : ds.length <= 1000) : ES X true ρ (.Tuple es x1 pos) (.tup ds) := ⟨e_tupF h.ok hz⟩
end
def errIB (K : PySem.W.Frag) (C b fI : Addr) : Bool :=
 (match PySem.W.clsIn K C with | some cd => cd.mro == .ref C :: .ref b :: valB && cd.hasDict | none => false) && PySem.W.findIn K (.ref C) "at" == some none && PySem.W.findIn K (.ref C) "__setattr__" == some (some (.builtin "object.__setattr__")) && excGB K C &&
 PySem.W.typeIn K (.ref C) == some (.type "type") && PySem.W.mroIn K C (.ref C) == some true && PySem.W.keepIn K (.ref C) && PySem.W.findIn K (.ref C) "__init__" == some (some (.ref fI)) && PySem.W.typeIn K (.ref fI) == some (.type "function")
omit [Tabs] in
theorem erri_mk {K : PySem.W.Frag} {C N b fI : Addr} {bs sub : List Value} {nm q : Str} {hdct ab : Bool} {sn : List Str} {col : Option Bool} {dd : Option Addr} {k0 k1 k2 k3 k5 : Option Value} {x qual : Str} {s : Stmt} {fd : FuncData} {p1 p2 p3 p4 : Pos}
 (lk : K.lookup C = some (excClassObj nm q C N bs (.ref b :: valB) hdct sn sub ab col dd k0 k1 k2 k3 k5 "ValueError.__new__")) (ht : PySem.W.tailIn K valB (.ref b :: valB) = true) (h : errIB K C b fI = true) (F : Fun K x qual s fI fd)
 (hs : FnScope ["self", "at"] ["self", "at"] (defScope s)) (hbd : defBody s = [.Assign [.Attribute (.Name "self" p1) "at" p2] (.Name "at" p3) p4]) (hB : Binds K fd ["self", "at"] []) (h7 : (defScope s).names.lookup ("self" : Str) = some .local) (h8 : (defScope s).names.lookup ("at" : Str) = some .local) : ErrI K C b := by
 unfold errIB at h
 simp only [Bool.and_eq_true, beq_iff_eq] at h
 obtain ⟨⟨⟨⟨⟨⟨⟨⟨g1, g2⟩, g3⟩, g4⟩, g5⟩, g6⟩, g7⟩, g8⟩, g9⟩ := h
 obtain ⟨oc, od, kV, doc, pm, an, cdv, ct, osl, rfl, l, hcd⟩ := F.ex
 refine ⟨⟨nm, q, N, bs, hdct, sn, sub, ab, col, dd, k0, k1, k2, k3, k5, lk⟩, ht, ?_, g2, g3, .of g4, g5, g6, g7, ⟨fI, x, qual, defArgs s, defScope s, .none, kV, doc, pm, cdv, ct, oc, an, od, osl, p1, p2, p3, p4, g8, g9, ?_, hcd, hs, ?_, h7, h8⟩⟩
 · cases e : PySem.W.clsIn K C with
   | none => rw [e] at g1; cases g1
   | some cd =>
    rw [e] at g1
    simp only [Bool.and_eq_true, beq_iff_eq] at g1
    exact ⟨cd, rfl, g1.1, g1.2⟩
 · rw [<- hbd]; exact l
 · rw [<- hbd]; exact hB
section
variable {X : Cx} {F : Fn} {ρ : Rho} {Q : EndD} {rest : List Stmt} {e : Expr} {d : D} {pos p : Pos}
theorem sd_retM (i : Nat) {x : Str} (h : ρ[i]? = some (some (.tr d))) (hq : ∀ v, Q.rtM (ρ.set i (some (.rf v))) d) (hN : X.N[i]? = some x := by rfl) (hv : Vis X.env.scope x := by first | exact Or.inl rfl | exact Or.inr (Or.inl rfl) | exact Or.inr (Or.inr rfl))
 (hd : (x == ("__debug__" : Str)) = false := by decide) (hcd : (x == ("__classdict__" : Str)) = false := by decide) : SD X F (.Return (some (.Name x p)) pos :: rest) ρ Q :=
 sd_seq (N := fun _ => False) (PS.mono (ps_ret (pe_var hN hv hd hcd)) fun Q' σ H z0 => el33 z0 fun hv hρ A hl S f => by
  obtain ⟨v, e1, tv⟩ := S.tr hl h
  have hi : i < σ.length := (List.getElem?_eq_some_iff.mp e1).1
  have S2 := S.put (i := i) (v := v) (sl := .rf v) (l := []) (H2 := H) (by rw [List.length_append]; omega) (by rw [List.length_append]; omega) (Same.refl H) List.nodup_nil (fun a ha => by simp at ha) rfl
  rw [set_self (by rw [List.getElem?_append_left hi]; exact e1), set_app (by omega)] at S2
  refine ⟨v, e1, f.rtM σ H _ (putA A i []) v d (A i) (by simp [hl]) S2 tv (S.nd i) (S.new i) (fun k a ha z => ?_) (hq v)⟩
  by_cases q : k = i
  · rw [q, putA_same] at ha; cases ha
  · rw [putA_ne q] at ha; exact q (S.one k i a ha z)) fun _ n => n.elim
theorem sd_retMN (he : ET X (view true false ρ) e d) (hq : Q.rtM ρ d) : SD X F (.Return (some e) pos :: rest) ρ Q :=
 sd_seq (N := fun _ => False) (PS.mono (ps_ret he) fun Q' σ H z0 => el33 z0 fun hv hρ A hl S f => ⟨_, vz_open S true false, S.env hl true false, fun v H1 as s1 t1 n1 w1 =>
  f.rtM σ H1 ρ A v d as hl (S.grow s1) t1 n1 (fun a ha => S.same.free (w1 a ha)) (fun k a ha z => by
   obtain ⟨o, q⟩ := S.lst k a ha
   rw [w1 a z] at q
   cases q) hq⟩) fun _ n => n.elim
end
def spM2 (K : PySem.W.Frag) (ds : List D) (dO dQ dO' d' : D) : Sp := fun vs H Q _ => ∃ (Z : Zone) (xs : List V) (u v : V) (as bs : List Addr), vs = xs ++ [u, v] ∧ Z.Open H ∧ Ins K H Z ds xs ∧ Tr K H dO u as ∧ Tr K H dQ v bs ∧ (as ++ bs).Nodup ∧
 ∀ H' w as' bs', Same (rmH H (as ++ bs)) H' -> Tr K H' dO' u as' -> Tr K H' d' w bs' -> (as' ++ bs').Nodup -> (∀ a ∈ as' ++ bs', rmH H (as ++ bs) a = none) -> Q w H'
def startM2 (N : List Str) (ds : List D) (u : V) (dO dQ : D) : Rho := ((startD N ds).set ds.length (some (.trl u dO))).set (ds.length + 1) (some (.tr dQ))
theorem startM2_in {K : PySem.W.Frag} {Z : Zone} {H : Hp} {N : List Str} {ds : List D} {xs : List V} {u v : V} {dO dQ : D} {as bs : List Addr} (oz : Z.Open H) (h : Ins K H Z ds xs) (fl : flats ds = true) (hN : ds.length + 1 < N.length) (t : Tr K H dO u as) (t2 : Tr K H dQ v bs) (nd : (as ++ bs).Nodup) :
 StIn K ⟨true, ⟨Z.m, fun a => Z.S a ∨ a ∈ as ++ bs⟩, rmH H (as ++ bs)⟩ H (L2.start N (xs ++ [u, v]) ++ []) (startM2 N ds u dO dQ ++ []) (putA (putA (fun _ => []) ds.length as) (ds.length + 1) bs) := by
 have hl := h.length
 have lsts : ∀ a ∈ as ++ bs, ∃ ys, H a = some (.lst ys) := fun a ha => by
  rcases List.mem_append.mp ha with ha | ha
  · exact t.lsts a ha
  · exact t2.lsts a ha
 have opn : (⟨Z.m, fun a => Z.S a ∨ a ∈ as ++ bs⟩ : Zone).Open (rmH H (as ++ bs)) := ⟨fun a q => by
  rcases rm_none q with z | z
  · exact .inr z
  · exact .inl (oz.op a z), rm_tabs lsts oz.tb⟩
 obtain ⟨n1, n2, dj⟩ := List.nodup_append.mp nd
 have own : ∀ {i : Nat} {a : Addr}, a ∈ putA (putA (fun _ => []) ds.length as) (ds.length + 1) bs i -> (i = ds.length ∧ a ∈ as) ∨ (i = ds.length + 1 ∧ a ∈ bs) := fun {i a} ha => by
  by_cases q : i = ds.length + 1
  · rw [q, putA_same] at ha; exact .inr ⟨q, ha⟩
  · rw [putA_ne q] at ha
    by_cases q2 : i = ds.length
    · rw [q2, putA_same] at ha; exact .inl ⟨q2, ha⟩
    · rw [putA_ne q2] at ha; cases ha
 have mem : ∀ {i : Nat} {a : Addr}, a ∈ putA (putA (fun _ => []) ds.length as) (ds.length + 1) bs i -> a ∈ as ++ bs := fun {i a} ha => by
  rcases own ha with ⟨_, z⟩ | ⟨_, z⟩
  · exact List.mem_append_left _ z
  · exact List.mem_append_right _ z
 have e1 : (L2.start N xs).length = N.length := by simp [L2.start]; omega
 have e2 : (startD N ds).length = N.length := by simp [startD]; omega
 refine ⟨same_un, opn, fun i => ?_, fun i j a ha hb => ?_, fun i a ha => rm_in (mem ha), fun i a ha => ?_, fun i sl e => ?_⟩
 · by_cases q : i = ds.length + 1
   · rw [q, putA_same]; exact n2
   · rw [putA_ne q]
     by_cases q2 : i = ds.length
     · rw [q2, putA_same]; exact n1
     · rw [putA_ne q2]; exact List.nodup_nil
 · rcases own ha with ⟨z1, y1⟩ | ⟨z1, y1⟩ <;> rcases own hb with ⟨z2, y2⟩ | ⟨z2, y2⟩
   · omega
   · exact absurd rfl (dj a y1 a y2)
   · exact absurd rfl (dj a y2 a y1)
   · omega
 · obtain ⟨ys, z⟩ := lsts a (mem ha)
   exact ⟨.l ys, z⟩
 · rw [List.append_nil] at e ⊢
   have s0 : L2.start N (xs ++ [u, v]) = ((L2.start N xs).set ds.length (some u)).set (ds.length + 1) (some v) := by
    rw [show xs ++ [u, v] = (xs ++ [u]) ++ [v] by simp, start_put' (by rw [List.length_append]; simp; omega), start_put' (by omega), hl]
    simp
   rw [s0]
   unfold startM2 at e
   by_cases q : i = ds.length + 1
   · subst q
     rw [List.getElem?_set_self (by rw [List.length_set]; omega)] at e
     cases e
     exact ⟨v, by rw [List.getElem?_set_self (by rw [List.length_set]; omega)], by rw [putA_same]; exact t2⟩
   · rw [List.getElem?_set_ne (Ne.symm q)] at e ⊢
     rw [putA_ne q]
     by_cases q2 : i = ds.length
     · subst q2
       rw [List.getElem?_set_self (by omega)] at e
       cases e
       exact ⟨u, by rw [List.getElem?_set_self (by omega)], rfl, by rw [putA_same]; exact t⟩
     · rw [List.getElem?_set_ne (Ne.symm q2)] at e ⊢
       have S0 := start_in (m := true) (N := N) oz h
       obtain ⟨w, a, b⟩ := S0.at' i sl (by rw [List.append_nil]; exact e)
       rw [List.append_nil] at a
       refine ⟨w, a, ?_⟩
       unfold startD at e
       by_cases hi : i < ds.length
       · rw [List.getElem?_append_left (by simpa using hi), List.getElem?_map] at e
         have hd : ds[i]? = some ds[i] := by simp [hi]
         rw [hd] at e
         have e' : some (Slot.pl false ds[i]) = some sl := by simpa using e
         cases e'
         have b' : In K H (zn ⟨true, Z, H⟩ (Owned fun _ => []) false) ds[i] w := b
         exact In.flat' (flats_mem fl _ (List.getElem_mem hi)) b'
       · rw [List.getElem?_append_right (by simpa using hi), List.getElem?_replicate] at e
         split at e <;> cases e
section
variable {P : Program} {w : World} {K : PySem.W.Frag} {mg : Str -> Option Value} {base : Heap}
theorem fnM2 {x qual : Str} {st : Stmt} {f : Addr} {fd : FuncData} {N ps : List Str} {k : Nat} {ds : List D} {dO dQ dO' d' : D} (Fx : Fun K x qual st f fd) (S : FnScope N ps (defScope st)) (hlen : ds.length + 2 = ps.length) (hN : ds.length + 1 < N.length) (fl : flats ds = true)
 (body : ∀ (cdv : Value) (A : Around) (outer : List Env) (s : Shared) (H : Hp) (E : XK) (F : Fn) (u : V), Room k (A.deeper (envOfC qual (defScope st) s.heap.objs.size f cdv)) ->
  SD (cxOf CX0 P w K mg base N qual (defScope st) f cdv A outer s H E).nox F (defBody st) (startM2 N ds u dO dQ) { nx := fun _ => False, rt := fun _ => False, rtM := fun r d => r[ds.length]? = some (some (.trl u dO')) ∧ d = d' }) : FnOk P w K mg base CX0 (k + 1) f fd ps (spM2 K ds dO dQ dO' d') := by
 refine Fx.ok S (fun vs H Q E ⟨Z, xs, u, v, as, bs, e, oz, i, t, t2, nd, kk⟩ => ?_) (fun cdv A outer s H vs Q E hr ⟨Z, xs, u, v, as, bs, e, oz, i, t, t2, nd, kk⟩ => ?_)
 · rw [e, List.length_append, <- i.length]; exact hlen
 · subst e
   have hl := i.length
   refine ⟨_, body cdv A outer s H E _ u hr, [], [], _, ?_, startM2_in oz i fl hN t t2 nd, ⟨rfl, fun σ H' ⟨r, A', hl', S', e⟩ => e.elim, fun σ H' ⟨r, A', hl, S', e⟩ => e.elim, fun σ H' ⟨r, A', hl, S', e⟩ => e.elim, fun _ _ _ _ _ e => e.elim, fun _ _ _ _ _ _ _ _ e => e.elim, fun σ H' r A' y d as' hl' S' ty ndy nwy djy e => ?_⟩⟩
   · simp [L2.start, startM2, startD]; omega
   · obtain ⟨e, rfl⟩ := e
     obtain ⟨u', e1, cv, tu⟩ := S'.trG (tree_trl u) hl' e
     subst cv
     refine kk H' y (A' ds.length) as' S'.same tu ty (List.nodup_append.mpr ⟨S'.nd _, ndy, fun a ha b hb z => djy _ a ha (z ▸ hb)⟩) fun a ha => ?_
     rcases List.mem_append.mp ha with ha | ha
     · exact S'.new _ a ha
     · exact nwy a ha
end
section
variable {X : Cx} {F : Fn} {ρ : Rho} {Q : EndD} {rest : List Stmt} {e : Expr} {dO dQ dO' d' de : D} {pos p po py py' cp : Pos} {m : Bool}
theorem sd_callM2 (i j : Nat) {f : Addr} {fd : FuncData} {p1 p2 p3 x o y : Str} {k : Nat} (Fk : FnOk X.prog X.w X.K X.mg X.base CX0 k f fd [p1, p2, p3] (spM2 X.K [de] dO dQ dO' d')) (hb : Binds X.K fd [p1, p2, p3] []) (hk : PySem.W.keepIn X.K (.ref f) = true) (hmg : X.mg x = some (.ref f)) (hr0 : Room k X.A) (hij : i ≠ j)
 (hi : ρ[i]? = some (some (.tr dO))) (hj : ρ[j]? = some (some (.tr dQ))) (he : E X m (view true false ρ) e de) (hr : SD X F rest ((ρ.set i (some (.tr dO'))).set j (some (.tr d'))) Q) (hNd : X.N.Nodup) (hN : X.N[i]? = some o := by rfl) (hNj : X.N[j]? = some y := by rfl)
 (hv : Vis X.env.scope o := by first | exact Or.inl rfl | exact Or.inr (Or.inl rfl) | exact Or.inr (Or.inr rfl)) (hvj : Vis X.env.scope y := by first | exact Or.inl rfl | exact Or.inr (Or.inl rfl) | exact Or.inr (Or.inr rfl)) (hyl : Loc X.env.scope y := by first | exact Or.inl rfl | exact Or.inr rfl)
 (hd : (o == ("__debug__" : Str)) = false := by decide) (hcd : (o == ("__classdict__" : Str)) = false := by decide) (hd2 : (y == ("__debug__" : Str)) = false := by decide) (hcd2 : (y == ("__classdict__" : Str)) = false := by decide) (hg : Gl X x := by rfl) (hdb : (x == ("__debug__" : Str)) = false := by decide)
 (h1 : starEach [e, .Name o po, .Name y py] X.env = (false, eval e X.env) :: starEach [.Name o po, .Name y py] X.env := by rfl) (h2 : starEach [.Name o po, .Name y py] X.env = (false, eval (.Name o po) X.env) :: starEach [.Name y py] X.env := by rfl) (h3 : starEach [.Name y py] X.env = (false, eval (.Name y py) X.env) :: starEach [] X.env := by rfl)
 (hpl : (backTo cp (starEach [.Name o po, .Name y py] X.env)).any (·.1) = false := by rfl) (hs : swapsWith (.Call (.Name x p) [e, .Name o po, .Name y py] [] cp) (some (.Name y py')) pos.line X.env = pure false := by rfl) (hf : X.fn y = true ∨ X.env.scope.names.lookup y = some .local := by first | exact .inl rfl | exact .inr rfl) :
 SD X F (.Assign [.Name y py'] (.Call (.Name x p) [e, .Name o po, .Name y py] [] cp) pos :: rest) ρ Q := by
 refine sd_then (PS.mono (ps_set hNd hNj hyl (pe_call Fk hr0 hg hmg hk hb .nil pass0 (pa_cons he (pa_cons (pe_var hN hv hd hcd) (pa_cons (pe_var hNj hvj hd2 hcd2) pa_nil h3) h2) h1) hdb h1 hpl) hs hf) ?_) hr
 rintro Q' σ H ⟨hv, hρ, A, hl, S, ff⟩
 obtain ⟨u, e1, tu⟩ := S.tr hl hi
 obtain ⟨v, e2, tv⟩ := S.tr hl hj
 have il : i < σ.length := (List.getElem?_eq_some_iff.mp e1).1
 have jl : j < σ.length := (List.getElem?_eq_some_iff.mp e2).1
 refine ⟨_, vz_open S true false, S.env hl true false, fun xe H1 s1 i1 => ⟨u, e1, v, e2, ?_⟩⟩
 have t1 := tu.same s1
 have t2 := tv.same s1
 have nd : (A i ++ A j).Nodup := List.nodup_append.mpr ⟨S.nd i, S.nd j, fun a ha b hb z => hij (S.one i j a ha (z ▸ hb))⟩
 refine ⟨_, [xe], u, v, A i, A j, rfl, (vz_open S true false).same s1, Ins.one (i1.plain (vz_open S true false)), t1, t2, nd, fun H' w as' bs' sm to' tw nd' nw' => ff.nx _ _ ?_⟩
 obtain ⟨n1, n2, dj⟩ := List.nodup_append.mp nd'
 have hx := S.re2 (i := i) (j := j) (v := u) (w := w) (si := some (.tr dO')) (sj := some (.tr d')) (l1 := as') (l2 := bs') (H2 := H') hij (by rw [List.length_append]; omega) (by rw [List.length_append]; omega) (by rw [List.length_append]; omega) (by rw [List.length_append]; omega)
  ((same_rm (S.same.trans s1) (fun a ha => ?_) (fun a ha => ?_)).trans sm) (fun b o e n hb hb2 => sm.get b o (by rw [rm_out (fun z => (List.mem_append.mp z).elim hb hb2)]; exact s1.get b o e n) n) n1 n2 (fun a ha z => dj a ha a z rfl) (fun a ha => ?_) (fun sl O e => by cases e; exact to') (fun sl O e => by cases e; exact tw)
 · obtain ⟨A', key⟩ := hx
   refine ⟨_, A', by simp [hl], ?_, rfl⟩
   have z1 : (σ ++ hv).set i (some u) = σ ++ hv := set_self (by rw [List.getElem?_append_left il]; exact e1)
   rw [z1, set_app (by omega), set_app (by omega), set_app (by rw [List.length_set]; omega)] at key
   exact key
 · rcases List.mem_append.mp ha with ha | ha
   · exact S.new i a ha
   · exact S.new j a ha
 · rcases List.mem_append.mp ha with ha | ha
   · exact t1.lsts a ha
   · exact t2.lsts a ha
 · refine ⟨?_, ?_⟩
   · rcases rm_none (nw' a (List.mem_append.mpr ha)) with z | z
     · rcases List.mem_append.mp z with z | z
       · exact .inl z
       · exact .inr (.inl z)
     · exact .inr (.inr (s1.free z))
   · rcases ha with ha | ha
     · obtain ⟨ys, q⟩ := to'.lsts a ha
       exact ⟨.l ys, q⟩
     · obtain ⟨ys, q⟩ := tw.lsts a ha
       exact ⟨.l ys, q⟩
end
section
variable {X : Cx} {ρ : List (Option D)} {m1 m2 : Bool} {a b : Expr} {pos : Pos} {d : D}
theorem t_isNo (ha : E X m1 ρ a .non) (hb : E X m2 ρ b .non) : T X ρ (.Compare a [.Is] [b] pos) true :=
 t_cmp op_isN ha hb (fun x y H Z Q _ i1 i2 k => ⟨in_non.mp i2, by
  cases in_non.mp i1
  exact k _ (Same.refl H)⟩) (nobehind _ (by decide) (by decide))
theorem t_isNL {ds : List D} (ha : E X m1 ρ a (.lst ds)) (hb : E X m2 ρ b .non) : T X ρ (.Compare a [.Is] [b] pos) false :=
 t_cmp op_isN ha hb (fun x y H Z Q _ i1 i2 k => ⟨in_non.mp i2, by
  obtain ⟨p, xs, rfl, _⟩ := in_lst.mp i1
  exact k _ (Same.refl H)⟩) (nobehind _ (by decide) (by decide))
theorem t_isNT {ds : List D} (ha : E X m1 ρ a (.tup ds)) (hb : E X m2 ρ b .non) : T X ρ (.Compare a [.Is] [b] pos) false :=
 t_cmp op_isN ha hb (fun x y H Z Q _ i1 i2 k => ⟨in_non.mp i2, by
  obtain ⟨p, xs, rfl, _⟩ := in_tup.mp i1
  exact k _ (Same.refl H)⟩) (nobehind _ (by decide) (by decide))
end
abbrev Tk := List Nat × Option Pt
def optD : Option Pt -> D
 | none => .non
 | some p => ptD p
def tkD (x : Tk) : D := .tup [.str (mkS x.1), optD x.2]
def tksD (l : List Tk) : D := .lst (l.map tkD)
structure TkOk (x : Tk) : Prop where
 fn : fine x.1
 sh : x.1.length <= 100
 is : (x.2 = none ∧ (x.1 = [40] ∨ x.1 = [124] ∨ x.1 = [41] ∨ (x.1 ≠ [40] ∧ x.1 ≠ [124] ∧ x.1 ≠ [41] ∧ partT x.1 = none))) ∨ ∃ p, x.2 = some p ∧ pW 0 p ∧ (∀ q, p ≠ .inn q) ∧ x.1 = tP p
theorem tk_cases {x : Tk} (h : TkOk x) (st : List (List (List Pt))) : Can st x.1 ∨ Bad st x.1 := by
 rcases h.is with ⟨_, e | e | e | e⟩ | ⟨p, _, hp, hn, e⟩
 · by_cases q : st.length <= 20
   · exact .inl (.inl ⟨e, q⟩)
   · exact .inr (.inl ⟨e, by omega⟩)
 · by_cases q : lastR (st.getLastD []) = []
   · exact .inr (.inr (.inl ⟨e, q⟩))
   · exact .inl (.inr (.inl ⟨e, q⟩))
 · by_cases q : lastR (st.getLastD []) = []
   · exact .inr (.inr (.inr (.inl ⟨e, .inl q⟩)))
   · by_cases q2 : 2 <= st.length
     · exact .inl (.inr (.inr (.inl ⟨e, q, q2⟩)))
     · exact .inr (.inr (.inr (.inl ⟨e, .inr (by omega)⟩)))
 · exact .inr (.inr (.inr (.inr e)))
 · exact .inl (.inr (.inr (.inr ⟨p, 0, e, hp, hn⟩)))
abbrev tx (l : List Tk) : List (List Nat) := l.map (·.1)
theorem run_cases : ∀ {l : List Tk} (st : List (List (List Pt))), (∀ x ∈ l, TkOk x) -> (∃ k t, Good st ((tx l).take k) ∧ (tx l)[k]? = some t ∧ Bad (readT st ((tx l).take k)) t) ∨ Good st (tx l)
 | [], st, _ => .inr trivial
 | x :: l, st, h => by
  rcases tk_cases (h x (by simp)) st with c | b
  · rcases run_cases (l := l) (takeT st x.1) fun y hy => h y (List.mem_cons_of_mem _ hy) with ⟨k, t, g, e, b⟩ | g
    · exact .inl ⟨k + 1, t, ⟨c, g⟩, e, b⟩
    · exact .inr ⟨c, g⟩
  · exact .inl ⟨0, x.1, trivial, rfl, b⟩
theorem kQ_snoc : ∀ (q : List (List Pt)) (r : List Pt), kQ (q ++ [r]) = q.flatMap (fun ps => kR ps ++ [[124]]) ++ kR r
 | [], r => by simp [kQ]
 | a :: q, r => by
  have ih := kQ_snoc q r
  rw [List.cons_append]
  cases h : q ++ [r] with
  | nil => simp at h
  | cons b c =>
   unfold kQ
   rw [<- h, ih]
   simp
theorem kR_snoc (r : List Pt) (p : Pt) : kR (r ++ [p]) = kR r ++ kP p := by rw [kR_flat, kR_flat, List.flatMap_append]; simp
theorem kQ_add {q : List (List Pt)} (h : q ≠ []) (p : Pt) : kQ (addL q p) = kQ q ++ kP p := by
 obtain ⟨s, r, rfl⟩ : ∃ s r, q = s ++ [r] := ⟨_, _, (List.dropLast_concat_getLast h).symm⟩
 rw [addL_snoc, kQ_snoc, kQ_snoc, kR_snoc, List.append_assoc]
theorem kQ_row {q : List (List Pt)} (h : q ≠ []) : kQ (q ++ [[]]) = kQ q ++ [[124]] := by
 obtain ⟨s, r, rfl⟩ : ∃ s r, q = s ++ [r] := ⟨_, _, (List.dropLast_concat_getLast h).symm⟩
 rw [kQ_snoc, kQ_snoc]
 simp [kR]
def kS (st : List (List (List Pt))) : List (List Nat) := st.flatMap fun q => [40] :: kQ q
theorem kS_snoc (s : List (List (List Pt))) (q : List (List Pt)) : kS (s ++ [q]) = kS s ++ [40] :: kQ q := by unfold kS; rw [List.flatMap_append]; simp
theorem kP_one {p : Pt} (n : ∀ q, p ≠ .inn q) : kP p = [tP p] := by
 cases p with
 | inn q => exact absurd rfl (n q)
 | _ => rfl
theorem kS_step {n : Nat} {st : List (List (List Pt))} {t : List Nat} (h : Shp n st) (c : Can st t) : kS (takeT st t) = kS st ++ [t] := by
 obtain ⟨s, q, rfl⟩ : ∃ s q, st = s ++ [q] := ⟨_, _, (List.dropLast_concat_getLast h.ne).symm⟩
 have hq := h.rows q (by simp)
 rcases c with ⟨rfl, hc⟩ | ⟨rfl, hc⟩ | ⟨rfl, hc, hc2⟩ | ⟨p, k, rfl, hp, hn⟩
 · have e : takeT (s ++ [q]) [40] = (s ++ [q]) ++ [[[]]] := by simp [takeT]
   rw [e, kS_snoc]
   rfl
 · have e : takeT (s ++ [q]) [124] = s ++ [q ++ [[]]] := by simp [takeT]
   rw [e, kS_snoc, kS_snoc, kQ_row hq]
   simp
 · have hs : s ≠ [] := fun z => by rw [z] at hc2; simp at hc2
   obtain ⟨s', o, rfl⟩ : ∃ s' o, s = s' ++ [o] := ⟨_, _, (List.dropLast_concat_getLast hs).symm⟩
   have e : takeT (s' ++ [o] ++ [q]) [41] = s' ++ [addL o (.inn q)] := by simp [takeT]
   rw [e, kS_snoc, kS_snoc, kS_snoc, kQ_add (h.rows o (by simp)), show kP (.inn q) = [40] :: (kQ q ++ [[41]]) by simp [kP]]
   simp
 · rw [take_one hp hn s q, kS_snoc, kS_snoc, kQ_add hq, kP_one hn]
   simp
theorem kS_run : ∀ {ts : List (List Nat)} {st : List (List (List Pt))} {n : Nat}, Shp n st -> Good st ts -> kS (readT st ts) = kS st ++ ts
 | [], st, n, _, _ => by simp [readT]
 | t :: ts, st, n, h, g => by
  unfold Good at g
  have := kS_run (shp_step h g.1) g.2
  have e : readT st (t :: ts) = readT (takeT st t) ts := rfl
  rw [e, this, kS_step h g.1]
  simp
theorem pW_any {p : Pt} {k : Nat} (h : pW k p) (n : ∀ q, p ≠ .inn q) (l : Nat) : pW l p := by
 cases p with
 | inn q => exact absurd rfl (n q)
 | _ => unfold pW at h ⊢; exact h
def WfS (st : List (List (List Pt))) : Prop := ∀ i q, st[i]? = some q -> ∃ q0 r, q = q0 ++ [r] ∧ qWs (20 - i) q0 ∧ rWs (20 - i) r
theorem wf0 : WfS [[[]]] := fun i q e => by
 cases i with
 | zero => simp at e; subst e; exact ⟨[], [], rfl, by unfold qWs; trivial, by unfold rWs; trivial⟩
 | succ i => simp at e
theorem wf_last {s : List (List (List Pt))} {q q' : List (List Pt)} (h : WfS (s ++ [q])) (hq : ∃ q0 r, q' = q0 ++ [r] ∧ qWs (20 - s.length) q0 ∧ rWs (20 - s.length) r) : WfS (s ++ [q']) := fun i x e => by
 by_cases hi : i < s.length
 · rw [List.getElem?_append_left hi] at e
   exact h i x (by rw [List.getElem?_append_left hi]; exact e)
 · rw [List.getElem?_append_right (by omega)] at e
   cases hz : i - s.length with
   | zero => rw [hz] at e; simp at e; subst e; rw [show i = s.length by omega]; exact hq
   | succ k => rw [hz] at e; simp at e
theorem qWs_snoc {k : Nat} {q0 : List (List Pt)} {r : List Pt} (h1 : qWs k q0) (h2 : rWs k r) (h3 : r ≠ []) : qWs k (q0 ++ [r]) := qWs_mem.mpr fun ps hps => by
 rcases List.mem_append.mp hps with z | z
 · exact qWs_mem.mp h1 ps z
 · rw [List.mem_singleton.mp z]; exact ⟨h3, h2⟩
theorem rWs_snoc {k : Nat} {r : List Pt} {p : Pt} (h1 : rWs k r) (h2 : pW k p) : rWs k (r ++ [p]) := rWs_mem.mpr fun x hx => by
 rcases List.mem_append.mp hx with z | z
 · exact rWs_mem.mp h1 x z
 · rw [List.mem_singleton.mp z]; exact h2
theorem wf_step {n : Nat} {st : List (List (List Pt))} {t : List Nat} (h : Shp n st) (v : Lv st) (w : WfS st) (c : Can st t) : WfS (takeT st t) := by
 obtain ⟨s, q, rfl⟩ : ∃ s q, st = s ++ [q] := ⟨_, _, (List.dropLast_concat_getLast h.ne).symm⟩
 obtain ⟨q0, r, rfl, w1, w2⟩ := w s.length q (by simp)
 have hlen := v.len
 rcases c with ⟨rfl, hc⟩ | ⟨rfl, hc⟩ | ⟨rfl, hc, hc2⟩ | ⟨p, k, rfl, hp, hn⟩
 · have e : takeT (s ++ [q0 ++ [r]]) [40] = (s ++ [q0 ++ [r]]) ++ [[[]]] := by simp [takeT]
   rw [e]
   intro i x e
   by_cases hi : i < (s ++ [q0 ++ [r]]).length
   · rw [List.getElem?_append_left hi] at e; exact w i x e
   · rw [List.getElem?_append_right (by omega)] at e
     cases hz : i - (s ++ [q0 ++ [r]]).length with
     | zero => rw [hz] at e; simp at e; subst e; exact ⟨[], [], rfl, by unfold qWs; trivial, by unfold rWs; trivial⟩
     | succ k => rw [hz] at e; simp at e
 · have e : takeT (s ++ [q0 ++ [r]]) [124] = s ++ [(q0 ++ [r]) ++ [[]]] := by simp [takeT]
   rw [e]
   have hr : r ≠ [] := by simpa [lastR] using hc
   exact wf_last w ⟨_, [], rfl, qWs_snoc w1 w2 hr, by unfold rWs; trivial⟩
 · have hs : s ≠ [] := fun z => by rw [z] at hc2; simp at hc2
   obtain ⟨s', o, rfl⟩ : ∃ s' o, s = s' ++ [o] := ⟨_, _, (List.dropLast_concat_getLast hs).symm⟩
   have e : takeT (s' ++ [o] ++ [q0 ++ [r]]) [41] = s' ++ [addL o (.inn (q0 ++ [r]))] := by simp [takeT]
   rw [e]
   have hr : r ≠ [] := by simpa [lastR] using hc
   obtain ⟨o0, ro, rfl, v1, v2⟩ := w s'.length o (by simp)
   rw [addL_snoc]
   simp only [List.length_append, List.length_singleton] at hlen w1 w2
   have w' : WfS (s' ++ [o0 ++ [ro]]) := fun i x e => w i x (by rw [List.getElem?_append_left (List.getElem?_eq_some_iff.mp e).1]; exact e)
   refine wf_last w' ⟨o0, _, rfl, v1, rWs_snoc v2 ?_⟩
   unfold pW
   exact ⟨20 - (s'.length + 1), by omega, by simp, qWs_snoc w1 w2 hr⟩
 · rw [take_one hp hn s _, addL_snoc]
   exact wf_last w ⟨q0, _, rfl, w1, rWs_snoc w2 (pW_any hp hn _)⟩
theorem wf_run : ∀ {ts : List (List Nat)} {st : List (List (List Pt))} {n : Nat}, Shp n st -> Lv st -> WfS st -> Good st ts -> WfS (readT st ts)
 | [], st, n, _, _, w, _ => by simpa [readT] using w
 | t :: ts, st, n, h, v, w, g => by
  unfold Good at g
  have := wf_run (shp_step h g.1) (lv_step h v g.1) (wf_step h v w g.1) g.2
  simpa [readT] using this
theorem full_is {ts : List (List Nat)} {q : List (List Pt)} (g : Good [[[]]] ts) (e : readT [[[]]] ts = [q]) (hl : lastR q ≠ []) : kQ q = ts ∧ qW 20 q := by
 have h1 := kS_run shp0 g
 have h2 := wf_run shp0 lv0 wf0 g
 rw [e] at h1 h2
 constructor
 · have : ([40] :: kQ q) = [40] :: ts := by simpa [kS, kQ, kR] using h1
   exact (List.cons.inj this).2
 · obtain ⟨q0, r, rfl, w1, w2⟩ := h2 0 q rfl
   rw [lastR_snoc] at hl
   exact ⟨by simp, qWs_snoc w1 w2 hl⟩
theorem cut_m1 {α : Type} (xs : List α) : cut xs (some (-1)) none = xs.drop (xs.length - 1) := by
 unfold cut
 rw [HT.sIx_none]
 have e : HT.sIx xs.length 0 (some (-1)) = xs.length - 1 := by
  unfold HT.sIx
  simp
  omega
 rw [e]
 exact List.take_of_length_le (by simp)
def badK : List Str := ["a_b", "*", "..10", "*a*", "-", "(a", "//", "?a", "a\n", "||"]
theorem badK_all : badK.all (fun x => badOk (cl x)) = true := by decide +kernel
def badC (c : Int) : List Nat := cl (badK.getD (c % 10).toNat "")
theorem bad_of {t : List Nat} (h : badOk t = true) : BadTok t := by
 unfold badOk at h
 simp only [Bool.and_eq_true, decide_eq_true_eq, List.all_eq_true, Option.isNone_iff_eq_none] at h
 obtain ⟨⟨⟨⟨⟨⟨h1, h2⟩, h3⟩, h4⟩, h5⟩, h6⟩, h7⟩ := h
 refine ⟨⟨h1, fun x hx => ?_⟩, h3, h4, h5, h6, h7⟩
 have := h2 x hx
 unfold tameB at this
 simp only [Bool.and_eq_true, decide_eq_true_eq] at this
 obtain ⟨⟨⟨⟨a1, a2⟩, a3⟩, a4⟩, a5⟩ := this
 exact ⟨a1, a2, a3, a4, a5⟩
theorem badC_ok (c : Int) : BadTok (badC c) := by
 have hi : (c % 10).toNat < badK.length := by show (c % 10).toNat < 10; omega
 have hm : badK.getD (c % 10).toNat "" ∈ badK := by
  rw [List.getD_eq_getElem?_getD, List.getElem?_eq_getElem hi]
  exact List.getElem_mem hi
 exact bad_of (List.all_eq_true.mp badK_all _ hm)
theorem single_no (c : Int) : ∀ q, singleP c ≠ .inn q := by
 intro q
 unfold singleP
 split
 · simp
 · split
   · simp
   · split
     · simp
     · split <;> simp
theorem tk_mark {c : Nat} (h : tameB c = true) (hc : c = 40 ∨ c = 124 ∨ c = 41) : TkOk ([c], none) := by
 obtain ⟨f1, f2⟩ := fine1 h
 refine ⟨f1, f2, .inl ⟨rfl, ?_⟩⟩
 rcases hc with rfl | rfl | rfl
 · exact .inl rfl
 · exact .inr (.inl rfl)
 · exact .inr (.inr (.inl rfl))
theorem tk_part {p : Pt} (h : pW 0 p) (n : ∀ q, p ≠ .inn q) : TkOk (tP p, some p) := by
 have hm : tP p ∈ kP p := by rw [kP_one n]; simp
 exact ⟨fine_P h _ hm, sh_P h _ hm, .inr ⟨p, rfl, h, n, rfl⟩⟩
theorem tk_bad {t : List Nat} (h : BadTok t) : TkOk (t, none) := ⟨h.fn, h.sh, .inl ⟨rfl, .inr (.inr (.inr h.no))⟩⟩
def tokK (c : Int) (sp : Bool) : Tk :=
 if (sp && decide (part c 53 30 = 1)) = true then (badC c, none) else if part c 52 12 < 2 then ([40], none) else if part c 52 12 < 4 then ([41], none) else if part c 52 12 = 4 then ([124], none) else (tP (singleP c), some (singleP c))
theorem tokK_ok (c : Int) (sp : Bool) : TkOk (tokK c sp) := by
 unfold tokK
 split
 · exact tk_bad (badC_ok c)
 · split
   · exact tk_mark (by decide +kernel) (.inl rfl)
   · split
     · exact tk_mark (by decide +kernel) (.inr (.inr rfl))
     · split
       · exact tk_mark (by decide +kernel) (.inr (.inl rfl))
       · exact tk_part (single_ok c 0).1 (single_no c)
def lastIs (l : List Tk) (ms : List (List Nat)) : Bool := match l.getLast? with
 | none => false
 | some x => decide (x.1 ∈ ms)
def mend1 (l : List Tk) (many c : Int) (x : Tk) : Tk := if (decide (x.1 = [41]) && (decide (many = 0) && decide (0 < c % 8))) = true then ([63], some .any) else x
def mend2 (l : List Tk) (x : Tk) : Tk := if (decide (x.1 = [124]) && (l.isEmpty || lastIs l [[40], [124]])) = true then ([46, 46, 50], some (.upto 2)) else x
def mend3 (l : List Tk) (c : Int) (x : Tk) : Tk := if (decide (x.1 = [41]) && (lastIs l [[40], [124]] && decide (0 < c % 8))) = true then ([97], some (.word "a")) else x
def manyD (x : Tk) : Int := if x.1 = [40] then 1 else if x.1 = [41] then -1 else 0
def nextT (sp : Bool) (s : List Tk × Int) (c : Int) : Tk := mend3 s.1 c (mend2 s.1 (mend1 s.1 s.2 c (tokK c sp)))
def stepT (sp : Bool) (s : List Tk × Int) (c : Int) : List Tk × Int := (s.1 ++ [nextT sp s c], s.2 + manyD (nextT sp s c))
def runT (sp : Bool) (cs : List Int) : List Tk × Int := cs.foldl (stepT sp) ([], 0)
theorem word_a : pW 0 (.word "a") := by unfold pW; exact ⟨by decide +kernel, by decide +kernel, by decide +kernel⟩
theorem next_ok (sp : Bool) (s : List Tk × Int) (c : Int) : TkOk (nextT sp s c) := by
 have h1 : TkOk (mend1 s.1 s.2 c (tokK c sp)) := by
  unfold mend1
  split
  · exact tk_part (p := .any) (by unfold pW; trivial) (by intro q z; cases z)
  · exact tokK_ok c sp
 have h2 : TkOk (mend2 s.1 (mend1 s.1 s.2 c (tokK c sp))) := by
  unfold mend2
  split
  · exact tk_part (p := .upto 2) (by unfold pW; decide) (by intro q z; cases z)
  · exact h1
 unfold nextT mend3
 split
 · exact tk_part (p := .word "a") word_a (by intro q z; cases z)
 · exact h2
theorem run_snoc (sp : Bool) (cs : List Int) (c : Int) : runT sp (cs ++ [c]) = stepT sp (runT sp cs) c := by unfold runT; rw [List.foldl_append]; rfl
theorem run_all (sp : Bool) : ∀ n (cs : List Int), cs.length = n -> (∀ x ∈ (runT sp cs).1, TkOk x) ∧ (runT sp cs).1.length = cs.length ∧ (runT sp cs).2 <= cs.length
 | 0, cs, h => by
  have : cs = [] := List.length_eq_zero_iff.mp h
  subst this
  exact ⟨fun x hx => (by cases hx), rfl, by show (0 : Int) <= _; simp⟩
 | n + 1, cs, h => by
  obtain ⟨s, c, rfl⟩ : ∃ s c, cs = s ++ [c] := ⟨_, _, (List.dropLast_concat_getLast (fun z => by rw [z] at h; simp at h)).symm⟩
  obtain ⟨i1, i2, i3⟩ := run_all sp n s (by simp at h; omega)
  rw [run_snoc]
  refine ⟨fun x hx => ?_, by simp [stepT, i2], ?_⟩
  · rcases List.mem_append.mp hx with hx | hx
    · exact i1 x hx
    · rw [List.mem_singleton.mp hx]; exact next_ok sp _ c
  · have hm : manyD (nextT sp (runT sp s) c) <= 1 := by
     unfold manyD
     split
     · omega
     · split <;> omega
    show (runT sp s).2 + manyD (nextT sp (runT sp s) c) <= _
    rw [List.length_append, List.length_singleton]
    omega
def toksK (sp cl' : Bool) (cs : List Int) : List Tk := if cl' then (runT sp cs).1 ++ [([63], some .any)] ++ List.replicate (runT sp cs).2.toNat ([41], none) else (runT sp cs).1
theorem toks_ok (sp cl' : Bool) (cs : List Int) (h : cs.length <= 63) : (∀ x ∈ toksK sp cl' cs, TkOk x) ∧ (toksK sp cl' cs).length <= 200 := by
 obtain ⟨i1, i2, i3⟩ := run_all sp _ cs rfl
 unfold toksK
 split
 · refine ⟨fun x hx => ?_, by simp only [List.length_append, List.length_replicate, List.length_singleton]; omega⟩
   rcases List.mem_append.mp hx with hx | hx
   · rcases List.mem_append.mp hx with hx | hx
     · exact i1 x hx
     · rw [List.mem_singleton.mp hx]; exact tk_part (p := .any) (by unfold pW; trivial) (by intro q z; cases z)
   · rw [List.eq_of_mem_replicate hx]; exact tk_mark (by decide +kernel) (.inr (.inr rfl))
 · exact ⟨i1, by omega⟩
theorem can_bad {st : List (List (List Pt))} {t : List Nat} (c : Can st t) (b : Bad st t) : False := by
 rcases c with ⟨rfl, c1⟩ | ⟨rfl, c1⟩ | ⟨rfl, c1, c2⟩ | ⟨p, k, rfl, hp, hn⟩
 · rcases b with ⟨_, z⟩ | ⟨z, _⟩ | ⟨z, _⟩ | ⟨z, _⟩
   · omega
   · cases z
   · cases z
   · exact z rfl
 · rcases b with ⟨z, _⟩ | ⟨_, z⟩ | ⟨z, _⟩ | ⟨_, z, _⟩
   · cases z
   · exact c1 z
   · cases z
   · exact z rfl
 · rcases b with ⟨z, _⟩ | ⟨z, _⟩ | ⟨_, z | z⟩ | ⟨_, _, z, _⟩
   · cases z
   · cases z
   · exact c1 z
   · omega
   · exact z rfl
 · obtain ⟨k1, k2, k3⟩ := tP_marks hp hn
   rcases b with ⟨z, _⟩ | ⟨z, _⟩ | ⟨z, _⟩ | ⟨_, _, _, z⟩
   · exact k1 z
   · exact k2 z
   · exact k3 z
   · rw [partT_tP hp hn] at z; cases z
def gLRead (ds : List D) (d : D) : Prop := ∃ l : List Tk, (∀ x ∈ l, TkOk x) ∧ l.length <= 400 ∧ ds = [tksD l] ∧
  ((∃ k t, Good [[[]]] ((tx l).take k) ∧ (tx l)[k]? = some t ∧ Bad (readT [[[]]] ((tx l).take k)) t ∧ d = .tup [.non, .int ((k : Nat) : Int)]) ∨
   (Good [[[]]] (tx l) ∧ (lastR ((readT [[[]]] (tx l)).getLastD []) = [] ∨ 2 <= (readT [[[]]] (tx l)).length) ∧ d = .tup [.non, .int ((l.length : Nat) : Int)]) ∨
   (Good [[[]]] (tx l) ∧ ∃ q, readT [[[]]] (tx l) = [q] ∧ lastR q ≠ [] ∧ d = .tup [questD q, .int 0]))
theorem st_at {ts : List (List Nat)} {n : Nat} (g : Good [[[]]] (ts.take n)) (hn : n <= ts.length) : ∃ s q0 r0, readT [[[]]] (ts.take n) = s ++ [q0 ++ [r0]] ∧ Shp n (s ++ [q0 ++ [r0]]) ∧ Lv (s ++ [q0 ++ [r0]]) := by
 have sh := shp_run shp0 g
 have lv := lv_run shp0 lv0 g
 rw [List.length_take, Nat.min_eq_left hn, Nat.zero_add] at sh
 obtain ⟨s, q, e⟩ : ∃ s q, readT [[[]]] (ts.take n) = s ++ [q] := ⟨_, _, (List.dropLast_concat_getLast sh.ne).symm⟩
 rw [e] at sh lv
 obtain ⟨q0, r0, rfl⟩ : ∃ q0 r0, q = q0 ++ [r0] := ⟨_, _, (List.dropLast_concat_getLast (sh.rows q (by simp))).symm⟩
 exact ⟨s, q0, r0, e, sh, lv⟩
section
variable {X : Cx} {ρ : List (Option D)} {n1 n2 n3 n4 m1 : Bool} {v1 v2 v3 v4 a : Expr} {x1 x2 x3 x4 y1 y2 y3 y4 : Str} {j1 j2 j3 j4 : Nat} {p1 p2 p3 p4 p pos : Pos}
theorem e_disp4 (h1 : E X n1 ρ v1 (.str y1)) (h2 : E X n2 ρ v2 (.str y2)) (h3 : E X n3 ρ v3 (.str y3)) (h4 : E X n4 ρ v4 (.str y4)) :
 E X true ρ (.Dict [some (.Constant (.str x1) j1 p1), some (.Constant (.str x2) j2 p2), some (.Constant (.str x3) j3 p3), some (.Constant (.str x4) j4 p4)] [v1, v2, v3, v4] pos) (.dct (.k (mergeK [] [(.inr x1, .str y1), (.inr x2, .str y2), (.inr x3, .str y3), (.inr x4, .str y4)]))) :=
 PE.mono (pe_disp (pps_cons (e_str (ρ := ρ)) h1 (pps_cons (e_str (ρ := ρ)) h2 (pps_cons (e_str (ρ := ρ)) h3 (pps_cons (e_str (ρ := ρ)) h4 pps_nil)))) rfl rfl (by simp) (show 4 <= 15 by decide)) fun σ H Q z0 => el13 z0 fun Z oz en k => fun p hp => by
  have s0 : Same H (upd H p (.dK [])) := same_new hp
  refine ⟨Z, oz.same s0, en.same s0, fun a1 G1 t1 i1 => ?_⟩
  have s1 := s0.trans t1
  refine ⟨Z, oz.same s1, en.same s1, fun b1 G2 t2 k1 => ?_⟩
  have s2 := s1.trans t2
  refine ⟨Z, oz.same s2, en.same s2, fun a2 G3 t3 i2 => ?_⟩
  have s3 := s2.trans t3
  refine ⟨Z, oz.same s3, en.same s3, fun b2 G4 t4 k2 => ?_⟩
  have s4 := s3.trans t4
  refine ⟨Z, oz.same s4, en.same s4, fun a3 G5 t5 i3 => ?_⟩
  have s5 := s4.trans t5
  refine ⟨Z, oz.same s5, en.same s5, fun b3 G6 t6 k3 => ?_⟩
  have s6 := s5.trans t6
  refine ⟨Z, oz.same s6, en.same s6, fun a4 G7 t7 i4 => ?_⟩
  have s7 := s6.trans t7
  refine ⟨Z, oz.same s7, en.same s7, fun b4 G8 t8 k4 => ?_⟩
  have s8 := s7.trans t8
  have hd : G8 p = some (.dK []) := (((((((t1.trans t2).trans t3).trans t4).trans t5).trans t6).trans t7).trans t8).at upd_same
  cases in_str.mp i1
  cases in_str.mp k1
  cases in_str.mp i2
  cases in_str.mp k2
  cases in_str.mp i3
  cases in_str.mp k3
  cases in_str.mp i4
  cases in_str.mp k4
  exact ⟨hd, [(.inr x1, .str y1), (.inr x2, .str y2), (.inr x3, .str y3), (.inr x4, .str y4)], rfl, (show 4 <= 15 by decide), k (.ref p) _ (s8.writeM (xs := .d (.k [])) hp hd) (in_dct.mpr ⟨p, rfl, upd_same, hp⟩)⟩
theorem e_intB {b : Bool} (ha : E X m1 ρ a (.bl b)) (hm : X.mg "int" = none) (hg : Gl X "int" := by rfl) (hs : starEach [a] X.env = [(false, eval a X.env)] := by rfl) : E X true ρ (.Call (.Name "int" p) [a] [] pos) (.int (if b then 1 else 0)) :=
 PE.mono (pe_callTy call_int1 hg hm PyProof.Rows.boot_int (pa_cons ha pa_nil (by rw [hs]; rfl)) (by decide) (by decide) (by rw [hs]; rfl) rfl) fun σ H Q z0 => el13 z0 fun Z oz en k => ⟨Z, oz, en, fun v H1 s1 i1 => .inr ⟨b, by rw [in_bl.mp i1], k _ H1 s1 (in_int.mpr rfl)⟩⟩
end
def gTok2 (ds : List D) (d : D) : Prop := ∃ (c : Int) (sp : Bool), ds = [.int c, .bl sp] ∧ d = tkD (tokK c sp)
section
variable {X : Cx} {F : Fn} {ρ : Rho} {Q : EndD} {rest : List Stmt} {e : Expr} {pos : Pos} {m1 : Bool}
theorem sds_ret (fr : Bool) {d : D} (he : ES X m1 (view true fr ρ) e d) (h : Q.rt d) (hm : F.m = true -> fr = true ∨ m1 = true) : SDS X F (.Return (some e) pos :: rest) ρ Q := ⟨sd_ret fr he.ok h hm⟩
end
abbrev txtD (z : Str) : List (Key × V) := mergeK [] [(.inr "any", .str "?"), (.inr "word", .str z), (.inr "begin", .str (z ++ "*")), (.inr "end", .str ("*" ++ z))]
theorem tk_text {p : Pt} (hw : pW 0 p) (hn : ∀ q, p ≠ .inn q) (hl : (tP p).length <= 41) : (∃ m, p = .upto m ∧ m < 10) ∨ ∃ ds kd z, ptD p = .tup ds ∧ flats ds = true ∧ atI ds 0 = some (.str kd) ∧ atI ds (-1) = some (.str z) ∧ z.length <= 41 ∧ decide (kd = "upto") = false ∧ some (V.str (mkS (tP p))) = valV (txtD z) (.inr kd) := by
 cases p with
 | inn q => exact absurd rfl (hn q)
 | upto m => exact .inl ⟨m, rfl, by unfold pW at hw; exact hw⟩
 | any => exact .inr ⟨[.str "any"], "any", "any", by simp [ptD], rfl, rfl, rfl, by decide, by decide +kernel, by unfold tP; decide +kernel⟩
 | word z =>
  refine .inr ⟨[.str "word", .str z], "word", z, by simp [ptD], rfl, rfl, rfl, by unfold tP at hl; rwa [cl_len] at hl, by decide +kernel, ?_⟩
  unfold tP
  rw [mkS_cl]
  rfl
 | beg z =>
  refine .inr ⟨[.str "begin", .str z], "begin", z, by simp [ptD], rfl, rfl, rfl, by unfold tP at hl; rw [List.length_append, cl_len] at hl; omega, by decide +kernel, ?_⟩
  unfold tP
  rw [show mkS (cl z ++ [42]) = z ++ "*" from cl_inj (by rw [cl_mkS, cl_append]; rfl)]
  rfl
 | fin z =>
  refine .inr ⟨[.str "end", .str z], "end", z, by simp [ptD], rfl, rfl, rfl, by unfold tP at hl; rw [List.length_cons, cl_len] at hl; omega, by decide +kernel, ?_⟩
  unfold tP
  rw [show mkS (42 :: cl z) = "*" ++ z from cl_inj (by rw [cl_mkS, cl_append]; rfl)]
  rfl
theorem tk_flat {x : Tk} (h : TkOk x) : (tkD x).flat = true := by
 have fl : (optD x.2).flat = true := by
  rcases h.is with ⟨e, _⟩ | ⟨p, e, hp, hn, _⟩
  · rw [e]; rfl
  · rw [e]
    cases p with
    | inn q => exact absurd rfl (hn q)
    | _ => simp [optD, ptD, D.flat, flats]
 simp [tkD, flats, D.flat, fl]
theorem tks_flat {l : List Tk} (h : ∀ x ∈ l, TkOk x) : flats (l.map tkD) = true := flats_all fun d hd => by
 obtain ⟨x, hx, rfl⟩ := List.mem_map.mp hd
 exact tk_flat (h x hx)
theorem tk_deq {x : Tk} (h : TkOk x) {c : Nat} (hc : c = 40 ∨ c = 124) : deq (.lst [tkD ([c], none)]) (.lst [tkD x]) = decide (x.1 = [c]) := by
 rcases h.is with ⟨e, _⟩ | ⟨p, e, hp, hn, et⟩
 · simp only [tkD, e, optD, deq, deqs, Bool.and_true, mkS_inj]
   rw [Bool.eq_iff_iff, beq_iff_eq, mkS_inj, decide_eq_true_iff]
   exact eq_comm
 · obtain ⟨k1, k2, k3⟩ := tP_marks hp hn
   have ne : ¬ x.1 = [c] := by rw [et]; rcases hc with rfl | rfl <;> assumption
   obtain ⟨ds, ed⟩ := ptD_tup p
   rw [decide_eq_false ne]
   simp only [tkD, e, optD, ed, deq, deqs, mkS_inj]
   simp
theorem last_drop (l : List Tk) : (l.map tkD).drop ((l.map tkD).length - 1) = (match l.getLast? with | none => [] | some x => [tkD x]) := by
 by_cases h : l = []
 · subst h; rfl
 · obtain ⟨s, x, rfl⟩ : ∃ s x, l = s ++ [x] := ⟨_, _, (List.dropLast_concat_getLast h).symm⟩
   simp
theorem want_eq {l : List Tk} (h : ∀ x ∈ l, TkOk x) : ([D.lst [], .lst [tkD ([40], none)], .lst [tkD ([124], none)]].any fun e => deq e (.lst (cut (l.map tkD) (some (-1)) none))) = (l.isEmpty || lastIs l [[40], [124]]) := by
 rw [cut_m1, last_drop]
 cases e : l.getLast? with
 | none =>
  rw [List.getLast?_eq_none_iff] at e
  subst e
  rfl
 | some x =>
  have hx := h x (List.mem_of_getLast? e)
  have he : l.isEmpty = false := by cases l with | nil => cases e | cons _ _ => rfl
  simp only [List.any_cons, List.any_nil, tk_deq hx (.inl rfl), tk_deq hx (.inr rfl)]
  unfold lastIs
  rw [e, he]
  have : deq (.lst []) (.lst [tkD x]) = false := by simp [deq, deqs]
  rw [this, Bool.eq_iff_iff]
  simp
theorem want_eq2 {l : List Tk} (h : ∀ x ∈ l, TkOk x) : ([D.lst [tkD ([40], none)], .lst [tkD ([124], none)]].any fun e => deq e (.lst (cut (l.map tkD) (some (-1)) none))) = lastIs l [[40], [124]] := by
 rw [cut_m1, last_drop]
 cases e : l.getLast? with
 | none =>
  rw [List.getLast?_eq_none_iff] at e
  subst e
  rfl
 | some x =>
  have hx := h x (List.mem_of_getLast? e)
  simp only [List.any_cons, List.any_nil, tk_deq hx (.inl rfl), tk_deq hx (.inr rfl)]
  unfold lastIs
  rw [e, Bool.eq_iff_iff]
  simp
theorem many_at (x : Tk) : atI [D.int 0, .int 1, .int (-1)] ((if decide (x.1 = [40]) then 1 else 0) + 2 * (if decide (x.1 = [41]) then 1 else 0)) = some (.int (manyD x)) := by
 unfold manyD
 by_cases h1 : x.1 = [40]
 · rw [if_pos h1, h1]; rfl
 · rw [if_neg h1]
   by_cases h2 : x.1 = [41]
   · rw [if_pos h2, h2]; rfl
   · rw [if_neg h2]
     simp [h1, h2]
     rfl
def gToks (ds : List D) (d : D) : Prop := ∃ ns : List Int, ns.length <= 63 ∧ ds = [intsD ns] ∧ d = tksD (toksK (decide (cellAt ns 0 % 3 = 1)) (decide (cellAt ns 0 % 2 = 1)) (cut ns (some 2) (some 120)))
section
variable {X : Cx} {ρ : List (Option D)} {m1 m2 : Bool} {e f : Expr} {d : D} {pos : Pos}
theorem t_inDs {ds : List D} (ha : E X m1 ρ e d) (hb : E X m2 ρ f (.lst ds)) (hu : X.A.units + 1 + deps ds < cLine) (hm : behindInMarks .In f = false := by rfl) : T X ρ (.Compare e [.In] [f] pos) (ds.any fun e => deq e d) :=
 t_cmp op_inD ha hb (fun x y H Z Q _ i1 i2 k => ⟨_, _, _, _, i1, i2, hu, k _ (Same.refl H)⟩) hm
end
theorem join_fullB (k : Nat) : ∀ {ws : List (List Nat)}, (∀ t ∈ ws, fine t) -> fullC (joinL (blk32 (k + 1)) ws) = ws
 | [], _ => by simp [joinL, full_nil]
 | [x], h => by
  have := h x (by simp)
  exact full_tok this.1 fun c hc => (this.2 c hc).1
 | x :: y :: r, h => by
  have hx := h x (by simp)
  have ih := join_fullB k (ws := y :: r) (fun t ht => h t (List.mem_cons_of_mem _ ht))
  rw [joinL_cons2]
  unfold blk32 at ih ⊢
  rw [full_next hx.1 (fun c hc => (hx.2 c hc).1) k, ih]
theorem join_memB (k : Nat) : ∀ {ws : List (List Nat)}, (∀ t ∈ ws, fine t) -> ∀ x ∈ joinL (blk32 k) ws, lo1 x = x ∧ x < 128
 | [], _, x, hx => by simp [joinL] at hx
 | [w], h, x, hx => by
  have := (h w (by simp)).2 x hx
  exact ⟨this.2.1, this.2.2.2.1⟩
 | w :: y :: r, h, x, hx => by
  rw [joinL_cons2] at hx
  rcases List.mem_append.mp hx with hx | hx
  · rcases List.mem_append.mp hx with hx | hx
    · have := (h w (by simp)).2 x hx
      exact ⟨this.2.1, this.2.2.2.1⟩
    · unfold blk32 at hx
      rw [List.eq_of_mem_replicate hx]
      exact ⟨by decide +kernel, by decide⟩
  · exact join_memB k (ws := y :: r) (fun t ht => h t (List.mem_cons_of_mem _ ht)) x hx
theorem sum_le : ∀ {l : List (List Nat)}, (∀ t ∈ l, t.length <= 100) -> (l.map List.length).sum <= l.length * 100
 | [], _ => by simp
 | a :: r, h => by
  have h1 := h a (by simp)
  have h2 := sum_le (l := r) fun t ht => h t (List.mem_cons_of_mem _ ht)
  simp
  omega
structure JnOk (z : Str) (ts : List (List Nat)) : Prop where
 zl : z.length <= 100000
 as : ∀ c ∈ cl z, c < 128
 tk : tokS z = ts.map mkS
theorem jn_ok {l : List Tk} (h : ∀ x ∈ l, TkOk x) (hz : l.length <= 200) {k : Nat} (hk : k <= 1) : JnOk (mkS (joinL (blk32 (k + 1)) (tx l))) (tx l) := by
 have hf : ∀ t ∈ tx l, fine t := fun t ht => by obtain ⟨x, hx, rfl⟩ := List.mem_map.mp ht; exact (h x hx).fn
 have hs : ∀ t ∈ tx l, t.length <= 100 := fun t ht => by obtain ⟨x, hx, rfl⟩ := List.mem_map.mp ht; exact (h x hx).sh
 have h1 := joinL_len (blk32 (k + 1)) (tx l)
 have h2 := sum_le hs
 have hl : (tx l).length = l.length := by simp
 have hb : (blk32 (k + 1)).length = k + 1 := by simp [blk32]
 have hm := join_memB (k + 1) hf
 have h3 : (tx l).length * (blk32 (k + 1)).length <= 200 * 2 := by rw [hl, hb]; exact Nat.mul_le_mul hz (by omega)
 refine ⟨by rw [mkS_len]; omega, by rw [cl_mkS]; exact fun x hx => (hm x hx).2, tok_is (by rw [cl_mkS]; exact fun x hx => (hm x hx).2) ?_⟩
 rw [cl_mkS, List.map_congr_left (g := id) (fun x hx => (hm x hx).1), List.map_id, join_fullB k hf]
theorem tok_law {l : List Tk} (h : ∀ x ∈ l, TkOk x) (hz : l.length <= 200) {z : Str} (j : JnOk z (tx l)) :
 (∃ k, RefT z (tx l) k ∧ gLRead [tksD l] (.tup [.non, .int ((k : Nat) : Int)])) ∨ ∃ q, gRead [.str z] (questD q) ∧ qW 20 q ∧ (tQ q).length <= 80000 ∧ gLRead [tksD l] (.tup [questD q, .int 0]) := by
 have hl : (tx l).length = l.length := by simp
 have tn : ∀ t ∈ tx l, t ≠ [] ∧ t.length <= 100 := fun t ht => by obtain ⟨x, hx, rfl⟩ := List.mem_map.mp ht; exact ⟨(h x hx).fn.1, (h x hx).sh⟩
 rcases run_cases (l := l) [[[]]] h with ⟨k, t, g, e, b⟩ | g
 · exact .inl ⟨k, ⟨j.zl, j.as, j.tk, by omega, tn, g, .inl ⟨t, e, b⟩⟩, l, h, by omega, rfl, .inl ⟨k, t, g, e, b, rfl⟩⟩
 · by_cases c : lastR ((readT [[[]]] (tx l)).getLastD []) = [] ∨ 2 <= (readT [[[]]] (tx l)).length
   · refine .inl ⟨l.length, ⟨j.zl, j.as, j.tk, by omega, tn, ?_, .inr ⟨hl.symm, c⟩⟩, l, h, by omega, rfl, .inr (.inl ⟨g, c, rfl⟩)⟩
     rw [<- hl, List.take_length]
     exact g
   · have sh := shp_run shp0 g
     obtain ⟨s, q, e⟩ : ∃ s q, readT [[[]]] (tx l) = s ++ [q] := ⟨_, _, (List.dropLast_concat_getLast sh.ne).symm⟩
     rw [e] at c
     have hs : s = [] := by
      cases s with
      | nil => rfl
      | cons a r => exact absurd (.inr (by simp)) c
     subst hs
     have hq : lastR q ≠ [] := fun z => c (.inl (by simpa using z))
     have e' : readT [[[]]] (tx l) = [q] := e
     obtain ⟨k1, k2⟩ := full_is g e' hq
     have tot := kQ_total k2
     have h2 := sum_le fun t ht => (tn t ht).2
     rw [k1] at tot
     exact .inr ⟨q, ⟨z, q, j.zl, j.as, k2, by rw [k1]; exact j.tk, by rw [k1]; omega, rfl, rfl⟩, k2, by omega, l, h, by omega, rfl, .inr (.inr ⟨g, q, e', hq, rfl⟩)⟩
section
variable {X : Cx} {ρ : List (Option D)} {m1 m2 : Bool} {o a : Expr} {ap cp : Pos} {ws : List (List Nat)} {k : Nat}
theorem e_joinB (ho : E X m1 ρ o (.str (mkS (blk32 (k + 1))))) (ha : E X m2 ρ a (strsD (ws.map mkS))) (hk : k <= 1) (hs' : ∀ t ∈ ws, t.length <= 100) (hz : ws.length <= 200)
 (hbase : attributeBase o "join" X.env (eval o X.env) = eval o X.env := by rfl) (hline : (ap.endLine == cp.line) = true := by rfl) (hs : starEach [a] X.env = [(false, eval a X.env)] := by rfl) : E X true ρ (.Call (.Attribute o "join" ap) [a] [] cp) (.str (mkS (joinL (blk32 (k + 1)) ws))) := by
 have e1 : ((ws.map mkS).map (·.length)) = ws.map List.length := by rw [List.map_map]; exact List.map_congr_left fun t _ => mkS_len t
 have := sum_le hs'
 refine E.cast (e_join (zs := ws.map mkS) ho ha (by rw [mkS_len]; simp [blk32]; omega) ?_ hbase hline hs) (congrArg D.str (cl_inj ?_))
 · rw [e1, List.length_map]; omega
 · rw [cl_tjoin, cl_mkS, cl_mkS, List.map_map]
   have : ws.map (cl ∘ mkS) = ws := (List.map_congr_left (g := id) fun t _ => cl_mkS t).trans (List.map_id _)
   rw [this]
end
section
variable {X : Cx} {ρ : List (Option D)} {m1 m2 : Bool} {a b : Expr} {pos : Pos}
theorem e_isNo (ha : E X m1 ρ a .non) (hb : E X m2 ρ b .non) : E X true ρ (.Compare a [.Is] [b] pos) (.bl true) :=
 e_cmp op_isN ha hb (fun x y H Z Q _ i1 i2 k => ⟨in_non.mp i2, by
  cases in_non.mp i1
  exact k _ _ (Same.refl H) (in_bl.mpr rfl)⟩) (nobehind _ (by decide) (by decide))
theorem t_notNo (ha : E X m1 ρ a .non) (hb : E X m2 ρ b .non) (hm : behindInMarks .IsNot b = false := by rfl) : T X ρ (.Compare a [.IsNot] [b] pos) false :=
 t_cmp op_notN ha hb (fun x y H Z Q _ i1 i2 k => ⟨in_non.mp i2, by
  cases in_non.mp i1
  exact k _ (Same.refl H)⟩) hm
end
structure ErrQ (mg : Str -> Option Value) (xq : Addr) : Prop where
 gq : mg "NoQuestion" = some (.ref xq)
omit [Tabs] in
theorem ErrI.o {K : PySem.W.Frag} {C b : Addr} (h : ErrI K C b) : ExcO K C (.ref b :: valB) := by
 obtain ⟨nm, q, N, bs, hdct, sn, sub, ab, col, dd, k0, k1, k2, k3, k5, lk⟩ := h.obj
 exact exo_mk lk
end Y
namespace Z
open PySem PySem.Spec PyProof.Rows L2 Y
section
variable [Tabs]
def top (i : Nat) : Stmt := PySem.Challenge.pw_besidewords_k35_whole_any_tokens.main.body.getD i (.Pass ⟨0, 0, 0, 0⟩)
abbrev s_is_word : Stmt := top 5
abbrev s_read_question : Stmt := top 9
abbrev s_tokens_of : Stmt := top 10
abbrev s_must_begin : Stmt := top 11
abbrev s_brackets : Stmt := top 12
abbrev s_can_stand : Stmt := top 13
abbrev s_take_token : Stmt := top 14
abbrev s_part_of : Stmt := top 15
abbrev s_show_question : Stmt := top 16
abbrev s_show_parts : Stmt := top 17
abbrev s_show_part : Stmt := top 18
abbrev s_law_cell_at : Stmt := top 20
abbrev s_law_part : Stmt := top 21
abbrev s_law_word : Stmt := top 22
abbrev s_law_single : Stmt := top 23
abbrev s_law_alike : Stmt := top 24
abbrev s_law_token : Stmt := top 25
abbrev s_law_taken : Stmt := top 26
abbrev s_law_read : Stmt := top 27
abbrev s_law_tokens : Stmt := top 28
abbrev s_law : Stmt := top 29
abbrev s_nqI : Stmt := inClass (top 2) 0
theorem sc_nqI : FnScope ["self", "at"] ["self", "at"] (defScope s_nqI) := ⟨rfl, rfl, rfl, by decide +kernel, rfl, by decide +kernel, by decide +kernel⟩
theorem sc_is_word : FnScope ["text"] ["text"] (defScope s_is_word) := ⟨rfl, rfl, rfl, by decide +kernel, rfl, by decide +kernel, by decide +kernel⟩
theorem sc_read_question : FnScope ["text", "tokens", "begun", "at", "token"] ["text"] (defScope s_read_question) := ⟨rfl, rfl, rfl, by decide +kernel, rfl, by decide +kernel, by decide +kernel⟩
theorem sc_tokens_of : FnScope ["text"] ["text"] (defScope s_tokens_of) := ⟨rfl, rfl, rfl, by decide +kernel, rfl, by decide +kernel, by decide +kernel⟩
theorem sc_must_begin : FnScope ["begun"] ["begun"] (defScope s_must_begin) := ⟨rfl, rfl, rfl, by decide +kernel, rfl, by decide +kernel, by decide +kernel⟩
theorem sc_brackets : FnScope ["begun"] ["begun"] (defScope s_brackets) := ⟨rfl, rfl, rfl, by decide +kernel, rfl, by decide +kernel, by decide +kernel⟩
theorem sc_can_stand : FnScope ["token", "begun"] ["token", "begun"] (defScope s_can_stand) := ⟨rfl, rfl, rfl, by decide +kernel, rfl, by decide +kernel, by decide +kernel⟩
theorem sc_take_token : FnScope ["token", "begun", "inner"] ["token", "begun"] (defScope s_take_token) := ⟨rfl, rfl, rfl, by decide +kernel, rfl, by decide +kernel, by decide +kernel⟩
theorem sc_part_of : FnScope ["token"] ["token"] (defScope s_part_of) := ⟨rfl, rfl, rfl, by decide +kernel, rfl, by decide +kernel, by decide +kernel⟩
theorem sc_show_question : FnScope ["question"] ["question"] (defScope s_show_question) := ⟨rfl, rfl, rfl, by decide +kernel, rfl, by decide +kernel, by decide +kernel⟩
theorem sc_show_parts : FnScope ["parts"] ["parts"] (defScope s_show_parts) := ⟨rfl, rfl, rfl, by decide +kernel, rfl, by decide +kernel, by decide +kernel⟩
theorem sc_show_part : FnScope ["part", "kind"] ["part"] (defScope s_show_part) := ⟨rfl, rfl, rfl, by decide +kernel, rfl, by decide +kernel, by decide +kernel⟩
theorem sc_law_cell_at : FnScope ["_law_script", "_law_k"] ["_law_script", "_law_k"] (defScope s_law_cell_at) := ⟨rfl, rfl, rfl, by decide +kernel, rfl, by decide +kernel, by decide +kernel⟩
theorem sc_law_part : FnScope ["_law_cell", "_law_k", "_law_many"] ["_law_cell", "_law_k", "_law_many"] (defScope s_law_part) := ⟨rfl, rfl, rfl, by decide +kernel, rfl, by decide +kernel, by decide +kernel⟩
theorem sc_law_word : FnScope ["_law_cell", "_law_signs", "_law_word_here", "_law_k"] ["_law_cell"] (defScope s_law_word) := ⟨rfl, rfl, rfl, by decide +kernel, rfl, by decide +kernel, by decide +kernel⟩
theorem sc_law_single : FnScope ["_law_cell", "_law_way"] ["_law_cell"] (defScope s_law_single) := ⟨rfl, rfl, rfl, by decide +kernel, rfl, by decide +kernel, by decide +kernel⟩
theorem sc_law_alike : FnScope ["_law_one", "_law_due"] ["_law_one", "_law_due"] (defScope s_law_alike) := ⟨rfl, rfl, rfl, by decide +kernel, rfl, by decide +kernel, by decide +kernel⟩
theorem sc_law_token : FnScope ["_law_cell", "_law_spoiled", "_law_way", "_law_part_here", "_law_text"] ["_law_cell", "_law_spoiled"] (defScope s_law_token) := ⟨rfl, rfl, rfl, by decide +kernel, rfl, by decide +kernel, by decide +kernel⟩
theorem sc_law_taken : FnScope ["_law_token_here", "_law_opened", "_law_question", "_law_text", "_law_part_here", "_law_inner"] ["_law_token_here", "_law_opened", "_law_question"] (defScope s_law_taken) := ⟨rfl, rfl, rfl, by decide +kernel, rfl, by decide +kernel, by decide +kernel⟩
theorem sc_law_read : FnScope ["_law_tokens_here", "_law_opened", "_law_question", "_law_at"] ["_law_tokens_here"] (defScope s_law_read) := ⟨rfl, rfl, rfl, by decide +kernel, rfl, by decide +kernel, by decide +kernel⟩
theorem sc_law_tokens : FnScope ["_law_script", "_law_tokens_here", "_law_many", "_law_cell", "_law_token_here"] ["_law_script"] (defScope s_law_tokens) := ⟨rfl, rfl, rfl, by decide +kernel, rfl, by decide +kernel, by decide +kernel⟩
theorem sc_law : FnScope ["_law_script", "_law_tokens_here", "_law_gap", "_law_text", "_law_due", "_law_at", "_law_number", "_law_question", "e"] ["_law_script"] (defScope s_law) := ⟨rfl, rfl, rfl, by decide +kernel, rfl, by decide +kernel, by decide +kernel⟩
abbrev pPart : List Str := ["_law_cell", "_law_k", "_law_many"]
structure Blt (mg : Str -> Option Value) : Prop where
 ValueError : mg "ValueError" = none
 all : mg "all" = none
 bool : mg "bool" = none
 enumerate : mg "enumerate" = none
 int : mg "int" = none
 isinstance : mg "isinstance" = none
 len : mg "len" = none
 list : mg "list" = none
 max : mg "max" = none
 range : mg "range" = none
 str : mg "str" = none
 tuple : mg "tuple" = none
 WORD_SIGNS : ∃ t, mg "WORD_SIGNS" = some (.str "abcdefghijklmnopqrstuvwxyz0123456789" t)
 MOST_BRACKETS : ∃ t, mg "MOST_BRACKETS" = some (.int 20 t)
section
variable {P : Program} {w : World} {K : PySem.W.Frag} {mg : Str -> Option Value} {base : Heap}
theorem ok_law_cell_at {f : Addr} {fd : FuncData} (Fx : Fun K "_law_cell_at" "_law_cell_at" s_law_cell_at f fd) (hmg : mg "_law_cell_at" = some (.ref f)) (hb : Binds K fd ["_law_script", "_law_k"] []) (B : Blt mg) : Def P w K mg base 1 "_law_cell_at" true gCellAt := by
 refine def_of Fx sc_law_cell_at hmg hb (by rintro ds d ⟨ns, k, hz, e1, e2⟩; subst e1; rfl) ?_
 rintro cdv A outer s H Ex Z ds d hr ⟨ns, k, hz, e1, e2⟩
 subst e1 e2
 refine sd_if (t_ltI (e_var 1) (e_lenL (e_var 0) B.len)) (fun h => ?_) (fun h => ?_)
 · refine sd_ret false (m1 := true) (E.flat (e_ixL (d := .int (cellAt ns k)) (e_var 0) (e_var 1) ?_) rfl) rfl
   simp at h
   refine atI_nat ?_
   simp [cellAt, h]
 · refine sd_nil ?_
   refine sd_ret false (E.cast e_int ?_) rfl
   simp at h
   simp [cellAt, h]
theorem ok_law_part {f : Addr} {fd : FuncData} (Fx : Fun K "_law_part" "_law_part" s_law_part f fd) (hmg : mg "_law_part" = some (.ref f)) (hb : Binds K fd pPart []) (B : Blt mg) : Def P w K mg base 1 "_law_part" true gPart := by
 refine def_of Fx sc_law_part hmg hb (by rintro ds d ⟨c, k, m, hm, e1, e2⟩; subst e1; rfl) ?_
 rintro cdv A outer s H Ex Z ds d hr ⟨c, k, m, hm, e1, e2⟩
 subst e1 e2
 have h1 := Int.emod_nonneg c (show (99991 : Int) ≠ 0 by decide)
 have h2 := Int.emod_lt_of_pos c (show (0 : Int) < 99991 by decide)
 have h3 := Int.emod_nonneg ((c % 99991 + 17) * (48271 + 7919 * k)) (show (65537 : Int) ≠ 0 by decide)
 have h4 := Int.emod_lt_of_pos ((c % 99991 + 17) * (48271 + 7919 * k)) (show (0 : Int) < 65537 by decide)
 exact sd_ret false (e_mod (e_mod (e_mul (e_mod (e_mul (e_add (e_mod (e_var 0) e_int (by decide)) e_int) (e_add e_int (e_mul e_int (e_var 1) (.inl ⟨by decide, by decide⟩))) (.inl ⟨by omega, by omega⟩)) e_int (by decide)) (e_add (e_var 1) e_int) (.inl ⟨by omega, by omega⟩)) e_int (by decide)) (e_var 2) hm) rfl
end
section
variable {P : Program} {w : World} {K : PySem.W.Frag} {mg : Str -> Option Value} {base : Heap}
theorem ok_is_word {f : Addr} {fd : FuncData} (Fx : Fun K "is_word" "is_word" s_is_word f fd) (hmg : mg "is_word" = some (.ref f)) (hb : Binds K fd ["text"] []) (B : Blt mg) : Def P w K mg base 1 "is_word" true gIsW := by
 refine def_of Fx sc_is_word hmg hb (by rintro ds d ⟨z, hz, e1, e2⟩; subst e1; rfl) ?_
 rintro cdv A outer s H Ex Z ds d hr ⟨z, hz, e1, e2⟩
 subst e1 e2
 obtain ⟨t, hW⟩ := B.WORD_SIGNS
 refine sd_ret false (E.cast (e_and (e_neS (e_var 0) e_str) fun h => e_one (e_all (bs := (cl z).map sgB) (E.cast
  (e_map (m := true) (me := true) [] [] (fun d => match d with | .str x => .bl (!(Builtin.Str.occurrences W36 x 0 W36.length 1).isEmpty) | d => d) (it_str (m := true) (e_var 0))
   (fun C s H fp d hd => by
    obtain ⟨c, _, rfl⟩ := List.mem_map.mp hd
    exact e_inS (e_var 0) (e_gstr hW)) (by simp [signsD]; exact smallN (Nat.le_trans hz (by decide)))) ?_) hr.hd B.all)) ?_) rfl
 · rw [signsD, List.map_map, List.map_map]
   congr 1
   apply List.map_congr_left
   intro c _
   simp only [Function.comp, inW36]
 · simp [isWB, Function.comp_def]
end
section
variable {P : Program} {w : World} {K : PySem.W.Frag} {mg : Str -> Option Value} {base : Heap}
theorem ok_part_of {f lU : Addr} {fd : FuncData} (Fx : Fun K "part_of" "part_of" s_part_of f fd) (hmg : mg "part_of" = some (.ref f)) (hb : Binds K fd ["token"] []) (B : Blt mg) (hU : mg "UPTOS" = some (.ref lU)) (kU : KTup K lU (uptos.map fun z => (Sum.inr z : Key))) (dU : ∃ o, K.lookup lU = some o ∧ o.cls = .type "tuple" ∧ o.dict = none)
 (dW : Def P w K mg base 1 "is_word" true gIsW) : Def P w K mg base 2 "part_of" true gPartO := by
 refine def_of Fx sc_part_of hmg hb (fun ds d h => by rcases h with ⟨p, k, h1, h2, e1, e2⟩ | ⟨t, h1, h2, h3, e1, e2⟩ <;> (subst e1; rfl)) fun cdv A outer s0 H Ex Z ds d hr hG => ?_
 have gW : ∀ (t : List Nat) (b : Bool), t.length <= 100 -> isWC t = b -> gIsW [.str (mkS t)] (.bl b) := fun t b h e => ⟨mkS t, by rw [mkS_len]; omega, rfl, by rw [isWB_mk, e]⟩
 have q63 : ∀ t : List Nat, t ≠ [63] -> decide ((mkS t : Str) = "?") = false := fun t h => decide_eq_false fun z => h (mkS_inj.mp (z.trans (show ("?" : Str) = mkS [63] from rfl)))
 rcases hG with ⟨p, k, h1, h2, e1, e2⟩ | ⟨t, hne, hl, hp, e1, e2⟩
 · subst e1 e2
   cases p with
   | inn q => exact absurd rfl (h2 q)
   | word v =>
    unfold pW at h1
    have e : tP (.word v) = cl v := by unfold tP; rfl
    rw [e]
    have hl := h1.2.2
    refine sd_if (t_val (e_call dW hr (ea_one (e_var 0)) (gW _ true (by omega) (isWC_w h1)))) (fun _ => ?_) (fun h => by simp at h)
    exact sd_ret false (E.cast (e_tupF (eaf_cons e_str (eaf_cons (E.flat (m := true) (e_var 0) rfl) eaf_nil))) (by rw [mkS_cl]; rfl)) rfl
   | any =>
    have e : tP .any = [63] := by unfold tP; rfl
    rw [e]
    refine sd_if (t_val (e_call dW hr (ea_one (e_var 0)) (gW _ false (by decide) (by decide +kernel)))) (fun h => by simp at h) (fun _ => sd_nil ?_)
    refine sd_if (t_eqS (e_var 0) e_str) (fun _ => ?_) (fun h => by exfalso; revert h; decide +kernel)
    exact sd_ret false (e_tupF (eaf_cons e_str eaf_nil)) rfl
   | upto m =>
    unfold pW at h1
    have e : tP (.upto m) = [46, 46, 48 + m] := by unfold tP; rfl
    rw [e]
    have n0 : isWC [46, 46, 48 + m] = false := by unfold isWC; simp [sg46]
    refine sd_if (t_val (e_call dW hr (ea_one (e_var 0)) (gW _ false (by simp) n0))) (fun h => by simp at h) (fun _ => sd_nil ?_)
    refine sd_if (T.castB (t_eqS (e_var 0) e_str) (q63 _ (by simp))) (fun h => by simp at h) (fun _ => sd_nil ?_)
    refine sd_if (T.castB (t_inKT (zs := uptos) (e_var 0) (e_gtup hU kU)) (decide_eq_true (upto_mem h1))) (fun _ => ?_) (fun h => by simp at h)
    exact sd_ret false (e_tupF (eaf_cons e_str (eaf_cons (e_tindex hU kU dU (e_var 0) (upto_at h1).1 (upto_at h1).2) eaf_nil))) rfl
   | beg v =>
    unfold pW at h1
    have e : tP (.beg v) = cl v ++ [42] := by unfold tP; rfl
    rw [e]
    obtain ⟨a, b, hh, hlast, na, nb⟩ := firm_word h1
    have hl := h1.2.2
    have hl2 : (cl v ++ [42]).length <= 100 := by rw [List.length_append, List.length_singleton]; omega
    have n0 : isWC (cl v ++ [42]) = false := by
     unfold isWC
     rw [Bool.and_eq_false_iff]
     right
     simp [sg42]
    have hd : (cl v ++ [42]).head? = some a := by rw [List.head?_append, hh]; rfl
    have ha : sgB a = true := h1.2.1 a (List.mem_of_mem_head? hh)
    refine sd_if (t_val (e_call dW hr (ea_one (e_var 0)) (gW _ false hl2 n0))) (fun h => by simp at h) (fun _ => sd_nil ?_)
    refine sd_if (T.castB (t_eqS (e_var 0) e_str) (q63 _ fun z => ?_)) (fun h => by simp at h) (fun _ => sd_nil ?_)
    · rw [z] at hd
      cases hd
      rw [sg63] at ha
      cases ha
    refine sd_if (T.castB (t_inKT (zs := uptos) (e_var 0) (e_gtup hU kU)) (decide_eq_false (not_upto fun z => ?_))) (fun h => by simp at h) (fun _ => sd_nil ?_)
    · rw [hd] at z
      cases z
      rw [sg46] at ha
      cases ha
    refine sd_if (TW.t (tw_and (T.castB (t_val (e_ends (e_var 0) e_str)) (ends_star (cl v) 42)) fun _ => tw_and1 (t_val (e_call dW hr (ea_one (E.cast (e_slS (e_var 0) eo_none (eo_some (e_neg e_int)) ?_) (congrArg D.str (slice_last (cl v) 42)))) (gW _ true (by omega) (isWC_w h1)))))) (fun _ => ?_) (fun h => by simp at h)
    · rw [mkS_len]; exact smallN (by omega)
    · refine sd_ret false (E.cast (e_tupF (eaf_cons e_str (eaf_cons (E.cast (e_slS (e_var 0) eo_none (eo_some (e_neg e_int)) ?_) (congrArg D.str (slice_last (cl v) 42))) eaf_nil))) (by rw [mkS_cl]; rfl)) rfl
      rw [mkS_len]; exact smallN (by omega)
   | fin v =>
    unfold pW at h1
    have e : tP (.fin v) = 42 :: cl v := by unfold tP; rfl
    rw [e]
    obtain ⟨a, b, hh, hlast, na, nb⟩ := firm_word h1
    have hl := h1.2.2
    have hl2 : (42 :: cl v).length <= 100 := by rw [List.length_cons]; omega
    have n0 : isWC (42 :: cl v) = false := by
     unfold isWC
     rw [Bool.and_eq_false_iff]
     right
     simp [sg42]
    obtain ⟨l0, hl0⟩ : ∃ l0, 42 :: cl v = l0 ++ [b] := by
     have hne : cl v ≠ [] := h1.1
     have hg : (cl v).getLast hne = b := by rw [List.getLast?_eq_some_getLast hne] at hlast; exact Option.some.inj hlast
     exact ⟨42 :: (cl v).dropLast, by rw [List.cons_append, <- hg, List.dropLast_concat_getLast]⟩
    have hb42 : decide (b = 42) = false := decide_eq_false fun z => by
     have := h1.2.1 b (List.mem_of_getLast? hlast)
     rw [z, sg42] at this
     cases this
    refine sd_if (t_val (e_call dW hr (ea_one (e_var 0)) (gW _ false hl2 n0))) (fun h => by simp at h) (fun _ => sd_nil ?_)
    refine sd_if (T.castB (t_eqS (e_var 0) e_str) (q63 _ (by simp))) (fun h => by simp at h) (fun _ => sd_nil ?_)
    refine sd_if (T.castB (t_inKT (zs := uptos) (e_var 0) (e_gtup hU kU)) (decide_eq_false (not_upto (by simp)))) (fun h => by simp at h) (fun _ => sd_nil ?_)
    refine sd_if (b := false) (T.castB (TW.t (tw_and (q := false) (T.castB (t_val (e_ends (e_var 0) e_str)) (by rw [hl0, ends_star, hb42])) fun z => by simp at z)) (by simp)) (fun h => by simp at h) (fun _ => sd_nil ?_)
    refine sd_if (TW.t (tw_and (T.castB (t_val (e_starts (e_var 0) e_str)) (starts_star 42 (cl v))) fun _ => tw_and1 (t_val (e_call dW hr (ea_one (E.cast (e_slS (e_var 0) (eo_some e_int) eo_none ?_) (congrArg D.str (slice_tail 42 (cl v))))) (gW _ true (by omega) (isWC_w h1)))))) (fun _ => ?_) (fun h => by simp at h)
    · rw [mkS_len]; exact smallN (by omega)
    · refine sd_ret false (E.cast (e_tupF (eaf_cons e_str (eaf_cons (E.cast (e_slS (e_var 0) (eo_some e_int) eo_none ?_) (congrArg D.str (slice_tail 42 (cl v)))) eaf_nil))) (by rw [mkS_cl]; rfl)) rfl
      rw [mkS_len]; exact smallN (by omega)
 · subst e1 e2
   obtain ⟨n1, n2, n3, n4, n5⟩ := partT_none hp
   refine sd_if (t_val (e_call dW hr (ea_one (e_var 0)) (gW _ false hl n1))) (fun h => by simp at h) (fun _ => sd_nil ?_)
   refine sd_if (T.castB (t_eqS (e_var 0) e_str) (q63 _ n2)) (fun h => by simp at h) (fun _ => sd_nil ?_)
   refine sd_if (T.castB (t_inKT (zs := uptos) (e_var 0) (e_gtup hU kU)) (decide_eq_false n3)) (fun h => by simp at h) (fun _ => sd_nil ?_)
   obtain ⟨l, c, hlc⟩ : ∃ l c, t = l ++ [c] := ⟨_, _, (List.dropLast_concat_getLast hne).symm⟩
   obtain ⟨a, r, har⟩ : ∃ a r, t = a :: r := by
    cases t with
    | nil => exact absurd rfl hne
    | cons a r => exact ⟨a, r, rfl⟩
   have w4 : c = 42 -> isWC l = false := fun z => by
    cases q : isWC l with
    | false => rfl
    | true => exact absurd ⟨by rw [hlc, z]; simp, by rw [hlc, List.dropLast_concat]; exact q⟩ n4
   have w5 : a = 42 -> isWC r = false := fun z => by
    cases q : isWC r with
    | false => rfl
    | true => exact absurd ⟨by rw [har, z]; rfl, by rw [har]; exact q⟩ n5
   have ll : l.length <= 100 := by rw [hlc, List.length_append] at hl; omega
   have rl : r.length <= 100 := by rw [har, List.length_cons] at hl; omega
   refine sd_if (b := decide (c = 42) && false) (TW.t (tw_and (T.castB (t_val (e_ends (e_var 0) e_str)) (by rw [hlc]; exact ends_star l c)) fun z => tw_and1 (t_val (e_call dW hr (ea_one (E.cast (e_slS (e_var 0) eo_none (eo_some (e_neg e_int)) ?_) (by rw [hlc]; exact congrArg D.str (slice_last l c)))) (gW _ false ll (w4 (of_decide_eq_true z))))))) (fun h => by simp at h) (fun _ => sd_nil ?_)
   · rw [mkS_len]; exact smallN (by omega)
   refine sd_if (b := decide (a = 42) && false) (TW.t (tw_and (T.castB (t_val (e_starts (e_var 0) e_str)) (by rw [har]; exact starts_star a r)) fun z => tw_and1 (t_val (e_call dW hr (ea_one (E.cast (e_slS (e_var 0) (eo_some e_int) eo_none ?_) (by rw [har]; exact congrArg D.str (slice_tail a r)))) (gW _ false rl (w5 (of_decide_eq_true z))))))) (fun h => by simp at h) (fun _ => sd_nil ?_)
   · rw [mkS_len]; exact smallN (by omega)
   exact sd_ret false e_non rfl
end
section
variable {P : Program} {w : World} {K : PySem.W.Frag} {mg : Str -> Option Value} {base : Heap}
theorem ok_tokens_of {f : Addr} {fd : FuncData} (Fx : Fun K "tokens_of" "tokens_of" s_tokens_of f fd) (hmg : mg "tokens_of" = some (.ref f)) (hb : Binds K fd ["text"] []) (B : Blt mg) : Def P w K mg base 2 "tokens_of" true gTok := by
 refine def_of Fx sc_tokens_of hmg hb (by rintro ds d ⟨z, a1, a2, e1, e2⟩; subst e1; rfl) ?_
 rintro cdv A outer s0 H Ex Z ds d hr ⟨z, hz, hz2, e1, e2⟩
 subst e1 e2
 have hl : (Txt.lower z).length = z.length := lower_len hz2
 have hsl : (Txt.split (Txt.lower z) " ").length <= 100001 := by
  have e2 : (Txt.split (Txt.lower z) " ").map cl = cutAt 32 (cl (Txt.lower z)) := split_cut _ 32
  have := cut_total 32 (cl (Txt.lower z))
  rw [<- e2, List.length_map, cl_len, hl] at this
  omega
 refine sd_ret false (E.cast (e_comp (m := true) (me := false) [] [] (fun d => match d with | .str x => !decide (x = "") | _ => false) (fun d => d) (it_list (e_split1 (e_lower (e_var 0) (by omega)) e_str rfl ?_ ?_)) (fun C s H fp d hd => ?_) (fun C s H fp d hd _ => e_var 0) ?_ (fun _ => .inr fun d hd => ?_)) ?_) rfl
 · rw [hl]; exact Nat.le_trans hz (by decide)
 · exact Nat.le_trans (parts_len _ " ") (by rw [hl]; exact Nat.le_trans (Nat.add_le_add_right hz 2) (by decide))
 · obtain ⟨x, _, rfl⟩ := List.mem_map.mp hd
   exact ts_one (t_neS (e_var 0) e_str)
 · rw [List.length_map]
   exact Nat.le_trans hsl (by decide)
 · obtain ⟨x, _, rfl⟩ := List.mem_map.mp hd
   rfl
 · unfold strsD tokS
   rw [List.map_id', List.filter_map]
   rfl
end
section
variable {P : Program} {w : World} {K : PySem.W.Frag} {mg : Str -> Option Value} {base : Heap}
theorem ok_must_begin {f : Addr} {fd : FuncData} (Fx : Fun K "must_begin" "must_begin" s_must_begin f fd) (hmg : mg "must_begin" = some (.ref f)) (hb : Binds K fd ["begun"] []) (B : Blt mg) : Def P w K mg base 1 "must_begin" true gMust := by
 refine def_of Fx sc_must_begin hmg hb (by rintro ds d ⟨s, q0, r, k, h1, h2, e1, e2⟩; subst e1; rfl) ?_
 rintro cdv A outer s0 H Ex Z ds d hr ⟨s, q0, r, k, h1, h2, e1, e2⟩
 subst e1 e2
 have hd : (D.lst (psDs r)).dep <= 122 := by
  have := dep_psk r h2
  simp [D.dep]
  omega
 refine sd_ret false (E.cast (e_eqD (e_ixL (ds := qDs q0 ++ [.lst (psDs r)]) (E.cast (e_ixL (ds := s.map questD ++ [questD (q0 ++ [r])]) (E.cast (e_var 0) (stD_snoc s (q0 ++ [r]))) (e_neg e_int) (st_last s (q0 ++ [r]))) (quest_snoc q0 r)) (e_neg e_int) (last_at q0 r)) (e_lst ea_nil) rfl (roomD hr hd)) ?_) rfl
 rw [row_empty]
theorem ok_brackets {f : Addr} {fd : FuncData} (Fx : Fun K "brackets" "brackets" s_brackets f fd) (hmg : mg "brackets" = some (.ref f)) (hb : Binds K fd ["begun"] []) (B : Blt mg) : Def P w K mg base 1 "brackets" true gBrk := by
 refine def_of Fx sc_brackets hmg hb (by rintro ds d ⟨st, e1, e2⟩; subst e1; rfl) ?_
 rintro cdv A outer s0 H Ex Z ds d hr ⟨st, e1, e2⟩
 subst e1 e2
 exact sd_ret false (E.cast (e_sub (e_lenL (ds := st.map questD) (e_var 0) B.len) e_int) (by rw [List.length_map])) rfl
theorem ok_can_stand {f : Addr} {fd : FuncData} (Fx : Fun K "can_stand" "can_stand" s_can_stand f fd) (hmg : mg "can_stand" = some (.ref f)) (hb : Binds K fd ["token", "begun"] []) (B : Blt mg) (dM : Def P w K mg base 1 "must_begin" true gMust) (dB : Def P w K mg base 1 "brackets" true gBrk) (dP : Def P w K mg base 2 "part_of" true gPartO) : Def P w K mg base 3 "can_stand" true gCanO := by
 refine def_of Fx sc_can_stand hmg hb (fun ds d h => by rcases h with ⟨n, st, t, h1, h2, h3, e1, e2⟩ | ⟨n, st, t, h1, h2, h3, h4, h5, e1, e2⟩ <;> (subst e1; rfl)) fun cdv A outer s0 H Ex Z ds d hr hG => ?_
 have hr1 : Room 1 _ := hr.mono (by decide)
 obtain ⟨tk, hMB⟩ := B.MOST_BRACKETS
 have tk1 : ∀ {a b : List Nat}, decide ((mkS a : Str) = mkS b) = decide (a = b) := fun {a b} => by
  by_cases h : a = b
  · subst h; simp
  · have : (mkS a : Str) ≠ mkS b := fun z => h (by have := congrArg cl z; rwa [cl_mkS, cl_mkS] at this)
    simp [h, this]
 rcases hG with ⟨n, st, t, h1, h2, h3, e1, e2⟩ | ⟨n, st, t, h1, h2, hne, hl, h3, e1, e2⟩
 · subst e1 e2
   obtain ⟨s, q, rfl⟩ : ∃ s q, st = s ++ [q] := ⟨_, _, (List.dropLast_concat_getLast h1.ne).symm⟩
   obtain ⟨q0, r, rfl⟩ : ∃ q0 r, q = q0 ++ [r] := ⟨_, _, (List.dropLast_concat_getLast (h1.rows q (by simp))).symm⟩
   have hok : psOk r (20 - s.length) := qOk_iff.mp (h2.lv s.length (q0 ++ [r]) (by simp)) r (by simp)
   have gM : gMust [stD (s ++ [q0 ++ [r]])] (.bl (decide (r = []))) := ⟨s, q0, r, _, by omega, hok, rfl, rfl⟩
   have tk1 : ∀ {a b : List Nat}, decide ((mkS a : Str) = mkS b) = decide (a = b) := fun {a b} => by
    by_cases h : a = b
    · subst h; simp
    · have : (mkS a : Str) ≠ mkS b := fun z => h (by have := congrArg cl z; rwa [cl_mkS, cl_mkS] at this)
      simp [h, this]
   rcases h3 with ⟨rfl, hc⟩ | ⟨rfl, hc⟩ | ⟨rfl, hc, hc2⟩ | ⟨p, k, rfl, hp, hn⟩
   · refine sd_if (t_eqS (e_var 0) e_str) (fun _ => ?_) (fun h => by exfalso; revert h; decide +kernel)
     refine sd_ret false (E.cast (e_ltI (e_call dB hr1 (ea_one (e_var 1)) ⟨_, rfl, rfl⟩) (e_gint hMB)) ?_) rfl
     simp at hc ⊢
     omega
   · refine sd_if (t_eqS (e_var 0) e_str) (fun h => by exfalso; revert h; decide +kernel) (fun _ => sd_nil ?_)
     refine sd_if (t_eqS (e_var 0) e_str) (fun _ => ?_) (fun h => by exfalso; revert h; decide +kernel)
     refine sd_ret false (E.cast (e_not (e_call dM hr1 (ea_one (e_var 1)) gM)) ?_) rfl
     have : r ≠ [] := by simpa [lastR] using hc
     simp [this]
   · refine sd_if (t_eqS (e_var 0) e_str) (fun h => by exfalso; revert h; decide +kernel) (fun _ => sd_nil ?_)
     refine sd_if (t_eqS (e_var 0) e_str) (fun h => by exfalso; revert h; decide +kernel) (fun _ => sd_nil ?_)
     refine sd_if (t_eqS (e_var 0) e_str) (fun _ => ?_) (fun h => by exfalso; revert h; decide +kernel)
     refine sd_ret false (E.cast (e_and (e_not (e_call dM hr1 (ea_one (e_var 1)) gM)) fun _ => e_one (e_gtI (e_call dB hr1 (ea_one (e_var 1)) ⟨_, rfl, rfl⟩) e_int)) ?_) rfl
     have : r ≠ [] := by simpa [lastR] using hc
     simp at hc2
     simp [this]
     omega
   · obtain ⟨n1, n2, n3⟩ := tP_marks hp hn
     refine sd_if (t_eqS (e_var 0) e_str) (fun h => ?_) (fun _ => sd_nil ?_)
     · exfalso
       rw [show ("(" : Str) = mkS [40] from rfl, tk1] at h
       exact n1 (of_decide_eq_true h)
     refine sd_if (t_eqS (e_var 0) e_str) (fun h => ?_) (fun _ => sd_nil ?_)
     · exfalso
       rw [show ("|" : Str) = mkS [124] from rfl, tk1] at h
       exact n2 (of_decide_eq_true h)
     refine sd_if (t_eqS (e_var 0) e_str) (fun h => ?_) (fun _ => sd_nil ?_)
     · exfalso
       rw [show (")" : Str) = mkS [41] from rfl, tk1] at h
       exact n3 (of_decide_eq_true h)
     obtain ⟨es, he⟩ := ptD_tup p
     exact sd_ret false (e_notN (E.cast (e_call dP (hr.mono (by decide)) (ea_one (e_var 0)) (.inl ⟨p, k, hp, hn, rfl, rfl⟩)) he) e_non) rfl
 · subst e1 e2
   obtain ⟨s, q, rfl⟩ : ∃ s q, st = s ++ [q] := ⟨_, _, (List.dropLast_concat_getLast h1.ne).symm⟩
   obtain ⟨q0, r, rfl⟩ : ∃ q0 r, q = q0 ++ [r] := ⟨_, _, (List.dropLast_concat_getLast (h1.rows q (by simp))).symm⟩
   have hok : psOk r (20 - s.length) := qOk_iff.mp (h2.lv s.length (q0 ++ [r]) (by simp)) r (by simp)
   have gM : gMust [stD (s ++ [q0 ++ [r]])] (.bl (decide (r = []))) := ⟨s, q0, r, _, by omega, hok, rfl, rfl⟩
   rcases h3 with ⟨rfl, hc⟩ | ⟨rfl, hc⟩ | ⟨rfl, hc⟩ | ⟨n1, n2, n3, hp⟩
   · refine sd_if (t_eqS (e_var 0) e_str) (fun _ => ?_) (fun h => by exfalso; revert h; decide +kernel)
     refine sd_ret false (E.cast (e_ltI (e_call dB hr1 (ea_one (e_var 1)) ⟨_, rfl, rfl⟩) (e_gint hMB)) ?_) rfl
     simp at hc ⊢
     omega
   · refine sd_if (t_eqS (e_var 0) e_str) (fun h => by exfalso; revert h; decide +kernel) (fun _ => sd_nil ?_)
     refine sd_if (t_eqS (e_var 0) e_str) (fun _ => ?_) (fun h => by exfalso; revert h; decide +kernel)
     refine sd_ret false (E.cast (e_not (e_call dM hr1 (ea_one (e_var 1)) gM)) ?_) rfl
     have : r = [] := by simpa [lastR] using hc
     simp [this]
   · refine sd_if (t_eqS (e_var 0) e_str) (fun h => by exfalso; revert h; decide +kernel) (fun _ => sd_nil ?_)
     refine sd_if (t_eqS (e_var 0) e_str) (fun h => by exfalso; revert h; decide +kernel) (fun _ => sd_nil ?_)
     refine sd_if (t_eqS (e_var 0) e_str) (fun _ => ?_) (fun h => by exfalso; revert h; decide +kernel)
     refine sd_ret false (E.cast (e_and (e_not (e_call dM hr1 (ea_one (e_var 1)) gM)) fun _ => e_one (e_gtI (e_call dB hr1 (ea_one (e_var 1)) ⟨_, rfl, rfl⟩) e_int)) ?_) rfl
     refine congrArg D.bl ?_
     rcases hc with hc | hc
     · have : r = [] := by simpa [lastR] using hc
       simp [this]
     · simp at hc
       simp [hc]
   · refine sd_if (t_eqS (e_var 0) e_str) (fun h => ?_) (fun _ => sd_nil ?_)
     · exfalso
       rw [show ("(" : Str) = mkS [40] from rfl, tk1] at h
       exact n1 (of_decide_eq_true h)
     refine sd_if (t_eqS (e_var 0) e_str) (fun h => ?_) (fun _ => sd_nil ?_)
     · exfalso
       rw [show ("|" : Str) = mkS [124] from rfl, tk1] at h
       exact n2 (of_decide_eq_true h)
     refine sd_if (t_eqS (e_var 0) e_str) (fun h => ?_) (fun _ => sd_nil ?_)
     · exfalso
       rw [show (")" : Str) = mkS [41] from rfl, tk1] at h
       exact n3 (of_decide_eq_true h)
     exact sd_ret false (e_notNN (e_call dP (hr.mono (by decide)) (ea_one (e_var 0)) (.inr ⟨t, hne, hl, hp, rfl, rfl⟩)) e_non) rfl
theorem ok_take_token {f : Addr} {fd : FuncData} (Fx : Fun K "take_token" "take_token" s_take_token f fd) (B : Blt mg) (dP : Def P w K mg base 2 "part_of" true gPartOf) {n : Nat} {st : List (List (List Pt))} {t : List Nat} (h1 : Shp n st) (hn : n < 95000) (h3 : Can st t) :
 FnOk P w K mg base CX0 3 f fd ["token", "begun"] (spM K [.str (mkS t)] (stD st) (stD (takeT st t))) := by
 refine fnM Fx sc_take_token rfl (by simp) rfl fun cdv A outer s0 H Ex F u hr => ?_
 have nd := sc_take_token.nd
 obtain ⟨s, q, rfl⟩ : ∃ s q, st = s ++ [q] := ⟨_, _, (List.dropLast_concat_getLast h1.ne).symm⟩
 obtain ⟨q0, r, rfl⟩ : ∃ q0 r, q = q0 ++ [r] := ⟨_, _, (List.dropLast_concat_getLast (h1.rows q (by simp))).symm⟩
 have tk1 : ∀ {a b : List Nat}, decide ((mkS a : Str) = mkS b) = decide (a = b) := fun {a b} => by
  by_cases h : a = b
  · subst h; simp
  · have : (mkS a : Str) ≠ mkS b := fun z => h (by have := congrArg cl z; rwa [cl_mkS, cl_mkS] at this)
    simp [h, this]
 have hsl : (s ++ [q0 ++ [r]]).length < 100000 := by have := h1.len; omega
 have hql : (q0 ++ [r]).length < 100000 := by have := h1.ql (q0 ++ [r]) (by simp); omega
 have hrl : r.length < 100000 := by have := h1.rl (q0 ++ [r]) (by simp) r (by simp); omega
 rcases h3 with ⟨rfl, hc⟩ | ⟨rfl, hc⟩ | ⟨rfl, hc, hc2⟩ | ⟨p, k, rfl, hp, hn'⟩
 · refine sd_if (t_eqS (e_var 0) e_str) (fun _ => ?_) (fun h => by exfalso; revert h; decide +kernel)
   rw [show takeT (s ++ [q0 ++ [r]]) [40] = (s ++ [q0 ++ [r]]) ++ [[[]]] by simp [takeT]]
   refine sd_trAppG (.trl u) (tree_trl u) 1 (e' := questD [[]]) (d' := stD ((s ++ [q0 ++ [r]]) ++ [[[]]])) (pt := []) (n := (s ++ [q0 ++ [r]]).length) rfl en_name ?_ hsl (et_lst (eta_cons (et_lst eta_nil) eta_nil)) (sd_nil (sd_nil rfl))
   have h := TUp.here (e := questD [[]]) (n := (s ++ [q0 ++ [r]]).length) (ds := (s ++ [q0 ++ [r]]).map questD) (by rw [List.length_map])
   show TUp _ _ [] (stD (s ++ [q0 ++ [r]])) _
   rw [stD_snoc (s ++ [q0 ++ [r]]) [[]]]
   exact h
 · refine sd_if (t_eqS (e_var 0) e_str) (fun h => by exfalso; revert h; decide +kernel) (fun _ => ?_)
   refine sd_if (t_eqS (e_var 0) e_str) (fun _ => ?_) (fun h => by exfalso; revert h; decide +kernel)
   rw [show takeT (s ++ [q0 ++ [r]]) [124] = s ++ [(q0 ++ [r]) ++ [[]]] by simp [takeT]]
   exact sd_trAppG (.trl u) (tree_trl u) 1 (pt := [(true, -1)]) rfl (en_ixL en_name (e_neg e_int)) (up_in s (up_bar (q0 ++ [r]))) hql (et_lst eta_nil) (sd_nil (sd_nil (sd_nil rfl)))
 · refine sd_if (t_eqS (e_var 0) e_str) (fun h => by exfalso; revert h; decide +kernel) (fun _ => ?_)
   refine sd_if (t_eqS (e_var 0) e_str) (fun h => by exfalso; revert h; decide +kernel) (fun _ => ?_)
   refine sd_if (t_eqS (e_var 0) e_str) (fun _ => ?_) (fun h => by exfalso; revert h; decide +kernel)
   have hs : s ≠ [] := fun z => by rw [z] at hc2; simp at hc2
   obtain ⟨s', o, rfl⟩ : ∃ s' o, s = s' ++ [o] := ⟨_, _, (List.dropLast_concat_getLast hs).symm⟩
   obtain ⟨o0, ro, rfl⟩ : ∃ q0 r, o = q0 ++ [r] := ⟨_, _, (List.dropLast_concat_getLast (h1.rows o (by simp))).symm⟩
   have hol : ro.length < 100000 := by have := h1.rl (o0 ++ [ro]) (by simp) ro (by simp); omega
   rw [show takeT (s' ++ [o0 ++ [ro]] ++ [q0 ++ [r]]) [41] = s' ++ [addL (o0 ++ [ro]) (.inn (q0 ++ [r]))] by simp [takeT]]
   refine sd_trPopG (.trl u) (tree_trl u) 1 2 (ds := (s' ++ [o0 ++ [ro]]).map questD) (d := questD (q0 ++ [r])) (by decide) (by rw [stD_snoc]; rfl) ?_ nd
   exact sd_trMoveG (.trl u) (tree_trl u) 1 2 (d := stD (s' ++ [o0 ++ [ro]])) (pt := [(true, -1), (true, -1)]) (e' := ptD (.inn (q0 ++ [r]))) (by decide) rfl rfl (en_ixL (en_ixL en_name (e_neg e_int)) (e_neg e_int)) (up_in s' (up_last o0 ro (.inn (q0 ++ [r])))) hol (em_tup e_str rfl em_name) (sd_nil (sd_nil (sd_nil (sd_nil rfl))))
 · obtain ⟨n1, n2, n3⟩ := tP_marks hp hn'
   refine sd_if (t_eqS (e_var 0) e_str) (fun h => ?_) (fun _ => ?_)
   · exfalso
     rw [show ("(" : Str) = mkS [40] from rfl, tk1] at h
     exact n1 (of_decide_eq_true h)
   refine sd_if (t_eqS (e_var 0) e_str) (fun h => ?_) (fun _ => ?_)
   · exfalso
     rw [show ("|" : Str) = mkS [124] from rfl, tk1] at h
     exact n2 (of_decide_eq_true h)
   refine sd_if (t_eqS (e_var 0) e_str) (fun h => ?_) (fun _ => ?_)
   · exfalso
     rw [show (")" : Str) = mkS [41] from rfl, tk1] at h
     exact n3 (of_decide_eq_true h)
   rw [take_one hp hn' s (q0 ++ [r])]
   refine sd_trAppG (.trl u) (tree_trl u) 1 (pt := [(true, -1), (true, -1)]) rfl (en_ixL (en_ixL en_name (e_neg e_int)) (e_neg e_int)) (up_in s (up_last q0 r p)) hrl (et_flat (e_call dP hr (ea_one (e_var 0)) ⟨p, k, hp, hn', rfl, rfl⟩) ?_) (sd_nil (sd_nil (sd_nil (sd_nil rfl))))
   cases p with
   | inn q => exact absurd rfl (hn' q)
   | _ => rfl
theorem ok_read_question {f ft : Addr} {fd fdt : FuncData} (Fx : Fun K "read_question" "read_question" s_read_question f fd) (hmg : mg "read_question" = some (.ref f)) (hb : Binds K fd ["text"] []) (B : Blt mg) (Ft : Fun K "take_token" "take_token" s_take_token ft fdt) (at' : mg "take_token" = some (.ref ft)) (bt : Binds K fdt ["token", "begun"] [])
 (dT : Def P w K mg base 2 "tokens_of" true gTok) (dC : Def P w K mg base 3 "can_stand" true gCanO) (dM : Def P w K mg base 1 "must_begin" true gMust) (dB : Def P w K mg base 1 "brackets" true gBrk) (dPO : Def P w K mg base 2 "part_of" true gPartO) {xb xq : Addr} (XR : ErrQ mg xq) (XI : ErrI K xq xb) : DefX P w K mg base 5 "read_question" true gRead (rRead xq) := by
 have dP : Def P w K mg base 2 "part_of" true gPartOf := dPO.sub fun ds d h => .inl h
 refine def_ofX (k := 4) Fx sc_read_question hmg hb (by rintro ds d ⟨z, q, a1, a2, a3, a4, a5, e1, e2⟩; subst e1; rfl) (fun ds c h => by rcases h with ⟨d, h1, e1, e2⟩ | ⟨z, ts, k, h1, e1, e2⟩ <;> (subst e1; rfl)) (fun cdv A outer s0 H Ex Z ds d hr ⟨z, q, hz, hz2, hq, hts, htl, e1, e2⟩ => ?_) fun cdv A outer s0 H Ex Z ds c hr hR hE _ hx => ?_
 · subst e1 e2
   have nd := sc_read_question.nd
   have hr1 : Room 1 _ := hr.mono (by decide)
   have hr2 : Room 2 _ := hr.mono (by decide)
   have hr3 : Room 3 _ := hr.mono (by decide)
   have g : Good [[[]]] (kQ q) := good_Q q hq.2 hq.1 [] [] (by simp)
   have sh : ∀ n, Shp n (readT [[[]]] ((kQ q).take n)) ∨ (kQ q).length < n := fun n => by
    by_cases hn : n <= (kQ q).length
    · left
      have := shp_run shp0 (good_take n g)
      rw [List.length_take, Nat.min_eq_left hn, Nat.zero_add] at this
      exact this
    · right; omega
   have lv : ∀ n, Lv (readT [[[]]] ((kQ q).take n)) := fun n => lv_run shp0 lv0 (good_take n g)
   have hfin : readT [[[]]] (kQ q) = [q] := by simpa using read_Q q hq.2 hq.1 [] []
   refine sd_if (t_not (t_val (e_isi (e_var 0) rfl PyProof.Rows.boot_str B.isinstance B.str))) (fun h => by simp at h) (fun _ => sd_nil ?_)
   refine sd_setN 1 (d := strsD ((kQ q).map mkS)) (E.cast (e_call dT hr2 (ea_one (e_var 0)) ⟨z, hz, hz2, rfl, rfl⟩) (by rw [hts])) ?_ nd
   refine sd_setT 2 (d := stD [[[]]]) (et_lst (eta_cons (et_lst (eta_cons (et_lst eta_nil) eta_nil)) eta_nil)) ?_ nd
   refine sd_for2 3 4 true (ds := enumD (((kQ q).map mkS).map D.str)) (fun n r => n <= (kQ q).length ∧ ∃ o3 o4, r = [some (.pl false (.str z)), some (.pl true (strsD ((kQ q).map mkS))), some (.tr (stD (readT [[[]]] ((kQ q).take n)))), o3, o4])
    (it_enum (e_var 1) B.enumerate) ⟨Nat.zero_le _, _, _, rfl⟩ (by rintro n r ⟨_, _, _, e⟩; subst e; simp) (fun d hd => by
     obtain ⟨i, _, rfl⟩ := List.mem_map.mp hd
     exact ⟨_, _, rfl⟩) (fun n d1 d2 r hd ⟨hn, o3, o4, e⟩ => ?_) (fun r ⟨hn, o3, o4, e⟩ => ?_) nd
   · subst e
     obtain ⟨d', hd', e⟩ := enumD_get hd
     cases e
     rw [List.getElem?_map, List.getElem?_map] at hd'
     cases ht : (kQ q)[n]? with
     | none => rw [ht] at hd'; cases hd'
     | some t =>
      rw [ht] at hd'
      cases hd'
      have hn2 := (List.getElem?_eq_some_iff.mp ht).1
      have hc := good_at g ht
      have hs := (sh n).resolve_right (by omega)
      have hv := lv n
      have hnx : readT [[[]]] ((kQ q).take (n + 1)) = takeT (readT [[[]]] ((kQ q).take n)) t := by rw [List.take_add_one, ht, Option.toList_some, readT_app]; rfl
      rw [hnx]
      generalize readT [[[]]] ((kQ q).take n) = st at hc hs hv
      refine sd_if (t_not (t_val (e_call dC hr3 (ea_cons (e_var 4) (ea_one (e_var 2))) (.inl ⟨n, st, t, hs, hv, hc, rfl, rfl⟩)))) (fun h => by simp at h) (fun _ => sd_nil ?_)
      exact sd_callM 2 (ok_take_token Ft B dP hs (by omega) hc) bt Ft.kp at' hr3 rfl (e_var 4) (sd_nil ⟨by omega, _, _, rfl⟩)
   · subst e
     rw [enumD_len, List.length_map, List.length_map, List.take_length, hfin]
     obtain ⟨q0, r, rfl⟩ : ∃ q0 r, q = q0 ++ [r] := ⟨_, _, (List.dropLast_concat_getLast hq.1).symm⟩
     have hr0 := (qWs_mem.mp hq.2 r (by simp)).1
     refine sd_if (TW.t (tw_or (t_val (e_call dM hr1 (ea_one (e_var 2)) ⟨[], q0, r, 20, by omega, qOk_iff.mp (qWs_ok hq.2) r (by simp), rfl, rfl⟩)) fun _ => tw_or1 (t_gtI (e_call dB hr1 (ea_one (e_var 2)) ⟨_, rfl, rfl⟩) e_int))) (fun h => ?_) (fun _ => sd_nil ?_)
     · exfalso
       simp [hr0] at h
     · exact sd_ret true (e_ixL (ds := [questD (q0 ++ [r])]) (e_var 2) e_int rfl) rfl
 · have nd := sc_read_question.nd
   have hr1 : Room 1 _ := hr.mono (by decide)
   have hr2 : Room 2 _ := hr.mono (by decide)
   have hr3 : Room 3 _ := hr.mono (by decide)
   rcases hR with ⟨d, hd, e1, e2⟩ | ⟨z, ts, k, ⟨zl, as, tk, tl, tn, gd, no⟩, e1, e2⟩
   · subst e1 e2
     refine sd_if (t_not (t_val (e_noStr (e_var 0) hd B.isinstance B.str))) (fun _ => ?_) (fun h => by simp at h)
     exact sd_raiseI hx XR.gq XI hr2 e_int hE
   · subst e1 e2
     have hk : k <= ts.length := by
      rcases no with ⟨t, h, _⟩ | ⟨h, _⟩
      · exact Nat.le_of_lt (List.getElem?_eq_some_iff.mp h).1
      · omega
     have gp : ∀ n, n <= k -> Good [[[]]] (ts.take n) := fun n hn => by
      have := good_take n gd
      rwa [List.take_take, Nat.min_eq_left hn] at this
     have sh : ∀ n, n <= k -> Shp n (readT [[[]]] (ts.take n)) := fun n hn => by
      have := shp_run shp0 (gp n hn)
      rw [List.length_take, Nat.min_eq_left (Nat.le_trans hn hk), Nat.zero_add] at this
      exact this
     have lv : ∀ n, n <= k -> Lv (readT [[[]]] (ts.take n)) := fun n hn => lv_run shp0 lv0 (gp n hn)
     refine sd_if (t_not (t_val (e_isi (e_var 0) rfl PyProof.Rows.boot_str B.isinstance B.str))) (fun h => by simp at h) (fun _ => sd_nil ?_)
     refine sd_setN 1 (d := strsD (ts.map mkS)) (E.cast (e_call dT hr2 (ea_one (e_var 0)) ⟨z, zl, as, rfl, rfl⟩) (by rw [tk])) ?_ nd
     refine sd_setT 2 (d := stD [[[]]]) (et_lst (eta_cons (et_lst (eta_cons (et_lst eta_nil) eta_nil)) eta_nil)) ?_ nd
     refine sd_for2 3 4 true (ds := enumD ((ts.map mkS).map D.str)) (fun n r => n <= k ∧ ∃ o3 o4, r = [some (.pl false (.str z)), some (.pl true (strsD (ts.map mkS))), some (.tr (stD (readT [[[]]] (ts.take n)))), o3, o4])
      (it_enum (e_var 1) B.enumerate) ⟨Nat.zero_le _, _, _, rfl⟩ (by rintro n r ⟨_, _, _, e⟩; subst e; simp) (fun d hd => by
       obtain ⟨i, _, rfl⟩ := List.mem_map.mp hd
       exact ⟨_, _, rfl⟩) (fun n d1 d2 r hd ⟨hn, o3, o4, e⟩ => ?_) (fun r ⟨hn, o3, o4, e⟩ => ?_) nd (hp := PassesOwn.leaving)
     · subst e
       obtain ⟨d', hd', e⟩ := enumD_get hd
       cases e
       rw [List.getElem?_map, List.getElem?_map] at hd'
       cases ht : ts[n]? with
       | none => rw [ht] at hd'; cases hd'
       | some t =>
        rw [ht] at hd'
        cases hd'
        have hs := sh n hn
        have hv := lv n hn
        have htm := tn t (List.mem_of_getElem? ht)
        by_cases hnk : n = k
        · subst hnk
          rcases no with ⟨t', h, hbad⟩ | ⟨h, _⟩
          · rw [ht] at h
            cases h
            refine sd_if (t_not (t_val (e_call dC hr3 (ea_cons (e_var 4) (ea_one (e_var 2))) (.inr ⟨n, _, t, hs, hv, htm.1, htm.2, hbad, rfl, rfl⟩)))) (fun _ => ?_) (fun h => by simp at h)
            exact sd_raiseI hx XR.gq XI hr2 (e_var 3) hE
          · have := (List.getElem?_eq_some_iff.mp ht).1
            omega
        · have hn2 : n + 1 <= k := by omega
          have hc : Can (readT [[[]]] (ts.take n)) t := by
           have g2 := gp (n + 1) hn2
           have := good_at (n := n) g2 (by rw [List.getElem?_take_of_lt (by omega)]; exact ht)
           rwa [List.take_take, Nat.min_eq_left (by omega)] at this
          have hnx : readT [[[]]] (ts.take (n + 1)) = takeT (readT [[[]]] (ts.take n)) t := by rw [List.take_add_one, ht, Option.toList_some, readT_app]; rfl
          rw [hnx]
          generalize readT [[[]]] (ts.take n) = st at hc hs hv
          refine sd_if (t_not (t_val (e_call dC hr3 (ea_cons (e_var 4) (ea_one (e_var 2))) (.inl ⟨n, st, t, hs, hv, hc, rfl, rfl⟩)))) (fun h => by simp at h) (fun _ => sd_nil ?_)
          exact sd_callM 2 (ok_take_token Ft B dP hs (by omega) hc) bt Ft.kp at' hr3 rfl (e_var 4) (sd_nil ⟨by omega, _, _, rfl⟩)
     · subst e
       rw [enumD_len, List.length_map, List.length_map] at hn ⊢
       have hkl : k = ts.length := by omega
       subst hkl
       rw [List.take_length]
       have hs := sh ts.length (Nat.le_refl _)
       have hv := lv ts.length (Nat.le_refl _)
       rw [List.take_length] at hs hv
       have hend : lastR ((readT [[[]]] ts).getLastD []) = [] ∨ 2 <= (readT [[[]]] ts).length := by
        rcases no with ⟨t, h, _⟩ | ⟨_, h⟩
        · have := (List.getElem?_eq_some_iff.mp h).1
          omega
        · exact h
       generalize readT [[[]]] ts = st at hs hv hend
       obtain ⟨s, q, rfl⟩ : ∃ s q, st = s ++ [q] := ⟨_, _, (List.dropLast_concat_getLast hs.ne).symm⟩
       obtain ⟨q0, r, rfl⟩ : ∃ q0 r, q = q0 ++ [r] := ⟨_, _, (List.dropLast_concat_getLast (hs.rows q (by simp))).symm⟩
       have hok : psOk r (20 - s.length) := qOk_iff.mp (hv.lv s.length (q0 ++ [r]) (by simp)) r (by simp)
       refine sd_if (b := true) (T.castB (TW.t (tw_or (t_val (e_call dM hr1 (ea_one (e_var 2)) ⟨s, q0, r, _, by omega, hok, rfl, rfl⟩)) fun _ => tw_or1 (t_gtI (e_call dB hr1 (ea_one (e_var 2)) ⟨_, rfl, rfl⟩) e_int))) ?_) (fun _ => ?_) (fun h => by cases h)
       · rcases hend with h | h
         · have : r = [] := by simpa [lastR] using h
           simp [this]
         · simp at h
           simp
           omega
       · exact sd_raiseI hx XR.gq XI hr2 (E.cast (e_lenL (e_var 1) B.len) (by rw [List.length_map, List.length_map])) hE
end
section
variable {P : Program} {w : World} {K : PySem.W.Frag} {mg : Str -> Option Value} {base : Heap}
theorem ok_show_part {f : Addr} {fd : FuncData} (Fx : Fun K "show_part" "show_part" s_show_part f fd) (hmg : mg "show_part" = some (.ref f)) (hb : Binds K fd ["part"] []) (B : Blt mg) (n : Nat) (dQ : ∀ j, n = j + 1 -> Def P w K mg base (3 * j + 3) "show_question" true (gShowQ j)) : Def P w K mg base (3 * n + 1) "show_part" true (gShowP n) := by
 refine def_of (k := 3 * n) Fx sc_show_part hmg hb (by rintro ds d ⟨p, h1, h2, e1, e2⟩; subst e1; rfl) ?_
 rintro cdv A outer s H Ex Z ds d hr ⟨p, h1, h2, e1, e2⟩
 subst e1 e2
 have nd := sc_show_part.nd
 cases p with
 | word v =>
  refine sd_setF 1 (d := .str "word") (e_ixT (d := .str "word") (e_var 0) e_int rfl) rfl ?_ nd
  refine sd_if (t_eqS (e_var 1) e_str) (fun h => by exfalso; revert h; decide +kernel) (fun _ => sd_nil ?_)
  refine sd_if (t_eqS (e_var 1) e_str) (fun h => by exfalso; revert h; decide +kernel) (fun _ => sd_nil ?_)
  refine sd_if (t_eqS (e_var 1) e_str) (fun h => by exfalso; revert h; decide +kernel) (fun _ => sd_nil ?_)
  refine sd_if (t_eqS (e_var 1) e_str) (fun h => by exfalso; revert h; decide +kernel) (fun _ => sd_nil ?_)
  refine sd_if (t_eqS (e_var 1) e_str) (fun h => by exfalso; revert h; decide +kernel) (fun _ => sd_nil ?_)
  refine sd_ret false (E.cast (E.flat (m := true) (e_ixT (d := .str v) (e_var 0) e_int rfl) rfl) ?_) rfl
  unfold tP
  rw [mkS_cl]
 | beg v =>
  refine sd_setF 1 (d := .str "begin") (e_ixT (d := .str "begin") (e_var 0) e_int rfl) rfl ?_ nd
  refine sd_if (t_eqS (e_var 1) e_str) (fun h => by exfalso; revert h; decide +kernel) (fun _ => sd_nil ?_)
  refine sd_if (t_eqS (e_var 1) e_str) (fun h => by exfalso; revert h; decide +kernel) (fun _ => sd_nil ?_)
  refine sd_if (t_eqS (e_var 1) e_str) (fun h => by exfalso; revert h; decide +kernel) (fun _ => sd_nil ?_)
  refine sd_if (t_eqS (e_var 1) e_str) (fun _ => ?_) (fun h => by exfalso; revert h; decide +kernel)
  unfold pW at h1
  refine sd_ret false (E.cast (e_addS (x := v) (e_ixT (d := .str v) (e_var 0) e_int rfl) e_str ?_) ?_) rfl
  · rw [<- cl_len v]
    exact Nat.le_trans (Nat.add_le_add_right h1.2.2 _) (by decide)
  · refine congrArg D.str (cl_inj ?_)
    rw [cl_append, cl_mkS]
    unfold tP
    rfl
 | fin v =>
  refine sd_setF 1 (d := .str "end") (e_ixT (d := .str "end") (e_var 0) e_int rfl) rfl ?_ nd
  refine sd_if (t_eqS (e_var 1) e_str) (fun h => by exfalso; revert h; decide +kernel) (fun _ => sd_nil ?_)
  refine sd_if (t_eqS (e_var 1) e_str) (fun h => by exfalso; revert h; decide +kernel) (fun _ => sd_nil ?_)
  refine sd_if (t_eqS (e_var 1) e_str) (fun h => by exfalso; revert h; decide +kernel) (fun _ => sd_nil ?_)
  refine sd_if (t_eqS (e_var 1) e_str) (fun h => by exfalso; revert h; decide +kernel) (fun _ => sd_nil ?_)
  refine sd_if (t_eqS (e_var 1) e_str) (fun _ => ?_) (fun h => by exfalso; revert h; decide +kernel)
  unfold pW at h1
  refine sd_ret false (E.cast (e_addS (x := "*") (y := v) e_str (e_ixT (d := .str v) (e_var 0) e_int rfl) ?_) ?_) rfl
  · rw [<- cl_len v]
    exact Nat.le_trans (Nat.add_le_add_left h1.2.2 _) (by decide)
  · refine congrArg D.str (cl_inj ?_)
    rw [cl_append, cl_mkS]
    unfold tP
    rfl
 | any  =>
  refine sd_setF 1 (d := .str "any") (e_ixT (d := .str "any") (e_var 0) e_int rfl) rfl ?_ nd
  refine sd_if (t_eqS (e_var 1) e_str) (fun h => by exfalso; revert h; decide +kernel) (fun _ => sd_nil ?_)
  refine sd_if (t_eqS (e_var 1) e_str) (fun _ => ?_) (fun h => by exfalso; revert h; decide +kernel)
  refine sd_ret false (E.cast e_str ?_) rfl
  refine congrArg D.str (cl_inj ?_)
  rw [cl_mkS]
  rfl
 | upto m =>
  refine sd_setF 1 (d := .str "upto") (e_ixT (d := .str "upto") (e_var 0) e_int rfl) rfl ?_ nd
  refine sd_if (t_eqS (e_var 1) e_str) (fun h => by exfalso; revert h; decide +kernel) (fun _ => sd_nil ?_)
  refine sd_if (t_eqS (e_var 1) e_str) (fun h => by exfalso; revert h; decide +kernel) (fun _ => sd_nil ?_)
  refine sd_if (t_eqS (e_var 1) e_str) (fun _ => ?_) (fun h => by exfalso; revert h; decide +kernel)
  unfold pW at h1
  refine sd_ret false (E.cast (e_addS (x := "..") e_str (e_strI (e_ixT (d := .int ((m : Nat) : Int)) (e_var 0) e_int rfl) ?_ B.str) ?_) ?_) rfl
  · have : m = 0 ∨ m = 1 ∨ m = 2 ∨ m = 3 ∨ m = 4 ∨ m = 5 ∨ m = 6 ∨ m = 7 ∨ m = 8 ∨ m = 9 := by omega
    rcases this with rfl | rfl | rfl | rfl | rfl | rfl | rfl | rfl | rfl | rfl <;> decide +kernel
  · rw [<- cl_len (toString ((m : Nat) : Int) : Str), digit_str h1]
    show 2 + 1 <= sizeLine
    decide
  · refine congrArg D.str (cl_inj ?_)
    rw [cl_append, cl_mkS, digit_str h1]
    unfold tP
    rfl
 | inn q =>
  refine sd_setF 1 (d := .str "in") (e_ixT (d := .str "in") (e_var 0) e_int rfl) rfl ?_ nd
  refine sd_if (t_eqS (e_var 1) e_str) (fun _ => ?_) (fun h => by exfalso; revert h; decide +kernel)
  unfold pW at h1
  obtain ⟨j, rfl, hq, hw⟩ := h1
  have e : tP (.inn q) = [40, 32] ++ tQ q ++ [32, 41] := by unfold tP; rfl
  rw [e] at h2 ⊢
  have hl : (tQ q).length <= 100000 := by simp only [List.length_append] at h2; omega
  have hl2 : (mkS (tQ q)).length <= 100000 := by rw [<- cl_len, cl_mkS]; exact hl
  refine sd_ret false (E.cast (e_addS (e_addS (x := "( ") e_str (e_call (dQ j rfl) hr (ea_one (e_ixT (d := questD q) (e_var 0) e_int rfl)) ⟨q, ⟨hq, hw⟩, hl, rfl, rfl⟩) ?_) e_str ?_) ?_) rfl
  · exact Nat.le_trans (Nat.add_le_add_left hl2 _) (by decide)
  · rw [<- cl_len, cl_append, List.length_append, cl_len, cl_len]
    exact Nat.le_trans (Nat.add_le_add_right (Nat.add_le_add_left hl2 _) _) (by decide)
  · refine congrArg D.str (cl_inj ?_)
    rw [cl_append, cl_append, cl_mkS, cl_mkS]
    rfl
theorem ok_show_parts {f : Addr} {fd : FuncData} (Fx : Fun K "show_parts" "show_parts" s_show_parts f fd) (hmg : mg "show_parts" = some (.ref f)) (hb : Binds K fd ["parts"] []) (B : Blt mg) {n : Nat} (dP : Def P w K mg base (3 * n + 1) "show_part" true (gShowP n)) : Def P w K mg base (3 * n + 2) "show_parts" true (gShowR n) := by
 refine def_of (k := 3 * n + 1) Fx sc_show_parts hmg hb (by rintro ds d ⟨ps, h0, h1, h2, e1, e2⟩; subst e1; rfl) ?_
 rintro cdv A outer s H Ex Z ds d hr ⟨ps, h0, h1, h2, e1, e2⟩
 subst e1 e2
 have hpd : D.lst (psDs ps) = .lst (ps.map ptD) := by rw [psDs_map]
 have hjl := joinL_len2 (sep := [32]) (by simp) (tPs ps)
 have hml : ∀ p ∈ ps, (tP p).length <= 100000 := fun p hp => Nat.le_trans (joinL_mem (sep := [32]) (by rw [tPs_map]; exact List.mem_map_of_mem hp)) h2
 have hln : ps.length <= 100001 := by
  have : (tPs ps).length = ps.length := by rw [tPs_map, List.length_map]
  unfold tR at h2
  omega
 refine sd_ret false (E.cast (e_join (zs := (tPs ps).map mkS) e_str (E.cast (e_map (m := true) (me := true) [] [] (fun d => .str (mkS (tP (ptOf d)))) (it_list (E.cast (e_var 0) hpd)) (fun C s H fp d hd => ?_) ?_) ?_) (by decide) ?_) ?_) rfl
 · obtain ⟨p, hp, rfl⟩ := List.mem_map.mp hd
   rw [ptOf_ptD]
   exact e_call dP hr (ea_one (e_var 0)) ⟨p, rWs_mem.mp h1 p hp, hml p hp, rfl, rfl⟩
 · rw [List.length_map]
   exact Nat.le_trans hln (by decide)
 · rw [tPs_map, List.map_map, List.map_map, List.map_map]
   exact congrArg D.lst (List.map_congr_left fun p hp => by simp [ptOf_ptD])
 · have e : (((tPs ps).map mkS).map (·.length)) = (tPs ps).map List.length := by
    rw [List.map_map]
    exact List.map_congr_left fun x _ => by show (mkS x).length = _; rw [<- cl_len, cl_mkS]
   rw [e, List.length_map]
   unfold tR at h2
   omega
 · rw [join_mk]
   rfl
theorem ok_show_question {f : Addr} {fd : FuncData} (Fx : Fun K "show_question" "show_question" s_show_question f fd) (hmg : mg "show_question" = some (.ref f)) (hb : Binds K fd ["question"] []) (B : Blt mg) {n : Nat} (dR : Def P w K mg base (3 * n + 2) "show_parts" true (gShowR n)) : Def P w K mg base (3 * n + 3) "show_question" true (gShowQ n) := by
 refine def_of (k := 3 * n + 2) Fx sc_show_question hmg hb (by rintro ds d ⟨q, h1, h2, e1, e2⟩; subst e1; rfl) ?_
 rintro cdv A outer s H Ex Z ds d hr ⟨q, h1, h2, e1, e2⟩
 subst e1 e2
 have hqd : questD q = .lst (q.map fun ps => D.lst (psDs ps)) := by unfold questD; rw [qDs_map]
 have hjl := joinL_len2 (sep := [32, 124, 32]) (by simp) (tQs q)
 have hml : ∀ ps ∈ q, (tR ps).length <= 100000 := fun ps hp => Nat.le_trans (joinL_mem (sep := [32, 124, 32]) (by rw [tQs_map]; exact List.mem_map_of_mem hp)) h2
 have hln : q.length <= 100001 := by
  have : (tQs q).length = q.length := by rw [tQs_map, List.length_map]
  unfold tQ at h2
  omega
 refine sd_ret false (E.cast (e_join (zs := (tQs q).map mkS) e_str (E.cast (e_map (m := true) (me := true) [] [] (fun d => .str (mkS (tR (rowOfD d)))) (it_list (E.cast (e_var 0) hqd)) (fun C s H fp d hd => ?_) ?_) ?_) (by decide) ?_) ?_) rfl
 · obtain ⟨ps, hp, rfl⟩ := List.mem_map.mp hd
   rw [rowOfD_ps]
   obtain ⟨z1, z2⟩ := qWs_mem.mp h1.2 ps hp
   exact e_call dR hr (ea_one (e_var 0)) ⟨ps, z1, z2, hml ps hp, rfl, rfl⟩
 · rw [List.length_map]
   exact Nat.le_trans hln (by decide)
 · rw [tQs_map, List.map_map, List.map_map, List.map_map]
   exact congrArg D.lst (List.map_congr_left fun p hp => by simp [rowOfD_ps])
 · have e : (((tQs q).map mkS).map (·.length)) = (tQs q).map List.length := by
    rw [List.map_map]
    exact List.map_congr_left fun x _ => by show (mkS x).length = _; rw [<- cl_len, cl_mkS]
   rw [e, List.length_map]
   unfold tQ at h2
   omega
 · rw [join_mk]
   rfl
theorem ok_show {f1 f2 f3 : Addr} {fd1 fd2 fd3 : FuncData} (Fp : Fun K "show_part" "show_part" s_show_part f1 fd1) (m1 : mg "show_part" = some (.ref f1)) (b1 : Binds K fd1 ["part"] []) (Fs : Fun K "show_parts" "show_parts" s_show_parts f2 fd2) (m2 : mg "show_parts" = some (.ref f2)) (b2 : Binds K fd2 ["parts"] []) (Fq : Fun K "show_question" "show_question" s_show_question f3 fd3) (m3 : mg "show_question" = some (.ref f3)) (b3 : Binds K fd3 ["question"] []) (B : Blt mg) : ∀ n, Def P w K mg base (3 * n + 3) "show_question" true (gShowQ n)
 | 0 => ok_show_question Fq m3 b3 B (ok_show_parts Fs m2 b2 B (ok_show_part Fp m1 b1 B 0 fun j hj => absurd hj (by omega)))
 | n + 1 => ok_show_question Fq m3 b3 B (ok_show_parts Fs m2 b2 B (ok_show_part Fp m1 b1 B (n + 1) fun j hj => by
  cases hj
  exact ok_show Fp m1 b1 Fs m2 b2 Fq m3 b3 B n))
end
section
variable {P : Program} {w : World} {K : PySem.W.Frag} {mg : Str -> Option Value} {base : Heap}
theorem ok_law_word {f : Addr} {fd : FuncData} (Fx : Fun K "_law_word" "_law_word" s_law_word f fd) (hmg : mg "_law_word" = some (.ref f)) (hb : Binds K fd ["_law_cell"] []) (B : Blt mg) (dP : Def P w K mg base 1 "_law_part" true gPart) : Def P w K mg base 2 "_law_word" true gWord31 := by
 refine def_of Fx sc_law_word hmg hb (by rintro ds d ⟨c, e1, e2⟩; subst e1; rfl) ?_
 rintro cdv A outer s H Ex Z ds d hr ⟨c, e1, e2⟩
 subst e1 e2
 have nd := sc_law_word.nd
 obtain ⟨hw1, hw2⟩ := wlen_le c
 have h0 := part_nn c 1 (show (0 : Int) < 3 by decide)
 have h1 := part_lt c 1 (show (0 : Int) < 3 by decide)
 have hpos : (0 : Int) < [3, 14, 40].getD (part c 1 3).toNat 0 := by
  have : (part c 1 3).toNat = 0 ∨ (part c 1 3).toNat = 1 ∨ (part c 1 3).toNat = 2 := by omega
  rcases this with h | h | h <;> rw [h] <;> decide
 have hat : atI [D.int 3, D.int 14, D.int 40] (part c 1 3) = some (.int ([3, 14, 40].getD (part c 1 3).toNat 0)) := by
  refine atI_get h0 ?_
  have : (part c 1 3).toNat = 0 ∨ (part c 1 3).toNat = 1 ∨ (part c 1 3).toNat = 2 := by omega
  rcases this with h | h | h <;> rw [h] <;> rfl
 refine sd_setF 1 e_str rfl ?_ nd
 refine sd_setF 2 (d := .str (wordC c 0)) (E.cast e_str rfl) rfl ?_ nd
 refine sd_forF 3 (ds := rangeD 0 (wlen c).toNat) (fun n r => ∃ o3, r = [some (.pl false (.int c)), some (.pl true (.str W36)), some (.pl true (.str (wordC c n))), o3])
  (it_range (n := wlen c) (m := true) (e_add e_int (e_call dP hr (ea_cons (e_var 0) (ea_cons e_int (ea_one (e_ixL (e_lst (ea_cons e_int (ea_cons e_int (ea_one e_int)))) (e_call dP hr (ea_cons (e_var 0) (ea_cons e_int (ea_one e_int))) ⟨_, _, _, by decide, rfl, rfl⟩) hat)))) ⟨_, _, _, hpos, rfl, rfl⟩)) (by omega) (by omega) B.range) flat_range ⟨_, rfl⟩ (by rintro n r ⟨_, e⟩; subst e; simp) ?_ ?_ nd
 · rintro n d r hd ⟨o3, e⟩
   subst e
   obtain ⟨hn, rfl⟩ := rangeD0_get hd
   have a1 := part_nn c (((n : Nat) : Int) + 2) (show (0 : Int) < 36 by decide)
   have a2 := part_lt c (((n : Nat) : Int) + 2) (show (0 : Int) < 36 by decide)
   have hl36 : (cl W36).length = 36 := by decide +kernel
   have hat2 : atI W36.cps.toList (part c (((n : Nat) : Int) + 2) 36) = some ((cl W36).getD (part c (((n : Nat) : Int) + 2) 36).toNat 0) := by
    refine atI_get a1 ?_
    show (cl W36)[(part c (((n : Nat) : Int) + 2) 36).toNat]? = _
    rw [List.getD_eq_getElem?_getD, List.getElem?_eq_getElem (by omega)]
    rfl
   refine sd_setF 2 (d := .str (wordC c (n + 1))) (E.cast (e_addS (x := wordC c n) (e_var 2) (e_ixS (e_var 1) (e_call dP hr (ea_cons (e_var 0) (ea_cons (e_add (e_var 3) e_int) (ea_one e_int))) ⟨_, _, _, by decide, rfl, rfl⟩) (by decide +kernel) hat2) ?_) ?_) rfl (sd_nil ⟨_, rfl⟩) nd
   · have : (wordC c n).length = n := by rw [<- cl_len]; unfold wordC; rw [cl_mkS]; simp
     rw [this]
     exact Nat.le_trans (Nat.add_le_add (show n <= 40 by omega) (Nat.le_refl 1)) (by decide)
   · refine congrArg D.str (cl_inj ?_)
     rw [cl_append]
     unfold wordC
     rw [cl_mkS, cl_mkS, List.range_succ, List.map_append]
     rfl
 · rintro r ⟨o3, e⟩
   subst e
   rw [rangeD_len]
   exact sd_ret true (e_var 2) rfl
theorem ok_law_single {f : Addr} {fd : FuncData} (Fx : Fun K "_law_single" "_law_single" s_law_single f fd) (hmg : mg "_law_single" = some (.ref f)) (hb : Binds K fd ["_law_cell"] []) (B : Blt mg) (dP : Def P w K mg base 1 "_law_part" true gPart) (dW : Def P w K mg base 2 "_law_word" true gWord31) : Def P w K mg base 3 "_law_single" true gSingle := by
 refine def_of Fx sc_law_single hmg hb (by rintro ds d ⟨c, e1, e2⟩; subst e1; rfl) ?_
 rintro cdv A outer s H Ex Z ds d hr ⟨c, e1, e2⟩
 subst e1 e2
 have nd := sc_law_single.nd
 have hr1 : Room 1 _ := hr.mono (by decide)
 have a := part_nn c 51 (show (0 : Int) < 10 by decide)
 refine sd_setF 1 (d := .int (part c 50 7)) (e_call dP hr1 (ea_cons (e_var 0) (ea_cons e_int (ea_one e_int))) ⟨_, _, _, by decide, rfl, rfl⟩) rfl ?_ nd
 unfold singleP
 refine sd_if (t_ltI (e_var 1) e_int) (fun h => ?_) (fun h => sd_nil ?_)
 · rw [if_pos (of_decide_eq_true h)]
   exact sd_ret false (e_tupF (eaf_cons e_str (eaf_cons (e_call dW hr (ea_one (e_var 0)) ⟨c, rfl, rfl⟩) eaf_nil))) rfl
 rw [if_neg (of_decide_eq_false h)]
 refine sd_if (t_eqI (e_var 1) e_int) (fun h => ?_) (fun h => sd_nil ?_)
 · rw [if_pos (of_decide_eq_true h)]
   exact sd_ret false (e_tupF (eaf_cons e_str (eaf_cons (e_call dW hr (ea_one (e_var 0)) ⟨c, rfl, rfl⟩) eaf_nil))) rfl
 rw [if_neg (of_decide_eq_false h)]
 refine sd_if (t_eqI (e_var 1) e_int) (fun h => ?_) (fun h => sd_nil ?_)
 · rw [if_pos (of_decide_eq_true h)]
   exact sd_ret false (e_tupF (eaf_cons e_str (eaf_cons (e_call dW hr (ea_one (e_var 0)) ⟨c, rfl, rfl⟩) eaf_nil))) rfl
 rw [if_neg (of_decide_eq_false h)]
 refine sd_if (t_eqI (e_var 1) e_int) (fun h => ?_) (fun h => sd_nil ?_)
 · rw [if_pos (of_decide_eq_true h)]
   exact sd_ret false (e_tupF (eaf_cons e_str eaf_nil)) rfl
 rw [if_neg (of_decide_eq_false h)]
 refine sd_ret false (E.cast (e_tupF (eaf_cons e_str (eaf_cons (e_call dP hr1 (ea_cons (e_var 0) (ea_cons e_int (ea_one e_int))) ⟨_, _, _, by decide, rfl, rfl⟩) eaf_nil))) ?_) rfl
 show D.tup [.str "upto", .int (part c 51 10)] = D.tup [.str "upto", .int ((part c 51 10).toNat : Nat)]
 rw [show ((part c 51 10).toNat : Int) = part c 51 10 by omega]
end
section
variable {P : Program} {w : World} {K : PySem.W.Frag} {mg : Str -> Option Value} {base : Heap}
theorem ok_law_alike {f : Addr} {fd : FuncData} (Fx : Fun K "_law_alike" "_law_alike" s_law_alike f fd) (hmg : mg "_law_alike" = some (.ref f)) (hb : Binds K fd ["_law_one", "_law_due"] []) (B : Blt mg) (n : Nat) (dA : ∀ m, n = m + 1 -> Def P w K mg base (m + 1) "_law_alike" true (gAlk m)) : Def P w K mg base (n + 1) "_law_alike" true (gAlk n) := by
 refine def_of (k := n) Fx sc_law_alike hmg hb (by rintro ds d ⟨x, a1, e1, e2⟩; subst e1; rfl) ?_
 rintro cdv A outer s0 H Ex Z ds d hr ⟨x, hx, e1, e2⟩
 subst e1 e2
 have deep : ∀ {ds : List D} {m : Nat}, n = m + 1 -> plDs m ds -> ∀ (i : Nat) (d : D), ds[i]? = some d -> gAlk m [d, d] (.bl true) := fun {ds m} e h i d hd => ⟨d, plDs_mem.mp h d (List.mem_of_getElem? hd), rfl, rfl⟩
 cases x with
 | str z =>
  refine sd_if (t_val (e_isi (e_var 1) rfl PyProof.Rows.boot_str B.isinstance B.str)) (fun _ => ?_) (fun h => by simp at h)
  exact sd_ret false (E.cast (e_and (e_isi (e_var 0) rfl PyProof.Rows.boot_str B.isinstance B.str) fun _ => e_one (e_eqS (e_var 0) (e_var 1))) (by simp)) rfl
 | int i =>
  refine sd_if (t_val (e_isiF (e_var 1) rfl PyProof.Rows.boot_str B.isinstance B.str)) (fun h => by simp at h) (fun _ => sd_nil ?_)
  refine sd_if (t_val (e_isi (e_var 1) rfl PyProof.Rows.boot_int B.isinstance B.int)) (fun _ => ?_) (fun h => by simp at h)
  exact sd_ret false (E.cast (e_and (e_isi (e_var 0) rfl PyProof.Rows.boot_int B.isinstance B.int) fun _ => e_and (e_not (e_isi (b := false) (e_var 0) rfl PyProof.Rows.boot_bool B.isinstance B.bool)) fun _ => e_one (e_eqI (e_var 0) (e_var 1))) (by simp)) rfl
 | lst es =>
  unfold plD' at hx
  obtain ⟨m, hm, hz, hp⟩ := hx
  refine sd_if (t_val (e_isiF (e_var 1) rfl PyProof.Rows.boot_str B.isinstance B.str)) (fun h => by simp at h) (fun _ => sd_nil ?_)
  refine sd_if (t_val (e_isiF (e_var 1) rfl PyProof.Rows.boot_int B.isinstance B.int)) (fun h => by simp at h) (fun _ => sd_nil ?_)
  refine sd_if (TW.t (tw_or (t_neB (e_isi (b := true) (e_var 0) rfl PyProof.Rows.boot_list B.isinstance B.list) (e_isi (b := true) (e_var 1) rfl PyProof.Rows.boot_list B.isinstance B.list)) fun _ => tw_or1 (t_neB (e_isiF (e_var 0) rfl PyProof.Rows.boot_tuple B.isinstance B.tuple) (e_isiF (e_var 1) rfl PyProof.Rows.boot_tuple B.isinstance B.tuple)))) (fun h => by simp at h) (fun _ => sd_nil ?_)
  refine sd_ret false (E.cast (e_and (e_eqI (e_lenL (e_var 0) B.len) (e_lenL (e_var 1) B.len)) fun _ => e_one (e_all (bs := (List.range es.length).map fun _ => true) (E.cast (e_map (m := true) (me := true) ["_law_one", "_law_due"] [0, 1] (fun _ => .bl true) (it_range (n := ((es.length : Nat) : Int)) (m := true) (e_lenL (e_var 1) B.len) (by omega) (by omega) B.range) (fun C s H fp d hd => ?_) ?_) ?_) hr.hd B.all)) ?_) rfl
  · obtain ⟨k, hk, rfl⟩ := List.mem_map.mp hd
    have hk' : k < es.length := by simpa using hk
    have hg : es[k]? = some es[k] := List.getElem?_eq_getElem hk'
    exact e_call (dA m hm) (by rw [<- hm]; exact hr) (ea_cons (e_ixL (d := es[k]) (e_var 1) (e_var 0) (atI_get (by omega) (by rw [show ((0 : Int) + (k : Nat)).toNat = k by omega]; exact hg))) (ea_one (e_ixL (d := es[k]) (e_var 2) (e_var 0) (atI_get (by omega) (by rw [show ((0 : Int) + (k : Nat)).toNat = k by omega]; exact hg))))) (deep hm hp k _ hg)
  · rw [rangeD_len]
    exact Nat.le_trans (show _ <= 100000 by omega) (by decide)
  · simp [rangeD, Function.comp_def]
  · simp
 | tup es =>
  unfold plD' at hx
  obtain ⟨m, hm, hz, hp⟩ := hx
  refine sd_if (t_val (e_isiF (e_var 1) rfl PyProof.Rows.boot_str B.isinstance B.str)) (fun h => by simp at h) (fun _ => sd_nil ?_)
  refine sd_if (t_val (e_isiF (e_var 1) rfl PyProof.Rows.boot_int B.isinstance B.int)) (fun h => by simp at h) (fun _ => sd_nil ?_)
  refine sd_if (TW.t (tw_or (t_neB (e_isiF (e_var 0) rfl PyProof.Rows.boot_list B.isinstance B.list) (e_isiF (e_var 1) rfl PyProof.Rows.boot_list B.isinstance B.list)) fun _ => tw_or1 (t_neB (e_isi (b := true) (e_var 0) rfl PyProof.Rows.boot_tuple B.isinstance B.tuple) (e_isi (b := true) (e_var 1) rfl PyProof.Rows.boot_tuple B.isinstance B.tuple)))) (fun h => by simp at h) (fun _ => sd_nil ?_)
  refine sd_ret false (E.cast (e_and (e_eqI (e_lenT (e_var 0) B.len) (e_lenT (e_var 1) B.len)) fun _ => e_one (e_all (bs := (List.range es.length).map fun _ => true) (E.cast (e_map (m := true) (me := true) ["_law_one", "_law_due"] [0, 1] (fun _ => .bl true) (it_range (n := ((es.length : Nat) : Int)) (m := true) (e_lenT (e_var 1) B.len) (by omega) (by omega) B.range) (fun C s H fp d hd => ?_) ?_) ?_) hr.hd B.all)) ?_) rfl
  · obtain ⟨k, hk, rfl⟩ := List.mem_map.mp hd
    have hk' : k < es.length := by simpa using hk
    have hg : es[k]? = some es[k] := List.getElem?_eq_getElem hk'
    exact e_call (dA m hm) (by rw [<- hm]; exact hr) (ea_cons (e_ixT (d := es[k]) (e_var 1) (e_var 0) (atI_get (by omega) (by rw [show ((0 : Int) + (k : Nat)).toNat = k by omega]; exact hg))) (ea_one (e_ixT (d := es[k]) (e_var 2) (e_var 0) (atI_get (by omega) (by rw [show ((0 : Int) + (k : Nat)).toNat = k by omega]; exact hg))))) (deep hm hp k _ hg)
  · rw [rangeD_len]
    exact Nat.le_trans (show _ <= 100000 by omega) (by decide)
  · simp [rangeD, Function.comp_def]
  · simp
 | _ => unfold plD' at hx; exact hx.elim
theorem ok_alike {f : Addr} {fd : FuncData} (Fx : Fun K "_law_alike" "_law_alike" s_law_alike f fd) (hmg : mg "_law_alike" = some (.ref f)) (hb : Binds K fd ["_law_one", "_law_due"] []) (B : Blt mg) : ∀ n, Def P w K mg base (n + 1) "_law_alike" true (gAlk n)
 | 0 => ok_law_alike Fx hmg hb B 0 fun m hm => absurd hm (by omega)
 | n + 1 => ok_law_alike Fx hmg hb B (n + 1) fun m hm => by
  cases hm
  exact ok_alike Fx hmg hb B n
end
section
variable {P : Program} {w : World} {K : PySem.W.Frag} {mg : Str -> Option Value} {base : Heap}
def takenR (s : List (List (List Pt))) (q : List (List Pt)) (x : Tk) (dO' d' : D) : Prop :=
 (Can (s ++ [q]) x.1 ∧ ∃ s' q', takeT (s ++ [q]) x.1 = s' ++ [q'] ∧ dO' = .lst (s'.map questD) ∧ d' = questD q') ∨ (Bad (s ++ [q]) x.1 ∧ dO' = .lst (s.map questD) ∧ d' = .non)
theorem ok_law_taken {f : Addr} {fd : FuncData} (Fx : Fun K "_law_taken" "_law_taken" s_law_taken f fd) (B : Blt mg) {n : Nat} {s : List (List (List Pt))} {q : List (List Pt)} {x : Tk} {dO' d' : D} (hn : n <= 500) (sh : Shp n (s ++ [q])) (lv : Lv (s ++ [q])) (tk : TkOk x) (ht : takenR s q x dO' d') :
 FnOk P w K mg base CX0 1 f fd ["_law_token_here", "_law_opened", "_law_question"] (spM2 K [tkD x] (.lst (s.map questD)) (questD q) dO' d') := by
 have fl : (optD x.2).flat = true := by
  rcases tk.is with ⟨e, _⟩ | ⟨p, e, hp, hn, _⟩
  · rw [e]; rfl
  · rw [e]
    cases p with
    | inn q => exact absurd rfl (hn q)
    | _ => simp [optD, ptD, D.flat, flats]
 have flx : flats [tkD x] = true := by simp [tkD, flats, D.flat, fl]
 refine fnM2 (k := 0) Fx sc_law_taken rfl (show 1 + 1 < 6 by decide) flx fun cdv A outer s0 H Ex F u hr => ?_
 have nd := sc_law_taken.nd
 obtain ⟨q0, r0, rfl⟩ : ∃ q0 r0, q = q0 ++ [r0] := ⟨_, _, (List.dropLast_concat_getLast (sh.rows q (by simp))).symm⟩
 have hlv := lv.lv s.length (q0 ++ [r0]) (by simp)
 have hrow : psOk r0 (20 - s.length) := qOk_iff.mp hlv r0 (by simp)
 have hdr : (D.lst (psDs r0)).dep <= 62 := by
  have := dep_psk r0 hrow
  unfold D.dep
  omega
 have hdo : (D.lst (s.map questD)).dep <= 64 := dep_lst fun d hd => by
  obtain ⟨o, ho, rfl⟩ := List.mem_map.mp hd
  obtain ⟨i, hi⟩ := List.getElem?_of_mem ho
  have := dep_quest (lv.lv i o (by rw [List.getElem?_append_left (List.getElem?_eq_some_iff.mp hi).1]; exact hi))
  omega
 have hol : s.length < 100000 := by have := lv.len; simp at this; omega
 have hql : (q0 ++ [r0]).length < 100000 := by have := sh.ql (q0 ++ [r0]) (by simp); omega
 have hrl : r0.length < 100000 := by have := sh.rl (q0 ++ [r0]) (by simp) r0 (by simp); omega
 have eLast : lastR ((s ++ [q0 ++ [r0]]).getLastD []) = r0 := by simp [lastR]
 have eLen : (s ++ [q0 ++ [r0]]).length = s.length + 1 := by simp
 refine sd_pairN 3 4 (d1 := .str (mkS x.1)) (d2 := optD x.2) (E.flat (e_var 0) (by simp [tkD, flats, D.flat, fl])) ?_ ⟨by simp [startM2, startD], by simp [startM2, startD]⟩ nd
 have m40 : (mkS x.1 = "(") ↔ x.1 = [40] := by rw [show ("(" : Str) = mkS [40] from rfl, mkS_inj]
 have m124 : (mkS x.1 = "|") ↔ x.1 = [124] := by rw [show ("|" : Str) = mkS [124] from rfl, mkS_inj]
 have m41 : (mkS x.1 = ")") ↔ x.1 = [41] := by rw [show (")" : Str) = mkS [41] from rfl, mkS_inj]
 -- (
 refine sd_if (b := decide (x.1 = [40] ∧ s.length < 20)) (T.castB (TW.t (tw_and (t_eqS (e_var 3) e_str) fun _ => tw_and1 (t_ltI (e_lenL (ds := s.map questD) (e_var 1) B.len) e_int))) ?c1) (fun h => ?_) (fun h => sd_nil ?_)
 case c1 => rw [Bool.eq_iff_iff]; simp [m40]; intro _; omega
 · obtain ⟨h1, h2⟩ := of_decide_eq_true h
   have ht' : dO' = .lst ((s ++ [q0 ++ [r0]]).map questD) ∧ d' = questD [[]] := by
    rcases ht with ⟨_, s', q', e, e1, e2⟩ | ⟨b, _⟩
    · rw [h1, show takeT (s ++ [q0 ++ [r0]]) [40] = (s ++ [q0 ++ [r0]]) ++ [[[]]] by simp [takeT]] at e
      obtain ⟨a1, a2⟩ := List.append_inj' e rfl
      rw [<- a1] at e1
      rw [<- List.cons.inj a2 |>.1] at e2
      exact ⟨e1, e2⟩
    · rw [h1] at b
      rcases b with ⟨_, z⟩ | ⟨z, _⟩ | ⟨z, _⟩ | ⟨z, _⟩
      · rw [eLen] at z; omega
      · cases z
      · cases z
      · exact absurd rfl z
   obtain ⟨rfl, rfl⟩ := ht'
   refine sd_trMoveG (.trl u) (tree_trl u) 1 2 (pt := []) (e' := questD (q0 ++ [r0])) (n := s.length) (by decide) rfl rfl en_name (.here (by rw [List.length_map])) hol em_name ?_
   refine sd_retMN (et_lst (eta_cons (et_lst eta_nil) eta_nil)) ⟨?_, rfl⟩
   rw [List.map_append]
   rfl
 have n40 : ¬(x.1 = [40] ∧ s.length < 20) := of_decide_eq_false h
 -- |
 refine sd_if (b := decide (x.1 = [124] ∧ r0 ≠ [])) (T.castB (TW.t (tw_and (t_eqS (e_var 3) e_str) fun _ => tw_and1 (t_neD (e_ixL (ds := qDs q0 ++ [.lst (psDs r0)]) (E.cast (e_var 2) (quest_snoc q0 r0)) (e_neg e_int) (last_at q0 r0)) (e_lst ea_nil) rfl (roomD hr hdr)))) ?c2) (fun h => ?_) (fun h => sd_nil ?_)
 case c2 => rw [row_empty, Bool.eq_iff_iff]; simp [m124]
 · obtain ⟨h1, h2⟩ := of_decide_eq_true h
   have ht' : dO' = .lst (s.map questD) ∧ d' = questD ((q0 ++ [r0]) ++ [[]]) := by
    rcases ht with ⟨_, s', q', e, e1, e2⟩ | ⟨b, _⟩
    · rw [h1, show takeT (s ++ [q0 ++ [r0]]) [124] = s ++ [(q0 ++ [r0]) ++ [[]]] by simp [takeT]] at e
      obtain ⟨a1, a2⟩ := List.append_inj' e rfl
      rw [<- a1] at e1
      rw [<- List.cons.inj a2 |>.1] at e2
      exact ⟨e1, e2⟩
    · rw [h1] at b
      rcases b with ⟨z, _⟩ | ⟨_, z⟩ | ⟨z, _⟩ | ⟨_, z, _⟩
      · cases z
      · rw [eLast] at z; exact absurd z h2
      · cases z
      · exact absurd rfl z
   obtain ⟨rfl, rfl⟩ := ht'
   exact sd_trApp 2 (pt := []) rfl en_name (up_bar (q0 ++ [r0])) hql (et_lst eta_nil) (sd_retM 2 rfl fun v => ⟨rfl, rfl⟩)
 have n124 : ¬(x.1 = [124] ∧ r0 ≠ []) := of_decide_eq_false h
 -- )
 refine sd_if (b := decide (x.1 = [41] ∧ r0 ≠ [] ∧ s ≠ [])) (T.castB (TW.t (tw_and (t_eqS (e_var 3) e_str) fun _ => tw_and (t_neD (e_ixL (ds := qDs q0 ++ [.lst (psDs r0)]) (E.cast (e_var 2) (quest_snoc q0 r0)) (e_neg e_int) (last_at q0 r0)) (e_lst ea_nil) rfl (roomD hr hdr)) fun _ => tw_and1 (t_neD (d := .lst (s.map questD)) (e_var 1) (e_lst ea_nil) rfl (roomD hr hdo)))) ?c3) (fun h => ?_) (fun h => sd_nil ?_)
 case c3 => rw [row_empty, opn_empty, Bool.eq_iff_iff]; simp [m41]
 · obtain ⟨h1, h2, h3⟩ := of_decide_eq_true h
   obtain ⟨s', o, rfl⟩ : ∃ s' o, s = s' ++ [o] := ⟨_, _, (List.dropLast_concat_getLast h3).symm⟩
   obtain ⟨o0, ro, rfl⟩ : ∃ q0 r0, o = q0 ++ [r0] := ⟨_, _, (List.dropLast_concat_getLast (sh.rows o (by simp))).symm⟩
   have ht' : dO' = .lst (s'.map questD) ∧ d' = questD (addL (o0 ++ [ro]) (.inn (q0 ++ [r0]))) := by
    rcases ht with ⟨_, s2, q', e, e1, e2⟩ | ⟨b, _⟩
    · rw [h1, show takeT (s' ++ [o0 ++ [ro]] ++ [q0 ++ [r0]]) [41] = s' ++ [addL (o0 ++ [ro]) (.inn (q0 ++ [r0]))] by simp [takeT]] at e
      obtain ⟨a1, a2⟩ := List.append_inj' e rfl
      rw [<- a1] at e1
      rw [<- List.cons.inj a2 |>.1] at e2
      exact ⟨e1, e2⟩
    · rw [h1] at b
      rcases b with ⟨z, _⟩ | ⟨z, _⟩ | ⟨_, z | z⟩ | ⟨_, _, z, _⟩
      · cases z
      · cases z
      · rw [eLast] at z; exact absurd z h2
      · rw [eLen] at z; simp at z
      · exact absurd rfl z
   obtain ⟨rfl, rfl⟩ := ht'
   have hol2 : ro.length < 100000 := by have := sh.rl (o0 ++ [ro]) (by simp) ro (by simp); omega
   refine sd_trName 2 5 (by decide) rfl ?_ nd (hρ := by simp [startM2, startD])
   refine sd_trPopG (.trl u) (tree_trl u) 1 2 (ds := s'.map questD) (d := questD (o0 ++ [ro])) (by decide) (by rw [List.map_append]; rfl) ?_ nd (hρ := by simp [startM2, startD])
   exact sd_trMove 2 5 (pt := [(true, -1)]) (e' := ptD (.inn (q0 ++ [r0]))) (by decide) rfl rfl (en_ixL en_name (e_neg e_int)) (up_last o0 ro (.inn (q0 ++ [r0]))) hol2 (em_tup e_str rfl em_name) (sd_retM 2 rfl fun v => ⟨rfl, rfl⟩)
 have n41 : ¬(x.1 = [41] ∧ r0 ≠ [] ∧ s ≠ []) := of_decide_eq_false h
 rcases tk.is with ⟨e, hm⟩ | ⟨p, e, hp, hnn, et⟩
 · -- none
   have bad : Bad (s ++ [q0 ++ [r0]]) x.1 := by
    rcases hm with z | z | z | z
    · exact .inl ⟨z, by rw [eLen]; have : ¬ s.length < 20 := fun y => n40 ⟨z, y⟩; omega⟩
    · exact .inr (.inl ⟨z, by rw [eLast]; exact Classical.byContradiction fun y => n124 ⟨z, y⟩⟩)
    · refine .inr (.inr (.inl ⟨z, ?_⟩))
      rw [eLast, eLen]
      by_cases y : r0 = []
      · exact .inl y
      · right
        have : s = [] := Classical.byContradiction fun y2 => n41 ⟨z, y, y2⟩
        rw [this]
        simp
    · exact .inr (.inr (.inr z))
   have ht' : dO' = .lst (s.map questD) ∧ d' = .non := by
    rcases ht with ⟨c, _⟩ | ⟨_, e1, e2⟩
    · exact absurd bad (can_bad c)
    · exact ⟨e1, e2⟩
   obtain ⟨rfl, rfl⟩ := ht'
   refine sd_if (b := true) (t_isNo (E.cast (e_var 4) (by rw [e]; rfl)) e_non) (fun _ => ?_) (fun h => by cases h)
   exact sd_retMN (et_flat e_non rfl) ⟨rfl, rfl⟩
 · obtain ⟨k1, k2, k3⟩ := tP_marks hp hnn
   have ht' : dO' = .lst (s.map questD) ∧ d' = questD (addL (q0 ++ [r0]) p) := by
    rcases ht with ⟨_, s', q', e', e1, e2⟩ | ⟨b, _⟩
    · rw [et, take_one hp hnn s] at e'
      obtain ⟨a1, a2⟩ := List.append_inj' e' rfl
      rw [<- a1] at e1
      rw [<- List.cons.inj a2 |>.1] at e2
      exact ⟨e1, e2⟩
    · exact absurd b (can_bad (.inr (.inr (.inr ⟨p, 0, et, hp, hnn⟩))))
   obtain ⟨rfl, rfl⟩ := ht'
   obtain ⟨ds, ed⟩ := ptD_tup p
   have e4 : optD x.2 = .tup ds := by rw [e]; exact ed
   have flp : (ptD p).flat = true := by rw [e] at fl; exact fl
   refine sd_if (b := false) (t_isNT (E.cast (e_var 4) e4) e_non) (fun h => by cases h) (fun _ => sd_nil ?_)
   exact sd_trApp 2 (pt := [(true, -1)]) rfl (en_ixL en_name (e_neg e_int)) (up_last q0 r0 p) hrl (et_flat (E.cast (e_var 4) (by rw [e]; rfl)) flp) (sd_retM 2 rfl fun v => ⟨rfl, rfl⟩)
end
section
variable {P : Program} {w : World} {K : PySem.W.Frag} {mg : Str -> Option Value} {base : Heap}
theorem read_go {fT : Addr} {fdT : FuncData} {f : Addr} (B : Blt mg) (FT : Fun K "_law_taken" "_law_taken" s_law_taken fT fdT) (hT : mg "_law_taken" = some (.ref fT)) (bT : Binds K fdT ["_law_token_here", "_law_opened", "_law_question"] [])
 {cdv : Value} {A : Around} {outer : List Env} {s0 : Shared} {H : Hp} {Ex : XK} {Z : Zone} {d : D} (hr : Room 1 (A.deeper (envOfC "_law_read" (defScope s_law_read) s0.heap.objs.size f cdv))) {l : List Tk} (hl : ∀ x ∈ l, TkOk x) (hz : l.length <= 400) {kk : Nat} (hk : kk <= l.length) (g : Good [[[]]] ((tx l).take kk))
 (hb : kk < l.length -> ∃ t, (tx l)[kk]? = some t ∧ Bad (readT [[[]]] ((tx l).take kk)) t ∧ d = .tup [.non, .int ((kk : Nat) : Int)])
 (he : kk = l.length -> ((lastR ((readT [[[]]] (tx l)).getLastD []) = [] ∨ 2 <= (readT [[[]]] (tx l)).length) ∧ d = .tup [.non, .int ((l.length : Nat) : Int)]) ∨ ∃ q, readT [[[]]] (tx l) = [q] ∧ lastR q ≠ [] ∧ d = .tup [questD q, .int 0]) :
 SD (cxOf CX0 P w K mg base ["_law_tokens_here", "_law_opened", "_law_question", "_law_at"] "_law_read" (defScope s_law_read) f cdv A outer s0 H Ex).nox ⟨true, Z, H⟩ (defBody s_law_read) (startD ["_law_tokens_here", "_law_opened", "_law_question", "_law_at"] [tksD l]) { nx := fun r => d = .non, rt := fun d' => d' = d } := by
 have nd := sc_law_read.nd
 have hlen : (l.map tkD).length = l.length := by simp
 have htl : (tx l).length = l.length := by simp
 refine sd_setT 1 (d := .lst []) (et_lst eta_nil) ?_ nd
 refine sd_setT 2 (d := questD [[]]) (et_lst (eta_cons (et_lst eta_nil) eta_nil)) ?_ nd
 refine sd_forF 3 (ds := rangeD 0 l.length) (fun n r => ∃ o3 s q, r = [some (.pl false (tksD l)), some (.tr (.lst (s.map questD))), some (.tr (questD q)), o3] ∧ n <= kk ∧ readT [[[]]] ((tx l).take n) = s ++ [q])
  (it_rangeL (n := l.length) (E.cast (e_lenL (ds := l.map tkD) (e_var 0) B.len) (by rw [hlen])) B.range (by omega)) flat_range ⟨none, [], [[]], rfl, Nat.zero_le _, rfl⟩ (by rintro n r ⟨_, _, _, e, _⟩; subst e; simp) ?_ ?_ nd
 · rintro n dd r hd ⟨o3, s, q, e, hnk, hs⟩
   subst e
   obtain ⟨hn, rfl⟩ := rangeD0_get hd
   have gn : Good [[[]]] ((tx l).take n) := by
    have := good_take n g
    rwa [List.take_take, Nat.min_eq_left hnk] at this
   obtain ⟨s1, q0, r0, es, sh, lv⟩ := st_at gn (by omega)
   rw [hs] at es
   obtain ⟨e1, e2⟩ := List.append_inj' es rfl
   cases e1
   cases e2
   obtain ⟨x, hx⟩ : ∃ x, l[n]? = some x := ⟨_, List.getElem?_eq_getElem hn⟩
   have hxt : (tx l)[n]? = some x.1 := by rw [List.getElem?_map, hx]; rfl
   have tk := hl x (List.mem_of_getElem? hx)
   have hat : atI (l.map tkD) ((n : Nat) : Int) = some (tkD x) := atI_nat (by rw [List.getElem?_map, hx]; rfl)
   have step : readT [[[]]] ((tx l).take (n + 1)) = takeT (s ++ [q0 ++ [r0]]) x.1 := by
    rw [List.take_add_one, hxt, readT_app, hs]
    rfl
   by_cases hlt : n < kk
   · have c : Can (s ++ [q0 ++ [r0]]) x.1 := by
      have := good_at (n := n) (t := x.1) g (by rw [List.getElem?_take, if_pos hlt]; exact hxt)
      rwa [List.take_take, Nat.min_eq_left hnk, hs] at this
     have sh2 := shp_step sh c
     obtain ⟨s2, q2, e2⟩ : ∃ s' q', takeT (s ++ [q0 ++ [r0]]) x.1 = s' ++ [q'] := ⟨_, _, (List.dropLast_concat_getLast sh2.ne).symm⟩
     refine sd_callM2 1 2 (ok_law_taken (dO' := .lst (s2.map questD)) (d' := questD q2) FT B (by omega) sh lv tk (.inl ⟨c, s2, q2, e2, rfl, rfl⟩)) bT FT.kp hT hr (by decide) rfl rfl (e_ixL (ds := l.map tkD) (e_var 0) (e_var 3) hat) ?_ nd
     refine sd_if (b := false) (t_isNL (ds := qDs q2) (e_var 2) e_non) (fun h => by cases h) (fun _ => sd_nil (sd_nil ⟨_, s2, q2, rfl, hlt, by rw [step, e2]⟩))
   · have hkn : n = kk := by omega
     obtain ⟨t, ht, bad, ed⟩ := hb (by omega)
     rw [<- hkn] at ht bad ed
     rw [hxt] at ht
     cases ht
     rw [hs] at bad
     subst ed
     refine sd_callM2 1 2 (ok_law_taken (dO' := .lst (s.map questD)) (d' := .non) FT B (by omega) sh lv tk (.inr ⟨bad, rfl, rfl⟩)) bT FT.kp hT hr (by decide) rfl rfl (e_ixL (ds := l.map tkD) (e_var 0) (e_var 3) hat) ?_ nd
     exact sd_if (b := true) (t_isNo (e_var 2) e_non) (fun _ => sd_ret false (e_tupF (eaf_cons e_non (eaf_cons (E.flat (e_var 3) rfl) eaf_nil))) rfl) (fun h => by cases h)
 · rintro r ⟨o3, s, q, e, hnk, hs⟩
   subst e
   rw [rangeD_len] at hnk hs
   have hkl : kk = l.length := by omega
   have ga : Good [[[]]] (tx l) := by
    rw [hkl, <- htl, List.take_length] at g
    exact g
   have el : (tx l).take l.length = tx l := by rw [<- htl, List.take_length]
   obtain ⟨s1, q0, r0, es, sh, lv⟩ := st_at (ts := tx l) (n := l.length) (by rw [el]; exact ga) (by rw [htl]; omega)
   rw [hs] at es
   obtain ⟨e1, e2⟩ := List.append_inj' es rfl
   cases e1
   cases e2
   rw [el] at hs
   have hdr : (D.lst (psDs r0)).dep <= 62 := by
    have := dep_psk r0 (qOk_iff.mp (lv.lv s.length (q0 ++ [r0]) (by simp)) r0 (by simp))
    unfold D.dep
    omega
   have hdo : (D.lst (s.map questD)).dep <= 64 := dep_lst fun d hd => by
    obtain ⟨o, ho, rfl⟩ := List.mem_map.mp hd
    obtain ⟨i, hi⟩ := List.getElem?_of_mem ho
    have := dep_quest (lv.lv i o (by rw [List.getElem?_append_left (List.getElem?_eq_some_iff.mp hi).1]; exact hi))
    omega
   refine sd_if (T.castB (TW.t (tw_or (t_neD (d := .lst (s.map questD)) (e_var 1) (e_lst ea_nil) rfl (roomD hr hdo)) fun _ => tw_or1 (t_eqD (e_ixL (ds := qDs q0 ++ [.lst (psDs r0)]) (E.cast (e_var 2) (quest_snoc q0 r0)) (e_neg e_int) (last_at q0 r0)) (e_lst ea_nil) rfl (roomD hr hdr)))) (show _ = decide (s ≠ [] ∨ r0 = []) by rw [opn_empty, row_empty, Bool.eq_iff_iff]; simp)) (fun h => ?_) (fun h => sd_nil ?_)
   · have hc := of_decide_eq_true h
     have ed : d = .tup [.non, .int ((l.length : Nat) : Int)] := by
      rcases he hkl with ⟨_, ed⟩ | ⟨q, eq, hq, _⟩
      · exact ed
      · rw [hs] at eq
        obtain ⟨z1, z2⟩ := List.append_inj' (t₁ := [q0 ++ [r0]]) (s₂ := []) eq rfl
        rw [<- (List.cons.inj z2).1, lastR_snoc] at hq
        exact absurd hc (by simp [z1, hq])
     subst ed
     exact sd_ret false (E.cast (e_tupF (eaf_cons e_non (eaf_cons (e_lenL (ds := l.map tkD) (e_var 0) B.len) eaf_nil))) (by rw [hlen])) rfl
   · have hc := of_decide_eq_false h
     have hs0 : s = [] := Classical.byContradiction fun z => hc (.inl z)
     have hr0 : r0 ≠ [] := fun z => hc (.inr z)
     subst hs0
     have ed : d = .tup [questD (q0 ++ [r0]), .int 0] := by
      rcases he hkl with ⟨z, _⟩ | ⟨q, eq, hq, ed⟩
      · rw [hs] at z
        rcases z with z | z
        · exact absurd (by simpa [lastR] using z) hr0
        · simp at z
      · rw [hs] at eq
        rw [ed, <- (List.cons.inj eq).1]
     subst ed
     exact sd_ret true (e_tup (ea_cons (e_var 2) (ea_one e_int))) rfl
theorem ok_law_read {f : Addr} {fd : FuncData} (Fx : Fun K "_law_read" "_law_read" s_law_read f fd) (hmg : mg "_law_read" = some (.ref f)) (hb : Binds K fd ["_law_tokens_here"] []) (B : Blt mg) {fT : Addr} {fdT : FuncData} (FT : Fun K "_law_taken" "_law_taken" s_law_taken fT fdT) (hT : mg "_law_taken" = some (.ref fT)) (bT : Binds K fdT ["_law_token_here", "_law_opened", "_law_question"] []) : Def P w K mg base 2 "_law_read" true gLRead := by
 refine def_of (k := 1) Fx sc_law_read hmg hb (by rintro ds d ⟨l, _, _, e1, _⟩; subst e1; rfl) ?_
 rintro cdv A outer s H Ex Z ds d hr ⟨l, hl, hz, e1, h⟩
 subst e1
 have htl : (tx l).length = l.length := by simp
 rcases h with ⟨k, t, g, ht, b, ed⟩ | ⟨g, h, ed⟩ | ⟨g, h⟩
 · have hk : k < l.length := by have := (List.getElem?_eq_some_iff.mp ht).1; omega
   exact read_go B FT hT bT hr hl hz (kk := k) (by omega) g (fun _ => ⟨t, ht, b, ed⟩) fun z => by omega
 · exact read_go B FT hT bT hr hl hz (kk := l.length) (Nat.le_refl _) (by rw [<- htl, List.take_length]; exact g) (fun z => by omega) fun _ => .inl ⟨h, ed⟩
 · exact read_go B FT hT bT hr hl hz (kk := l.length) (Nat.le_refl _) (by rw [<- htl, List.take_length]; exact g) (fun z => by omega) fun _ => .inr h
end
section
variable {P : Program} {w : World} {K : PySem.W.Frag} {mg : Str -> Option Value} {base : Heap}
theorem ok_law_token {f : Addr} {fd : FuncData} (Fx : Fun K "_law_token" "_law_token" s_law_token f fd) (hmg : mg "_law_token" = some (.ref f)) (hb : Binds K fd ["_law_cell", "_law_spoiled"] []) (B : Blt mg) (dP : Def P w K mg base 1 "_law_part" true gPart) (dS : Def P w K mg base 3 "_law_single" true gSingle) : Def P w K mg base 4 "_law_token" true gTok2 := by
 refine def_of (k := 3) Fx sc_law_token hmg hb (by rintro ds d ⟨c, sp, e1, e2⟩; subst e1; rfl) ?_
 rintro cdv A outer s H Ex Z ds d hr ⟨c, sp, e1, e2⟩
 subst e1 e2
 have nd := sc_law_token.nd
 have hr1 : Room 1 _ := hr.mono (by decide)
 have hu := hu_of hr
 refine sd_setF 2 (d := .int (part c 52 12)) (e_call dP hr1 (ea_cons (e_var 0) (ea_cons e_int (ea_one e_int))) ⟨_, _, _, by decide, rfl, rfl⟩) rfl ?_ nd
 refine sd_if (b := sp && decide (part c 53 30 = 1)) (TW.t (tw_and (t_val (e_var 1)) fun _ => tw_and1 (t_eqI (e_call dP hr1 (ea_cons (e_var 0) (ea_cons e_int (ea_one e_int))) ⟨_, _, _, by decide, rfl, rfl⟩) e_int))) (fun h => ?_) (fun h => sd_nil ?_)
 · have ht : tokK c sp = (badC c, none) := by unfold tokK; rw [if_pos h]
   rw [ht]
   have h0 := Int.emod_nonneg c (show (10 : Int) ≠ 0 by decide)
   have h1 := Int.emod_lt_of_pos c (show (0 : Int) < 10 by decide)
   have hat : atI (badK.map D.str) (c % 10) = some (.str (mkS (badC c))) := by
    refine atI_get h0 ?_
    unfold badC
    rw [mkS_cl, List.getElem?_map, List.getD_eq_getElem?_getD, List.getElem?_eq_getElem (show (c % 10).toNat < badK.length by show (c % 10).toNat < 10; omega)]
    rfl
   generalize badC c = t at hat ⊢
   refine SDS.ok ?_
   refine sds_ret (m1 := true) false (d := .tup [.str (mkS t), .non]) ?e1 rfl (fun _ => .inr rfl)
   case e1 =>
    refine es_tupF (esf_cons (d := .str (mkS t)) ?_ (esf_cons ⟨e_non⟩ esf_nil (star_ne rfl)) (star_ne rfl)) (show 2 <= 1000 by decide)
    refine es_ixL (m2 := true) (ds := badK.map D.str) (i := c % 10) ?_ ⟨e_mod (e_var 0) e_int (by decide)⟩ hat (by intro _ _; rfl)
    refine es_lstN (ds := badK.map D.str) ?_ (flats_strs _) (by decide)
    iterate 10 refine esa_cons (m1 := true) ⟨e_str⟩ ?_ (star_ne rfl)
    exact esa_nil
 unfold tokK
 rw [if_neg (by rw [h]; decide)]
 refine sd_if (t_ltI (e_var 2) e_int) (fun h => ?_) (fun h => sd_nil ?_)
 · rw [if_pos (of_decide_eq_true h)]
   exact sd_ret false (E.cast (e_tupF (eaf_cons e_str (eaf_cons e_non eaf_nil))) rfl) rfl
 rw [if_neg (of_decide_eq_false h)]
 refine sd_if (t_ltI (e_var 2) e_int) (fun h => ?_) (fun h => sd_nil ?_)
 · rw [if_pos (of_decide_eq_true h)]
   exact sd_ret false (E.cast (e_tupF (eaf_cons e_str (eaf_cons e_non eaf_nil))) rfl) rfl
 rw [if_neg (of_decide_eq_false h)]
 refine sd_if (t_eqI (e_var 2) e_int) (fun h => ?_) (fun h => sd_nil ?_)
 · rw [if_pos (of_decide_eq_true h)]
   exact sd_ret false (E.cast (e_tupF (eaf_cons e_str (eaf_cons e_non eaf_nil))) rfl) rfl
 rw [if_neg (of_decide_eq_false h)]
 have fl := flat_single c
 refine sd_setF 3 (d := ptD (singleP c)) (e_call dS hr (ea_one (e_var 0)) ⟨c, rfl, rfl⟩) fl ?_ nd
 obtain ⟨hw, hlen⟩ := single_ok c 0
 have hno := single_no c
 generalize singleP c = p at fl hw hlen hno
 have big : ∀ {x y : Str}, x.length <= 50 -> y.length <= 50 -> x.length + y.length <= sizeLine := fun {x y} h1 h2 => Nat.le_trans (show _ <= 100 by omega) (by decide)
 rcases tk_text hw hno hlen with ⟨m, rfl, hm⟩ | ⟨ds, kd, z, ep, fd', h1, h2, hz, hk, hv⟩
 · refine sd_if (t_eqS (e_ixT (d := .str "upto") (e_var 3) e_int rfl) e_str) (fun _ => ?_) (fun h => by exfalso; revert h; decide +kernel)
   refine sd_ret false (e_tupF (eaf_cons (d := .str (mkS (tP (.upto m)))) (E.cast (e_addS (x := "..") e_str (e_strI (e_ixT (d := .int ((m : Nat) : Int)) (e_var 3) e_int rfl) ?_ B.str) ?_) ?_) (eaf_cons (E.flat (e_var 3) fl) eaf_nil))) rfl
   · have : m = 0 ∨ m = 1 ∨ m = 2 ∨ m = 3 ∨ m = 4 ∨ m = 5 ∨ m = 6 ∨ m = 7 ∨ m = 8 ∨ m = 9 := by omega
     rcases this with rfl | rfl | rfl | rfl | rfl | rfl | rfl | rfl | rfl | rfl <;> decide +kernel
   · rw [<- cl_len (toString ((m : Nat) : Int) : Str), digit_str hm]
     show 2 + 1 <= sizeLine
     decide
   · refine congrArg D.str (cl_inj ?_)
     rw [cl_append, cl_mkS, digit_str hm]
     unfold tP
     rfl
 · have et : tkD (tP p, some p) = .tup [.str (mkS (tP p)), ptD p] := rfl
   rw [et]
   generalize mkS (tP p) = t at hv ⊢
   rw [ep] at fl ⊢
   refine sd_if (b := false) (T.castB (t_eqS (e_ixT (d := .str kd) (e_var 3) e_int h1) e_str) hk) (fun h => by cases h) (fun _ => sd_nil ?_)
   refine SDS.ok ?_
   refine sds_setN 4 (d := .dct (.k (txtD z))) ?e2 ?r2 nd rfl (.inl rfl) (by simp [startD]) ?s2 (.inl rfl)
   case s2 => kernel_rfl
   case e2 => exact ⟨e_disp4 e_str (e_ixT (d := .str z) (e_var 3) (e_neg e_int) h2) (e_addS (e_ixT (d := .str z) (e_var 3) (e_neg e_int) h2) e_str (big (by omega) (by decide))) (e_addS e_str (e_ixT (d := .str z) (e_var 3) (e_neg e_int) h2) (big (by decide) (by omega)))⟩
   refine sds_ret (m1 := true) false (d := .tup [.str t, .tup ds]) ?e3 rfl (fun _ => .inr rfl)
   exact ⟨e_tupF (eaf_cons (d := .str t) (e_dsub (D0 := .k (txtD z)) (v := .str t) (e_var 4) (e_ixT (d := .str kd) (e_var 3) e_int h1) ⟨.inr kd, rfl, hv⟩ rfl hu) (eaf_cons (E.flat (e_var 3) fl) eaf_nil))⟩
end
section
variable {P : Program} {w : World} {K : PySem.W.Frag} {mg : Str -> Option Value} {base : Heap}
theorem ok_law_tokens {f : Addr} {fd : FuncData} (Fx : Fun K "_law_tokens" "_law_tokens" s_law_tokens f fd) (hmg : mg "_law_tokens" = some (.ref f)) (hb : Binds K fd ["_law_script"] []) (B : Blt mg) (dT : Def P w K mg base 4 "_law_token" true gTok2) (dC : Def P w K mg base 1 "_law_cell_at" true gCellAt) : Def P w K mg base 5 "_law_tokens" true gToks := by
 refine def_of (k := 4) Fx sc_law_tokens hmg hb (by rintro ds d ⟨ns, hz, e1, e2⟩; subst e1; rfl) ?_
 rintro cdv A outer s H Ex Z ds d hr ⟨ns, hz, e1, e2⟩
 subst e1 e2
 have nd := sc_law_tokens.nd
 have hr1 : Room 1 _ := hr.mono (by decide)
 have hcl : (cut ns (some 2) (some 120)).length <= 63 := Nat.le_trans (cut_le _ _ _) hz
 have hcut : cut (ns.map D.int) (some 2) (some 120) = (cut ns (some 2) (some 120)).map D.int := cut_map _ _ _ _
 generalize cut ns (some 2) (some 120) = cells at hcl hcut
 generalize hsp : decide (cellAt ns 0 % 3 = 1) = sp
 refine sd_own 1 (e_lstN ea_nil) rfl ?_ nd
 refine sd_setF 2 (d := .int 0) e_int rfl ?_ nd
 refine sd_forF 3 (ds := cells.map D.int) (fun n r => ∃ o3 o4, r = [some (.pl false (intsD ns)), some (.ow true ((runT sp (cells.take n)).1.map tkD)), some (.pl true (.int (runT sp (cells.take n)).2)), o3, o4])
  (it_list (E.cast (e_slL (m := false) (e_var 0) (eo_some e_int) (eo_some e_int)) (by rw [hcut]))) (fun d hd => by obtain ⟨i, _, rfl⟩ := List.mem_map.mp hd; rfl) ⟨_, _, rfl⟩ (by rintro n r ⟨_, _, e⟩; subst e; simp) ?_ ?_ nd
 · rintro n d r hd ⟨o3, o4, e⟩
   subst e
   rw [List.getElem?_map] at hd
   cases hc : cells[n]? with
   | none => rw [hc] at hd; cases hd
   | some c =>
    rw [hc] at hd
    cases hd
    have hn := (List.getElem?_eq_some_iff.mp hc).1
    have ht : runT sp (cells.take (n + 1)) = stepT sp (runT sp (cells.take n)) c := by rw [List.take_add_one, hc]; exact run_snoc _ _ _
    obtain ⟨i1, i2, i3⟩ := run_all sp _ (cells.take n) rfl
    have hln : (cells.take n).length = n := by rw [List.length_take]; omega
    rw [hln] at i2
    rw [ht]
    generalize runT sp (cells.take n) = st at i1 i2
    obtain ⟨l, many⟩ := st
    dsimp only at i1 i2
    have hfl := tks_flat i1
    have ok0 := tokK_ok c sp
    have hu3 := roomDs hr (ds := [D.lst [], .lst [tkD ([40], none)], .lst [tkD ([124], none)]]) (by decide)
    have hu2 := roomDs hr (ds := [D.lst [tkD ([40], none)], .lst [tkD ([124], none)]]) (by decide)
    have m40 : ∀ x : Tk, decide (mkS x.1 = "(") = decide (x.1 = [40]) := fun x => by rw [show ("(" : Str) = mkS [40] from rfl, Bool.eq_iff_iff]; simp [mkS_inj]
    have m41 : ∀ x : Tk, decide (mkS x.1 = ")") = decide (x.1 = [41]) := fun x => by rw [show (")" : Str) = mkS [41] from rfl, Bool.eq_iff_iff]; simp [mkS_inj]
    have m124 : ∀ x : Tk, decide (mkS x.1 = "|") = decide (x.1 = [124]) := fun x => by rw [show ("|" : Str) = mkS [124] from rfl, Bool.eq_iff_iff]; simp [mkS_inj]
    refine sd_setF 4 (d := tkD (tokK c sp)) (e_call dT hr (ea_cons (e_var 3) (ea_one (E.cast (e_eqI (e_mod (e_call dC hr1 (ea_cons (e_var 0) (ea_one e_int)) ⟨ns, 0, by omega, rfl, rfl⟩) e_int (by decide)) e_int) (by rw [hsp])))) ⟨c, sp, rfl, rfl⟩) (tk_flat ok0) ?_ nd
    have ok3 := next_ok sp (l, many) c
    have ok1 : TkOk (mend1 l many c (tokK c sp)) := by
     unfold mend1
     split
     · exact tk_part (p := .any) (by unfold pW; trivial) (by intro q z; cases z)
     · exact ok0
    have ok2 : TkOk (mend2 l (mend1 l many c (tokK c sp))) := by
     unfold mend2
     split
     · exact tk_part (p := .upto 2) (by unfold pW; decide) (by intro q z; cases z)
     · exact ok1
    have en : stepT sp (l, many) c = (l ++ [mend3 l c (mend2 l (mend1 l many c (tokK c sp)))], many + manyD (mend3 l c (mend2 l (mend1 l many c (tokK c sp))))) := rfl
    rw [en]
    have ok3' : TkOk (mend3 l c (mend2 l (mend1 l many c (tokK c sp)))) := ok3
    clear en ok3 ht
    generalize tokK c sp = x0 at ok0 ok1 ok2 ok3'
    refine sd_ifJ [some (.pl false (intsD ns)), some (.ow true (l.map tkD)), some (.pl true (.int many)), some (.pl true (.int c)), some (.pl true (tkD (mend1 l many c x0)))] (b := decide (x0.1 = [41]) && (decide (many = 0) && decide (0 < c % 8))) (T.castB (TW.t (tw_and (t_eqS (e_ixT (d := .str (mkS x0.1)) (e_var 4) e_int rfl) e_str) fun _ => tw_and (t_eqI (e_var 2) e_int) fun _ => tw_and1 (t_gtI (e_mod (e_var 3) e_int (by decide)) e_int))) (by rw [m41])) (fun h => ?_) (fun h => ?_) ?_
    · refine sd_setF 4 (d := tkD ([63], some .any)) (e_tup (ea_cons e_str (ea_one (e_tup (ea_one e_str))))) rfl (sd_nil ?_) nd
      show _ = _
      unfold mend1
      rw [if_pos h]
      try rfl
    · refine sd_nil ?_
      show _ = _
      unfold mend1
      rw [if_neg (by rw [h]; decide)]
      try rfl
    generalize mend1 l many c x0 = x1 at ok1 ok2 ok3'
    refine sd_ifJ [some (.pl false (intsD ns)), some (.ow true (l.map tkD)), some (.pl true (.int many)), some (.pl true (.int c)), some (.pl true (tkD (mend2 l x1)))] (b := decide (x1.1 = [124]) && (l.isEmpty || lastIs l [[40], [124]])) (T.castB (TW.t (tw_and (t_eqS (e_ixT (d := .str (mkS x1.1)) (e_var 4) e_int rfl) e_str) fun _ => tw_and1 (t_inDs (e_slL (m := false) (ds := l.map tkD) (e_var 1) (eo_some (e_neg e_int)) eo_none) (e_lst (ds := [D.lst [], .lst [tkD ([40], none)], .lst [tkD ([124], none)]]) (ea_cons (e_lst ea_nil) (ea_cons (e_lst (ea_one (e_tup (ea_cons e_str (ea_one e_non))))) (ea_one (e_lst (ea_one (e_tup (ea_cons e_str (ea_one e_non))))))))) hu3))) (by rw [m124, want_eq i1])) (fun h => ?_) (fun h => ?_) ?_
    · refine sd_setF 4 (d := tkD ([46, 46, 50], some (.upto 2))) (e_tup (ea_cons e_str (ea_one (e_tup (ea_cons e_str (ea_one e_int)))))) rfl (sd_nil ?_) nd
      show _ = _
      unfold mend2
      rw [if_pos h]
      try rfl
    · refine sd_nil ?_
      show _ = _
      unfold mend2
      rw [if_neg (by rw [h]; decide)]
      try rfl
    generalize mend2 l x1 = x2 at ok2 ok3'
    refine sd_ifJ [some (.pl false (intsD ns)), some (.ow true (l.map tkD)), some (.pl true (.int many)), some (.pl true (.int c)), some (.pl true (tkD (mend3 l c x2)))] (b := decide (x2.1 = [41]) && (lastIs l [[40], [124]] && decide (0 < c % 8))) (T.castB (TW.t (tw_and (t_eqS (e_ixT (d := .str (mkS x2.1)) (e_var 4) e_int rfl) e_str) fun _ => tw_and (t_inDs (e_slL (m := false) (ds := l.map tkD) (e_var 1) (eo_some (e_neg e_int)) eo_none) (e_lst (ds := [D.lst [tkD ([40], none)], .lst [tkD ([124], none)]]) (ea_cons (e_lst (ea_one (e_tup (ea_cons e_str (ea_one e_non))))) (ea_one (e_lst (ea_one (e_tup (ea_cons e_str (ea_one e_non)))))))) hu2) fun _ => tw_and1 (t_gtI (e_mod (e_var 3) e_int (by decide)) e_int))) (by rw [m41, want_eq2 i1])) (fun h => ?_) (fun h => ?_) ?_
    · refine sd_setF 4 (d := tkD ([97], some (.word "a"))) (e_tup (ea_cons e_str (ea_one (e_tup (ea_cons e_str (ea_one e_str)))))) rfl (sd_nil ?_) nd
      show _ = _
      unfold mend3
      rw [if_pos h]
      try rfl
    · refine sd_nil ?_
      show _ = _
      unfold mend3
      rw [if_neg (by rw [h]; decide)]
      try rfl
    generalize mend3 l c x2 = x3 at ok3'
    refine sd_setF 2 (d := .int (many + manyD x3)) (e_add (e_var 2) (e_ixL (d := .int (manyD x3)) (e_lst (ds := [.int 0, .int 1, .int (-1)]) (ea_cons e_int (ea_cons e_int (ea_one (e_neg e_int))))) (e_add (e_intB (b := decide (x3.1 = [40])) (E.cast (e_eqS (e_ixT (d := .str (mkS x3.1)) (e_var 4) e_int rfl) e_str) (by rw [m40])) B.int) (e_mul e_int (e_intB (b := decide (x3.1 = [41])) (E.cast (e_eqS (e_ixT (d := .str (mkS x3.1)) (e_var 4) e_int rfl) e_str) (by rw [m41])) B.int) ?cm)) (many_at x3))) rfl ?_ nd
    case cm => exact .inl ⟨by decide, by decide⟩
    refine sd_appendG 1 true rfl (e_var 4) (tk_flat ok3') (by rw [List.length_map]; omega) (sd_nil ⟨some (.pl true (.int c)), some (.pl true (tkD x3)), ?_⟩)
    rw [List.map_append]
    rfl
 · rintro r ⟨o3, o4, e⟩
   subst e
   rw [List.length_map, List.take_length]
   obtain ⟨i1, i2, i3⟩ := run_all sp _ cells rfl
   unfold toksK
   generalize runT sp cells = st at i1 i2 i3
   obtain ⟨l, many⟩ := st
   dsimp only at i1 i2 i3 ⊢
   have hfl := tks_flat i1
   refine sd_if (b := decide (cellAt ns 0 % 2 = 1)) (t_eqI (e_mod (e_call dC hr1 (ea_cons (e_var 0) (ea_one e_int)) ⟨ns, 0, by omega, rfl, rfl⟩) e_int (by decide)) e_int) (fun h => ?_) (fun h => ?_)
   · rw [h, if_pos rfl]
     have hmx : (if many > 0 then many else (0 : Int)) = ((many.toNat : Nat) : Int) := by split <;> omega
     refine sd_setN 1 (d := tksD (l ++ [([63], some .any)] ++ List.replicate many.toNat ([41], none))) (E.cast (e_catL (m := true) (m1 := true) (m2 := true) (e_catL (m := true) (m1 := false) (m2 := true) (ds := l.map tkD) (es := [tkD ([63], some .any)]) (e_var 1) (e_lstN (ds := [tkD ([63], some .any)]) (ea_one (e_tup (ea_cons e_str (ea_one (e_tup (ea_one e_str))))))) ?z1 (fun _ => ⟨.inr hfl, .inl rfl⟩)) (e_mulL (d := tkD ([41], none)) (n := many.toNat) (e_lstN (ds := [tkD ([41], none)]) (ea_one (e_tup (ea_cons e_str (ea_one e_non))))) (E.cast (e_max2 e_int (e_var 2) B.max) (by rw [hmx])) rfl ?z2) ?z3 (fun _ => ⟨.inl rfl, .inl rfl⟩)) ?z4) ?_ nd
     case z1 => exact smallL1 (b := 200) (by simp; omega) (by decide)
     case z2 => have := i3; omega
     case z3 => exact smallL1 (b := 400) (by simp; omega) (by decide)
     case z4 => unfold tksD; rw [List.map_append, List.map_append, List.map_replicate]; rfl
     exact sd_nil (sd_ret true (e_var 1) rfl)
   · rw [h]
     exact sd_nil (sd_ret true (e_var 1) rfl)
end
section
variable {P : Program} {w : World} {K : PySem.W.Frag} {mg : Str -> Option Value} {base : Heap}
theorem ok_law {f : Addr} {fd : FuncData} (Fx : Fun K "law" "law" s_law f fd) (B : Blt mg) (dC : Def P w K mg base 1 "_law_cell_at" true gCellAt) (dTk : Def P w K mg base 5 "_law_tokens" true gToks) (dL : Def P w K mg base 2 "_law_read" true gLRead) {xb xq : Addr} (dR : DefX P w K mg base 5 "read_question" true gRead (rRead xq)) (dSh : Def P w K mg base 63 "show_question" true (gShowQ 20)) (dA : Def P w K mg base 64 "_law_alike" true (gAlk 63)) (XR : ErrQ mg xq) (XI : ErrI K xq xb) : FnOk P w K mg base CX0 65 f fd ["_law_script"] (spD K false lawG) := by
 refine fnD Fx sc_law (by rintro ds d ⟨ns, hz, e1, e2⟩; subst e1; rfl) ?_
 rintro cdv A outer s H Ex Z ds d hr ⟨ns, hz, e1, e2⟩
 subst e1 e2
 have nd := sc_law.nd
 have hr1 : Room 1 _ := hr.mono (by decide)
 have hr2 : Room 2 _ := hr.mono (by decide)
 have hr5 : Room 5 _ := hr.mono (by decide)
 have hr63 : Room 63 _ := hr.mono (by decide)
 have hh : PySem.W.hasDictIn K xq = true := by
  obtain ⟨cd, c1, _, c3⟩ := XI.cd
  unfold PySem.W.hasDictIn
  rw [c1]
  exact c3
 have hcl : (cut ns (some 2) (some 120)).length <= 63 := Nat.le_trans (cut_le _ _ _) hz
 obtain ⟨hl, hlen⟩ := toks_ok (decide (cellAt ns 0 % 3 = 1)) (decide (cellAt ns 0 % 2 = 1)) _ hcl
 refine sd_setN 1 (d := tksD (toksK (decide (cellAt ns 0 % 3 = 1)) (decide (cellAt ns 0 % 2 = 1)) (cut ns (some 2) (some 120)))) (e_call dTk hr5 (ea_one (e_var 0)) ⟨ns, hz, rfl, rfl⟩) ?_ nd
 generalize toksK (decide (cellAt ns 0 % 3 = 1)) (decide (cellAt ns 0 % 2 = 1)) (cut ns (some 2) (some 120)) = l at hl hlen
 have w1 := Int.emod_lt_of_pos (cellAt ns 1) (show (0 : Int) < 2 by decide)
 have w2 := Int.emod_nonneg (cellAt ns 1) (show (2 : Int) ≠ 0 by decide)
 obtain ⟨k, hk⟩ : ∃ k : Nat, cellAt ns 1 % 2 = ((k : Nat) : Int) := ⟨_, (Int.toNat_of_nonneg w2).symm⟩
 have hk1 : k <= 1 := by omega
 refine sd_setF 2 (d := .str (mkS (blk32 (k + 1)))) (e_mulB (n := k + 1) e_str (E.cast (e_add e_int (e_mod (e_call dC hr1 (ea_cons (e_var 0) (ea_one e_int)) ⟨ns, 1, by omega, rfl, rfl⟩) e_int (by decide))) (congrArg D.int (show (1 : Int) + cellAt ns 1 % 2 = ((k + 1 : Nat) : Int) by omega))) (by omega)) rfl ?_ nd
 have hts : ∀ t ∈ tx l, t.length <= 100 := fun t ht => by obtain ⟨x, hx, rfl⟩ := List.mem_map.mp ht; exact (hl x hx).sh
 refine sd_setF 3 (d := .str (mkS (joinL (blk32 (k + 1)) (tx l)))) (e_joinB (ws := tx l) (e_var 2) (E.cast (e_map (m := true) (me := false) (ds := l.map tkD) [] [] (fun d => match d with | .tup (a :: _) => a | d => d) (it_list (e_var 1)) (fun C s H fp d hd => ?c1) ?c2 (fun _ => .inr fun d hd => ?c3)) ?c4) hk1 hts (by simp; omega)) rfl ?_ nd
 case c1 =>
  obtain ⟨x, _, rfl⟩ := List.mem_map.mp hd
  exact e_ixT (d := .str (mkS x.1)) (e_var 0) e_int rfl
 case c2 => exact smallL1 (b := 200) (by simp; omega) (by decide)
 case c3 =>
  obtain ⟨x, _, rfl⟩ := List.mem_map.mp hd
  rfl
 case c4 =>
  unfold strsD
  rw [List.map_map, List.map_map, List.map_map]
  rfl
 have jn := jn_ok hl hlen hk1
 generalize mkS (joinL (blk32 (k + 1)) (tx l)) = z at jn
 rcases tok_law hl hlen jn with ⟨n, ref, gL⟩ | ⟨q, gR, hq, hql, gL⟩
 · refine sd_pairN 4 5 (d1 := .non) (d2 := .int ((n : Nat) : Int)) (e_call dL hr2 (ea_one (e_var 1)) gL) ?_ ⟨by simp [startD], by simp [startD]⟩ nd
   refine sd_setF 6 (d := .non) e_non rfl ?_ nd
   refine sd_setF 7 (d := .non) e_non rfl ?_ nd
   refine sd_trySet 7 8 (C' := xq) (o := .error ⟨xq, some ((n : Nat) : Int)⟩) (ex_call (m := true) dR (fun _ _ h => h) hr5 (ea_one (e_var 3)) (.inr ⟨_, _, _, ref, rfl, rfl⟩)) (fun _ _ h => h) (fun d hd => by cases hd) (fun c hc => ?_) nd
   cases hc
   refine ⟨⟨⟨_, XI.o, by simp⟩, ⟨_, XI.o, by simp⟩, XI.g, XR.gq⟩, fun a ps oe od hp hat => ?_⟩
   obtain ⟨o, tk, rfl, hlk⟩ := hat _ rfl
   refine sd_setW (i := 8) (a := a) 6 (d := .int ((n : Nat) : Int)) (xw_at hp hlk hh XI.nat) ?_ nd
   refine sd_nil ⟨by simp [startD], ?_⟩
   refine sd_if (b := true) (t_isNo (e_var 4) e_non) (fun _ => ?_) (fun h => by cases h)
   refine sd_ret false (E.cast (e_and (p := true) (q := true) (E.cast (e_eqI (e_var 6) (e_var 5)) (by simp)) fun _ => e_one (e_isNo (e_var 7) e_non)) rfl) rfl
 · have gS : gShowQ 20 [questD q] (.str (mkS (tQ q))) := ⟨q, hq, by omega, rfl, rfl⟩
   have gR2 := gRead_own hq hql
   have gA : gAlk 63 [questD q, questD q] (.bl true) := ⟨_, plQ63 hq hql, rfl, rfl⟩
   refine sd_pairN 4 5 (d1 := questD q) (d2 := .int 0) (e_call dL hr2 (ea_one (e_var 1)) gL) ?_ ⟨by simp [startD], by simp [startD]⟩ nd
   refine sd_setF 6 (d := .non) e_non rfl ?_ nd
   refine sd_setF 7 (d := .non) e_non rfl ?_ nd
   refine sd_trySet 7 8 (C' := xq) (o := .ok (questD q)) (ex_call (m := true) dR (fun _ _ h => h) hr5 (ea_one (e_var 3)) gR) (fun _ _ h => h) (fun d hd => ?_) (fun c hc => by cases hc) nd
   cases hd
   refine sd_if (b := false) (t_isNL (ds := qDs q) (e_var 4) e_non) (fun h => by cases h) (fun _ => sd_nil ?_)
   refine sd_if (b := false) (T.castB (TW.t (tw_or (t_notNo (e_var 6) e_non) fun _ => tw_or1 (t_not (t_val (e_call dA hr (ea_cons (e_var 7) (ea_one (e_var 4))) gA))))) rfl) (fun h => by cases h) (fun _ => sd_nil ?_)
   exact sd_ret false (e_call dA hr (ea_cons (e_callX dR hr5 (ea_one (e_call dSh hr63 (ea_one (e_var 7)) gS)) gR2) (ea_one (e_var 4))) gA) rfl
end
end
instance : Y.Tabs := ⟨[]⟩
theorem len1 {us : List Value} (h : us.length = 1) : ∃ a, us = [a] := by
  cases us with
  | nil => cases h
  | cons a r =>
    cases r with
    | nil => exact ⟨a, rfl⟩
    | cons b c => simp at h
theorem len2 {us : List Value} (h : us.length = 2) : ∃ a0 a1, us = [a0, a1] := by
  cases us with
  | nil => cases h
  | cons a r =>
    obtain ⟨a1, rfl⟩ := len1 (Nat.succ.inj h)
    exact ⟨a, a1, rfl⟩
theorem len3 {us : List Value} (h : us.length = 3) : ∃ a0 a1 a2, us = [a0, a1, a2] := by
  cases us with
  | nil => cases h
  | cons a r =>
    obtain ⟨a1, a2, rfl⟩ := len2 (Nat.succ.inj h)
    exact ⟨a, a1, a2, rfl⟩
theorem len4 {us : List Value} (h : us.length = 4) : ∃ a0 a1 a2 a3, us = [a0, a1, a2, a3] := by
  cases us with
  | nil => cases h
  | cons a r =>
    obtain ⟨a1, a2, a3, rfl⟩ := len3 (Nat.succ.inj h)
    exact ⟨a, a1, a2, a3, rfl⟩
theorem len5 {us : List Value} (h : us.length = 5) : ∃ a0 a1 a2 a3 a4, us = [a0, a1, a2, a3, a4] := by
  cases us with
  | nil => cases h
  | cons a r =>
    obtain ⟨a1, a2, a3, a4, rfl⟩ := len4 (Nat.succ.inj h)
    exact ⟨a, a1, a2, a3, a4, rfl⟩
theorem len6 {us : List Value} (h : us.length = 6) : ∃ a0 a1 a2 a3 a4 a5, us = [a0, a1, a2, a3, a4, a5] := by
  cases us with
  | nil => cases h
  | cons a r =>
    obtain ⟨a1, a2, a3, a4, a5, rfl⟩ := len5 (Nat.succ.inj h)
    exact ⟨a, a1, a2, a3, a4, a5, rfl⟩
theorem all_mk {l : PySem.W.OpenLaw} {w : World} {K : PySem.W.Frag} {h : Heap} {mg : Str -> Option Value} {fa : Addr} (X : K.In h) (G : h.Ns mainGlobals mg) (hfa : mg "law" = some (.ref fa))
 {f1 : Addr} {od1 an1 : Option Addr} {sl1 : Array (Option Value)} {oc1 kV1 dc1 pm1 cd1 ct1 : Value}
 {f2 : Addr} {od2 an2 : Option Addr} {sl2 : Array (Option Value)} {oc2 kV2 dc2 pm2 cd2 ct2 : Value}
 {f3 : Addr} {od3 an3 : Option Addr} {sl3 : Array (Option Value)} {oc3 kV3 dc3 pm3 cd3 ct3 : Value}
 {f4 : Addr} {od4 an4 : Option Addr} {sl4 : Array (Option Value)} {oc4 kV4 dc4 pm4 cd4 ct4 : Value}
 {f5 : Addr} {od5 an5 : Option Addr} {sl5 : Array (Option Value)} {oc5 kV5 dc5 pm5 cd5 ct5 : Value}
 {f6 : Addr} {od6 an6 : Option Addr} {sl6 : Array (Option Value)} {oc6 kV6 dc6 pm6 cd6 ct6 : Value}
 {f7 : Addr} {od7 an7 : Option Addr} {sl7 : Array (Option Value)} {oc7 kV7 dc7 pm7 cd7 ct7 : Value}
 {f8 : Addr} {od8 an8 : Option Addr} {sl8 : Array (Option Value)} {oc8 kV8 dc8 pm8 cd8 ct8 : Value}
 {f9 : Addr} {od9 an9 : Option Addr} {sl9 : Array (Option Value)} {oc9 kV9 dc9 pm9 cd9 ct9 : Value}
 {f10 : Addr} {od10 an10 : Option Addr} {sl10 : Array (Option Value)} {oc10 kV10 dc10 pm10 cd10 ct10 : Value}
 {f11 : Addr} {od11 an11 : Option Addr} {sl11 : Array (Option Value)} {oc11 kV11 dc11 pm11 cd11 ct11 : Value}
 {f12 : Addr} {od12 an12 : Option Addr} {sl12 : Array (Option Value)} {oc12 kV12 dc12 pm12 cd12 ct12 : Value}
 {f13 : Addr} {od13 an13 : Option Addr} {sl13 : Array (Option Value)} {oc13 kV13 dc13 pm13 cd13 ct13 : Value}
 {f14 : Addr} {od14 an14 : Option Addr} {sl14 : Array (Option Value)} {oc14 kV14 dc14 pm14 cd14 ct14 : Value}
 {f15 : Addr} {od15 an15 : Option Addr} {sl15 : Array (Option Value)} {oc15 kV15 dc15 pm15 cd15 ct15 : Value}
 {f16 : Addr} {od16 an16 : Option Addr} {sl16 : Array (Option Value)} {oc16 kV16 dc16 pm16 cd16 ct16 : Value}
 {f17 : Addr} {od17 an17 : Option Addr} {sl17 : Array (Option Value)} {oc17 kV17 dc17 pm17 cd17 ct17 : Value}
 {f18 : Addr} {od18 an18 : Option Addr} {sl18 : Array (Option Value)} {oc18 kV18 dc18 pm18 cd18 ct18 : Value}
 {f19 : Addr} {od19 an19 : Option Addr} {sl19 : Array (Option Value)} {oc19 kV19 dc19 pm19 cd19 ct19 : Value}
 {f20 : Addr} {od20 an20 : Option Addr} {sl20 : Array (Option Value)} {oc20 kV20 dc20 pm20 cd20 ct20 : Value}
 {f21 : Addr} {od21 an21 : Option Addr} {sl21 : Array (Option Value)} {oc21 kV21 dc21 pm21 cd21 ct21 : Value}
 {tk1 : Tok}
 {tk2 : Tok}
 {aU : Addr} {nU : Nat} {slU : Array (Option Value)} {ut0 ut1 ut2 ut3 ut4 ut5 ut6 ut7 ut8 ut9 : Tok}
 {eq eb eNq : Addr} {eBq eSq : List Value} {eaq ezq : Str} {ehq egq : Bool} {efq : List Str} {ejq : Option Bool} {elq : Option Addr} {e0q e1q e2q e3q e5q : Option Value}
 {fI : Addr} {odI anI : Option Addr} {slI : Array (Option Value)} {ocI kVI dcI pmI cdI ctI : Value}
 (a1 : PySem.W.nsIn K mainGlobals "is_word" = some (some (.ref f1)))
 (l1 : K.lookup f1 = some ⟨oc1, od1, .func (PySem.W.fnOf "is_word" "is_word" (defArgs s_is_word) (defBody s_is_word) (defScope s_is_word) .none kV1 dc1 pm1 an1 cd1 ct1), sl1⟩)
 (c1 : PySem.W.codeIn K cd1 "is_word" = true) (k1 : PySem.W.keepIn K (.ref f1) = true)
 (a2 : PySem.W.nsIn K mainGlobals "read_question" = some (some (.ref f2)))
 (l2 : K.lookup f2 = some ⟨oc2, od2, .func (PySem.W.fnOf "read_question" "read_question" (defArgs s_read_question) (defBody s_read_question) (defScope s_read_question) .none kV2 dc2 pm2 an2 cd2 ct2), sl2⟩)
 (c2 : PySem.W.codeIn K cd2 "read_question" = true) (k2 : PySem.W.keepIn K (.ref f2) = true)
 (a3 : PySem.W.nsIn K mainGlobals "tokens_of" = some (some (.ref f3)))
 (l3 : K.lookup f3 = some ⟨oc3, od3, .func (PySem.W.fnOf "tokens_of" "tokens_of" (defArgs s_tokens_of) (defBody s_tokens_of) (defScope s_tokens_of) .none kV3 dc3 pm3 an3 cd3 ct3), sl3⟩)
 (c3 : PySem.W.codeIn K cd3 "tokens_of" = true) (k3 : PySem.W.keepIn K (.ref f3) = true)
 (a4 : PySem.W.nsIn K mainGlobals "must_begin" = some (some (.ref f4)))
 (l4 : K.lookup f4 = some ⟨oc4, od4, .func (PySem.W.fnOf "must_begin" "must_begin" (defArgs s_must_begin) (defBody s_must_begin) (defScope s_must_begin) .none kV4 dc4 pm4 an4 cd4 ct4), sl4⟩)
 (c4 : PySem.W.codeIn K cd4 "must_begin" = true) (k4 : PySem.W.keepIn K (.ref f4) = true)
 (a5 : PySem.W.nsIn K mainGlobals "brackets" = some (some (.ref f5)))
 (l5 : K.lookup f5 = some ⟨oc5, od5, .func (PySem.W.fnOf "brackets" "brackets" (defArgs s_brackets) (defBody s_brackets) (defScope s_brackets) .none kV5 dc5 pm5 an5 cd5 ct5), sl5⟩)
 (c5 : PySem.W.codeIn K cd5 "brackets" = true) (k5 : PySem.W.keepIn K (.ref f5) = true)
 (a6 : PySem.W.nsIn K mainGlobals "can_stand" = some (some (.ref f6)))
 (l6 : K.lookup f6 = some ⟨oc6, od6, .func (PySem.W.fnOf "can_stand" "can_stand" (defArgs s_can_stand) (defBody s_can_stand) (defScope s_can_stand) .none kV6 dc6 pm6 an6 cd6 ct6), sl6⟩)
 (c6 : PySem.W.codeIn K cd6 "can_stand" = true) (k6 : PySem.W.keepIn K (.ref f6) = true)
 (a7 : PySem.W.nsIn K mainGlobals "take_token" = some (some (.ref f7)))
 (l7 : K.lookup f7 = some ⟨oc7, od7, .func (PySem.W.fnOf "take_token" "take_token" (defArgs s_take_token) (defBody s_take_token) (defScope s_take_token) .none kV7 dc7 pm7 an7 cd7 ct7), sl7⟩)
 (c7 : PySem.W.codeIn K cd7 "take_token" = true) (k7 : PySem.W.keepIn K (.ref f7) = true)
 (a8 : PySem.W.nsIn K mainGlobals "part_of" = some (some (.ref f8)))
 (l8 : K.lookup f8 = some ⟨oc8, od8, .func (PySem.W.fnOf "part_of" "part_of" (defArgs s_part_of) (defBody s_part_of) (defScope s_part_of) .none kV8 dc8 pm8 an8 cd8 ct8), sl8⟩)
 (c8 : PySem.W.codeIn K cd8 "part_of" = true) (k8 : PySem.W.keepIn K (.ref f8) = true)
 (a9 : PySem.W.nsIn K mainGlobals "show_question" = some (some (.ref f9)))
 (l9 : K.lookup f9 = some ⟨oc9, od9, .func (PySem.W.fnOf "show_question" "show_question" (defArgs s_show_question) (defBody s_show_question) (defScope s_show_question) .none kV9 dc9 pm9 an9 cd9 ct9), sl9⟩)
 (c9 : PySem.W.codeIn K cd9 "show_question" = true) (k9 : PySem.W.keepIn K (.ref f9) = true)
 (a10 : PySem.W.nsIn K mainGlobals "show_parts" = some (some (.ref f10)))
 (l10 : K.lookup f10 = some ⟨oc10, od10, .func (PySem.W.fnOf "show_parts" "show_parts" (defArgs s_show_parts) (defBody s_show_parts) (defScope s_show_parts) .none kV10 dc10 pm10 an10 cd10 ct10), sl10⟩)
 (c10 : PySem.W.codeIn K cd10 "show_parts" = true) (k10 : PySem.W.keepIn K (.ref f10) = true)
 (a11 : PySem.W.nsIn K mainGlobals "show_part" = some (some (.ref f11)))
 (l11 : K.lookup f11 = some ⟨oc11, od11, .func (PySem.W.fnOf "show_part" "show_part" (defArgs s_show_part) (defBody s_show_part) (defScope s_show_part) .none kV11 dc11 pm11 an11 cd11 ct11), sl11⟩)
 (c11 : PySem.W.codeIn K cd11 "show_part" = true) (k11 : PySem.W.keepIn K (.ref f11) = true)
 (a12 : PySem.W.nsIn K mainGlobals "_law_cell_at" = some (some (.ref f12)))
 (l12 : K.lookup f12 = some ⟨oc12, od12, .func (PySem.W.fnOf "_law_cell_at" "_law_cell_at" (defArgs s_law_cell_at) (defBody s_law_cell_at) (defScope s_law_cell_at) .none kV12 dc12 pm12 an12 cd12 ct12), sl12⟩)
 (c12 : PySem.W.codeIn K cd12 "_law_cell_at" = true) (k12 : PySem.W.keepIn K (.ref f12) = true)
 (a13 : PySem.W.nsIn K mainGlobals "_law_part" = some (some (.ref f13)))
 (l13 : K.lookup f13 = some ⟨oc13, od13, .func (PySem.W.fnOf "_law_part" "_law_part" (defArgs s_law_part) (defBody s_law_part) (defScope s_law_part) .none kV13 dc13 pm13 an13 cd13 ct13), sl13⟩)
 (c13 : PySem.W.codeIn K cd13 "_law_part" = true) (k13 : PySem.W.keepIn K (.ref f13) = true)
 (a14 : PySem.W.nsIn K mainGlobals "_law_word" = some (some (.ref f14)))
 (l14 : K.lookup f14 = some ⟨oc14, od14, .func (PySem.W.fnOf "_law_word" "_law_word" (defArgs s_law_word) (defBody s_law_word) (defScope s_law_word) .none kV14 dc14 pm14 an14 cd14 ct14), sl14⟩)
 (c14 : PySem.W.codeIn K cd14 "_law_word" = true) (k14 : PySem.W.keepIn K (.ref f14) = true)
 (a15 : PySem.W.nsIn K mainGlobals "_law_single" = some (some (.ref f15)))
 (l15 : K.lookup f15 = some ⟨oc15, od15, .func (PySem.W.fnOf "_law_single" "_law_single" (defArgs s_law_single) (defBody s_law_single) (defScope s_law_single) .none kV15 dc15 pm15 an15 cd15 ct15), sl15⟩)
 (c15 : PySem.W.codeIn K cd15 "_law_single" = true) (k15 : PySem.W.keepIn K (.ref f15) = true)
 (a16 : PySem.W.nsIn K mainGlobals "_law_alike" = some (some (.ref f16)))
 (l16 : K.lookup f16 = some ⟨oc16, od16, .func (PySem.W.fnOf "_law_alike" "_law_alike" (defArgs s_law_alike) (defBody s_law_alike) (defScope s_law_alike) .none kV16 dc16 pm16 an16 cd16 ct16), sl16⟩)
 (c16 : PySem.W.codeIn K cd16 "_law_alike" = true) (k16 : PySem.W.keepIn K (.ref f16) = true)
 (a17 : PySem.W.nsIn K mainGlobals "_law_token" = some (some (.ref f17)))
 (l17 : K.lookup f17 = some ⟨oc17, od17, .func (PySem.W.fnOf "_law_token" "_law_token" (defArgs s_law_token) (defBody s_law_token) (defScope s_law_token) .none kV17 dc17 pm17 an17 cd17 ct17), sl17⟩)
 (c17 : PySem.W.codeIn K cd17 "_law_token" = true) (k17 : PySem.W.keepIn K (.ref f17) = true)
 (a18 : PySem.W.nsIn K mainGlobals "_law_taken" = some (some (.ref f18)))
 (l18 : K.lookup f18 = some ⟨oc18, od18, .func (PySem.W.fnOf "_law_taken" "_law_taken" (defArgs s_law_taken) (defBody s_law_taken) (defScope s_law_taken) .none kV18 dc18 pm18 an18 cd18 ct18), sl18⟩)
 (c18 : PySem.W.codeIn K cd18 "_law_taken" = true) (k18 : PySem.W.keepIn K (.ref f18) = true)
 (a19 : PySem.W.nsIn K mainGlobals "_law_read" = some (some (.ref f19)))
 (l19 : K.lookup f19 = some ⟨oc19, od19, .func (PySem.W.fnOf "_law_read" "_law_read" (defArgs s_law_read) (defBody s_law_read) (defScope s_law_read) .none kV19 dc19 pm19 an19 cd19 ct19), sl19⟩)
 (c19 : PySem.W.codeIn K cd19 "_law_read" = true) (k19 : PySem.W.keepIn K (.ref f19) = true)
 (a20 : PySem.W.nsIn K mainGlobals "_law_tokens" = some (some (.ref f20)))
 (l20 : K.lookup f20 = some ⟨oc20, od20, .func (PySem.W.fnOf "_law_tokens" "_law_tokens" (defArgs s_law_tokens) (defBody s_law_tokens) (defScope s_law_tokens) .none kV20 dc20 pm20 an20 cd20 ct20), sl20⟩)
 (c20 : PySem.W.codeIn K cd20 "_law_tokens" = true) (k20 : PySem.W.keepIn K (.ref f20) = true)
 (a21 : PySem.W.nsIn K mainGlobals "law" = some (some (.ref f21)))
 (l21 : K.lookup f21 = some ⟨oc21, od21, .func (PySem.W.fnOf "law" "law" (defArgs s_law) (defBody s_law) (defScope s_law) .none kV21 dc21 pm21 an21 cd21 ct21), sl21⟩)
 (c21 : PySem.W.codeIn K cd21 "law" = true) (k21 : PySem.W.keepIn K (.ref f21) = true)
 (g1 : PySem.W.nsIn K mainGlobals "WORD_SIGNS" = some (some (.str "abcdefghijklmnopqrstuvwxyz0123456789" tk1)))
 (g2 : PySem.W.nsIn K mainGlobals "MOST_BRACKETS" = some (some (.int 20 tk2)))
 (gU : PySem.W.nsIn K mainGlobals "UPTOS" = some (some (.ref aU)))
 (sU : K.lookup aU = some ⟨.type "tuple", none, .seq #[.str "..0" ut0, .str "..1" ut1, .str "..2" ut2, .str "..3" ut3, .str "..4" ut4, .str "..5" ut5, .str "..6" ut6, .str "..7" ut7, .str "..8" ut8, .str "..9" ut9] nU, slU⟩)
 (xgq : PySem.W.nsIn K mainGlobals "NoQuestion" = some (some (.ref eq)))
 (xlq : K.lookup eq = some (excClassObj eaq ezq eq eNq eBq (.ref eb :: valB) ehq efq eSq egq ejq elq e0q e1q e2q e3q e5q "ValueError.__new__"))
 (hx2n : PySem.W.tailIn K valB (.ref eb :: valB) = true)
 (xf : PySem.W.nsIn K eNq "__init__" = some (some (.ref fI)))
 (lI : K.lookup fI = some ⟨ocI, odI, .func (PySem.W.fnOf "__init__" "NoQuestion.__init__" (defArgs s_nqI) (defBody s_nqI) (defScope s_nqI) .none kVI dcI pmI anI cdI ctI), slI⟩)
 (cI : PySem.W.codeIn K cdI "NoQuestion.__init__" = true) (kI : PySem.W.keepIn K (.ref fI) = true) (hz1 : errIB K eq eb fI = true)
 (z_ValueError : PySem.W.nsIn K mainGlobals "ValueError" = some none)
 (z_all : PySem.W.nsIn K mainGlobals "all" = some none)
 (z_bool : PySem.W.nsIn K mainGlobals "bool" = some none)
 (z_enumerate : PySem.W.nsIn K mainGlobals "enumerate" = some none)
 (z_int : PySem.W.nsIn K mainGlobals "int" = some none)
 (z_isinstance : PySem.W.nsIn K mainGlobals "isinstance" = some none)
 (z_len : PySem.W.nsIn K mainGlobals "len" = some none)
 (z_list : PySem.W.nsIn K mainGlobals "list" = some none)
 (z_max : PySem.W.nsIn K mainGlobals "max" = some none)
 (z_range : PySem.W.nsIn K mainGlobals "range" = some none)
 (z_str : PySem.W.nsIn K mainGlobals "str" = some none)
 (z_tuple : PySem.W.nsIn K mainGlobals "tuple" = some none) :
 ∃ fd : FuncData, (∀ (s : Shared) (v : Value), BindsTo s fd ⟨[v], []⟩ [("_law_script", v)]) ∧ ∀ base : Heap, K.In base -> base.Ns mainGlobals mg -> FnOk l.prog w K mg base CX0 65 fa fd ["_law_script"] (spLaw K) := by
 have e := hfa.symm.trans (PySem.W.mg_of X G a21)
 cases e
 have B : Blt mg := ⟨PySem.W.mg_none_of X G z_ValueError, PySem.W.mg_none_of X G z_all, PySem.W.mg_none_of X G z_bool, PySem.W.mg_none_of X G z_enumerate, PySem.W.mg_none_of X G z_int, PySem.W.mg_none_of X G z_isinstance, PySem.W.mg_none_of X G z_len, PySem.W.mg_none_of X G z_list, PySem.W.mg_none_of X G z_max, PySem.W.mg_none_of X G z_range, PySem.W.mg_none_of X G z_str, PySem.W.mg_none_of X G z_tuple, ⟨_, PySem.W.mg_of X G g1⟩, ⟨_, PySem.W.mg_of X G g2⟩⟩
 have hU := PySem.W.mg_of X G gU
 have kU := ktup_uptos sU
 have dU : ∃ o, K.lookup aU = some o ∧ o.cls = .type "tuple" ∧ o.dict = none := ⟨_, sU, rfl, rfl⟩
 have XE : ErrQ mg eq := ⟨PySem.W.mg_of X G xgq⟩
 have FI := fun_mk (st := s_nqI) lI cI kI
 have XI : ErrI K eq eb := erri_mk xlq hx2n hz1 FI sc_nqI rfl (FI.binds (ps := ["self", "at"]) fun _ _ _ _ _ _ us hl => by obtain ⟨u0, u1, rfl⟩ := len2 hl; rfl) rfl rfl
 have F1 := fun_mk (st := s_is_word) l1 c1 k1
 have b1 := F1.binds (ps := ["text"]) fun _ _ _ _ _ _ us hl => by obtain ⟨u0, rfl⟩ := len1 hl; rfl
 have F2 := fun_mk (st := s_read_question) l2 c2 k2
 have b2 := F2.binds (ps := ["text"]) fun _ _ _ _ _ _ us hl => by obtain ⟨u0, rfl⟩ := len1 hl; rfl
 have F3 := fun_mk (st := s_tokens_of) l3 c3 k3
 have b3 := F3.binds (ps := ["text"]) fun _ _ _ _ _ _ us hl => by obtain ⟨u0, rfl⟩ := len1 hl; rfl
 have F4 := fun_mk (st := s_must_begin) l4 c4 k4
 have b4 := F4.binds (ps := ["begun"]) fun _ _ _ _ _ _ us hl => by obtain ⟨u0, rfl⟩ := len1 hl; rfl
 have F5 := fun_mk (st := s_brackets) l5 c5 k5
 have b5 := F5.binds (ps := ["begun"]) fun _ _ _ _ _ _ us hl => by obtain ⟨u0, rfl⟩ := len1 hl; rfl
 have F6 := fun_mk (st := s_can_stand) l6 c6 k6
 have b6 := F6.binds (ps := ["token", "begun"]) fun _ _ _ _ _ _ us hl => by obtain ⟨u0, u1, rfl⟩ := len2 hl; rfl
 have F7 := fun_mk (st := s_take_token) l7 c7 k7
 have b7 := F7.binds (ps := ["token", "begun"]) fun _ _ _ _ _ _ us hl => by obtain ⟨u0, u1, rfl⟩ := len2 hl; rfl
 have F8 := fun_mk (st := s_part_of) l8 c8 k8
 have b8 := F8.binds (ps := ["token"]) fun _ _ _ _ _ _ us hl => by obtain ⟨u0, rfl⟩ := len1 hl; rfl
 have F9 := fun_mk (st := s_show_question) l9 c9 k9
 have b9 := F9.binds (ps := ["question"]) fun _ _ _ _ _ _ us hl => by obtain ⟨u0, rfl⟩ := len1 hl; rfl
 have F10 := fun_mk (st := s_show_parts) l10 c10 k10
 have b10 := F10.binds (ps := ["parts"]) fun _ _ _ _ _ _ us hl => by obtain ⟨u0, rfl⟩ := len1 hl; rfl
 have F11 := fun_mk (st := s_show_part) l11 c11 k11
 have b11 := F11.binds (ps := ["part"]) fun _ _ _ _ _ _ us hl => by obtain ⟨u0, rfl⟩ := len1 hl; rfl
 have F12 := fun_mk (st := s_law_cell_at) l12 c12 k12
 have b12 := F12.binds (ps := ["_law_script", "_law_k"]) fun _ _ _ _ _ _ us hl => by obtain ⟨u0, u1, rfl⟩ := len2 hl; rfl
 have F13 := fun_mk (st := s_law_part) l13 c13 k13
 have b13 := F13.binds (ps := ["_law_cell", "_law_k", "_law_many"]) fun _ _ _ _ _ _ us hl => by obtain ⟨u0, u1, u2, rfl⟩ := len3 hl; rfl
 have F14 := fun_mk (st := s_law_word) l14 c14 k14
 have b14 := F14.binds (ps := ["_law_cell"]) fun _ _ _ _ _ _ us hl => by obtain ⟨u0, rfl⟩ := len1 hl; rfl
 have F15 := fun_mk (st := s_law_single) l15 c15 k15
 have b15 := F15.binds (ps := ["_law_cell"]) fun _ _ _ _ _ _ us hl => by obtain ⟨u0, rfl⟩ := len1 hl; rfl
 have F16 := fun_mk (st := s_law_alike) l16 c16 k16
 have b16 := F16.binds (ps := ["_law_one", "_law_due"]) fun _ _ _ _ _ _ us hl => by obtain ⟨u0, u1, rfl⟩ := len2 hl; rfl
 have F17 := fun_mk (st := s_law_token) l17 c17 k17
 have b17 := F17.binds (ps := ["_law_cell", "_law_spoiled"]) fun _ _ _ _ _ _ us hl => by obtain ⟨u0, u1, rfl⟩ := len2 hl; rfl
 have F18 := fun_mk (st := s_law_taken) l18 c18 k18
 have b18 := F18.binds (ps := ["_law_token_here", "_law_opened", "_law_question"]) fun _ _ _ _ _ _ us hl => by obtain ⟨u0, u1, u2, rfl⟩ := len3 hl; rfl
 have F19 := fun_mk (st := s_law_read) l19 c19 k19
 have b19 := F19.binds (ps := ["_law_tokens_here"]) fun _ _ _ _ _ _ us hl => by obtain ⟨u0, rfl⟩ := len1 hl; rfl
 have F20 := fun_mk (st := s_law_tokens) l20 c20 k20
 have b20 := F20.binds (ps := ["_law_script"]) fun _ _ _ _ _ _ us hl => by obtain ⟨u0, rfl⟩ := len1 hl; rfl
 have F21 := fun_mk (st := s_law) l21 c21 k21
 refine ⟨PySem.W.fnOf "law" "law" (defArgs s_law) (defBody s_law) (defScope s_law) .none kV21 dc21 pm21 an21 cd21 ct21, fun s v => .of_eq rfl, fun base _ _ => ?_⟩
 have D1 := ok_is_word (P := l.prog) (w := w) (base := base) F1 (PySem.W.mg_of X G a1) b1 B 
 have D3 := ok_tokens_of (P := l.prog) (w := w) (base := base) F3 (PySem.W.mg_of X G a3) b3 B 
 have D4 := ok_must_begin (P := l.prog) (w := w) (base := base) F4 (PySem.W.mg_of X G a4) b4 B 
 have D5 := ok_brackets (P := l.prog) (w := w) (base := base) F5 (PySem.W.mg_of X G a5) b5 B 
 have D8 := ok_part_of (P := l.prog) (w := w) (base := base) F8 (PySem.W.mg_of X G a8) b8 B hU kU dU D1
 have D6 := ok_can_stand (P := l.prog) (w := w) (base := base) F6 (PySem.W.mg_of X G a6) b6 B D4 D5 D8
 have D2 := ok_read_question (P := l.prog) (w := w) (base := base) F2 (PySem.W.mg_of X G a2) b2 B F7 (PySem.W.mg_of X G a7) b7 D3 D6 D4 D5 D8 XE XI
 have D9 := ok_show (P := l.prog) (w := w) (base := base) F11 (PySem.W.mg_of X G a11) b11 F10 (PySem.W.mg_of X G a10) b10 F9 (PySem.W.mg_of X G a9) b9 B 20
 have D12 := ok_law_cell_at (P := l.prog) (w := w) (base := base) F12 (PySem.W.mg_of X G a12) b12 B 
 have D13 := ok_law_part (P := l.prog) (w := w) (base := base) F13 (PySem.W.mg_of X G a13) b13 B 
 have D14 := ok_law_word (P := l.prog) (w := w) (base := base) F14 (PySem.W.mg_of X G a14) b14 B D13
 have D15 := ok_law_single (P := l.prog) (w := w) (base := base) F15 (PySem.W.mg_of X G a15) b15 B D13 D14
 have D16 := ok_alike (P := l.prog) (w := w) (base := base) F16 (PySem.W.mg_of X G a16) b16 B 63
 have D17 := ok_law_token (P := l.prog) (w := w) (base := base) F17 (PySem.W.mg_of X G a17) b17 B D13 D15
 have D19 := ok_law_read (P := l.prog) (w := w) (base := base) F19 (PySem.W.mg_of X G a19) b19 B F18 (PySem.W.mg_of X G a18) b18
 have D20 := ok_law_tokens (P := l.prog) (w := w) (base := base) F20 (PySem.W.mg_of X G a20) b20 B D17 D12
 exact law_of (ok_law F21 B D12 D20 D19 D2 D9 D16 XE XI)
end Z
open PySem PySem.W PyProof.Rows
set_option maxRecDepth 100000 in
set_option maxHeartbeats 0 in
theorem PySem.Challenge.cw_besidewords_k35_whole_any_tokens_holds : PySem.Challenge.rw_besidewords_k35_whole_any_tokens.Holds := by
 w_on; o_law; k_head; (case hw => w_witness2)
 k_fill
 refine Y.walk (l := PySem.Challenge.rw_besidewords_k35_whole_any_tokens) (k := 65) (x := "_law_script") rfl rfl ⟨rfl, by decide, by decide⟩ (fun w h Y => PySem.W.kIn_of Y) ?F
 case F =>
  intro w mg fa h KX G hmg
  refine' Z.all_mk KX G hmg ?a1 ?l1 ?c1 ?k1 ?a2 ?l2 ?c2 ?k2 ?a3 ?l3 ?c3 ?k3 ?a4 ?l4 ?c4 ?k4 ?a5 ?l5 ?c5 ?k5 ?a6 ?l6 ?c6 ?k6 ?a7 ?l7 ?c7 ?k7 ?a8 ?l8 ?c8 ?k8 ?a9 ?l9 ?c9 ?k9 ?a10 ?l10 ?c10 ?k10 ?a11 ?l11 ?c11 ?k11 ?a12 ?l12 ?c12 ?k12 ?a13 ?l13 ?c13 ?k13 ?a14 ?l14 ?c14 ?k14 ?a15 ?l15 ?c15 ?k15 ?a16 ?l16 ?c16 ?k16 ?a17 ?l17 ?c17 ?k17 ?a18 ?l18 ?c18 ?k18 ?a19 ?l19 ?c19 ?k19 ?a20 ?l20 ?c20 ?k20 ?a21 ?l21 ?c21 ?k21 ?g1 ?g2 ?gU ?sU ?xgq ?xlq ?hx2n ?xf ?lI ?cI ?kI ?hz1 ?z_ValueError ?z_all ?z_bool ?z_enumerate ?z_int ?z_isinstance ?z_len ?z_list ?z_max ?z_range ?z_str ?z_tuple
  (case a1 => k_is)
  (case l1 => k_is)
  (case c1 => k_is)
  (case k1 => k_is)
  (case a2 => k_is)
  (case l2 => k_is)
  (case c2 => k_is)
  (case k2 => k_is)
  (case a3 => k_is)
  (case l3 => k_is)
  (case c3 => k_is)
  (case k3 => k_is)
  (case a4 => k_is)
  (case l4 => k_is)
  (case c4 => k_is)
  (case k4 => k_is)
  (case a5 => k_is)
  (case l5 => k_is)
  (case c5 => k_is)
  (case k5 => k_is)
  (case a6 => k_is)
  (case l6 => k_is)
  (case c6 => k_is)
  (case k6 => k_is)
  (case a7 => k_is)
  (case l7 => k_is)
  (case c7 => k_is)
  (case k7 => k_is)
  (case a8 => k_is)
  (case l8 => k_is)
  (case c8 => k_is)
  (case k8 => k_is)
  (case a9 => k_is)
  (case l9 => k_is)
  (case c9 => k_is)
  (case k9 => k_is)
  (case a10 => k_is)
  (case l10 => k_is)
  (case c10 => k_is)
  (case k10 => k_is)
  (case a11 => k_is)
  (case l11 => k_is)
  (case c11 => k_is)
  (case k11 => k_is)
  (case a12 => k_is)
  (case l12 => k_is)
  (case c12 => k_is)
  (case k12 => k_is)
  (case a13 => k_is)
  (case l13 => k_is)
  (case c13 => k_is)
  (case k13 => k_is)
  (case a14 => k_is)
  (case l14 => k_is)
  (case c14 => k_is)
  (case k14 => k_is)
  (case a15 => k_is)
  (case l15 => k_is)
  (case c15 => k_is)
  (case k15 => k_is)
  (case a16 => k_is)
  (case l16 => k_is)
  (case c16 => k_is)
  (case k16 => k_is)
  (case a17 => k_is)
  (case l17 => k_is)
  (case c17 => k_is)
  (case k17 => k_is)
  (case a18 => k_is)
  (case l18 => k_is)
  (case c18 => k_is)
  (case k18 => k_is)
  (case a19 => k_is)
  (case l19 => k_is)
  (case c19 => k_is)
  (case k19 => k_is)
  (case a20 => k_is)
  (case l20 => k_is)
  (case c20 => k_is)
  (case k20 => k_is)
  (case a21 => k_is)
  (case l21 => k_is)
  (case c21 => k_is)
  (case k21 => k_is)
  (case g1 => k_is)
  (case g2 => k_is)
  (case gU => k_is)
  (case sU => k_is)
  (case xgq => k_is)
  (case xlq => k_is)
  (case hx2n => kernel_rfl)
  (case xf => k_is)
  (case lI => k_is)
  (case cI => k_is)
  (case kI => k_is)
  (case hz1 => kernel_rfl)
  (case z_ValueError => k_is)
  (case z_all => k_is)
  (case z_bool => k_is)
  (case z_enumerate => k_is)
  (case z_int => k_is)
  (case z_isinstance => k_is)
  (case z_len => k_is)
  (case z_list => k_is)
  (case z_max => k_is)
  (case z_range => k_is)
  (case z_str => k_is)
  (case z_tuple => k_is)
