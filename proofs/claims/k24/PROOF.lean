import PyProof.Rows.All
import Wide.All
import OpenK.AllK
import Wide.FinOn
import Lean
import PyProof.EqAt
import PyProof.EqKinds
import PyProof.TupleCall
import PySem.SetOps
import PyProof.SetScanFacts
import PyProof.FactsAll.dict
import PyProof.Rows.SeqMore
import PyProof.Rows.StrCase
import PyProof.ToksMono
import PyProof.AutoIntG2
import PyProof.DictIter
import PyProof.DictWalks
import KE.KItemsList
import PyProof.SetKind
import PyProof.Rows.SetFrom
import PyProof.ListNew
import PyProof.SetNew
import PyProof.SetRoads
import PyProof.FactsAll.set_1
import PyProof.TupleKey
import PyProof.IsRules
import PyProof.AutoListH
import PyProof.FactsAll.list_2
import PyProof.Rows.StrCut
import PyProof.FactsAll.tuple_3
import PyProof.StrOps2
import PySem.Challenge.RW_besidewords_k24_none_lacks
open List (length_map mem_map getElem?_map map_map mem_cons map_append size_toArray map_cons mem_append getElem?_append_left mem_of_getElem? mem_cons_of_mem length_take take_length take_add_one mem_cons_self mem_append_right append_nil map_congr_left getElem_mem range_succ length_range nodup_cons getElem?_append_right cons_append length_cons lookup_cons not_mem_nil find?_cons any_eq_true map_nil length_filter_le take_append_drop mem_filter length_drop filter_map filter_append flatten_append)
open PySem.Heap (lt_size get?_push_of_some get?_push_size)
open PySem.W (Frag keepIn codeHdIn kla_obj envX mg_of mg_none_of)
set_option Elab.async false
set_option linter.all false
set_option maxRecDepth 100000
namespace L2
open PySem PySem.Spec PyProof.Rows
abbrev Key := Sum Int Str
def keyIs : Key -> Value -> Bool
 | .inl k, v => Value.isInt k v
 | .inr x, v => Value.isStrOf x v
def keyH (w : World) : Key -> Int
 | .inl k => hashInt k
 | .inr x => hashStr w x
theorem keyIs_shape : ∀ {k : Key} {v : Value}, keyIs k v = true -> (∃ i t, k = Sum.inl i /\ v = Value.int i t) \/ (∃ x t, k = Sum.inr x /\ v = Value.str x t)
 | .inl i, v, h => by
  obtain ⟨t, e⟩ := Value.isInt_shape (k := i) (v := v) h
  exact .inl ⟨i, t, rfl, e⟩
 | .inr x, v, h => by
  obtain ⟨t, e⟩ := Value.isStrOf_shape (x := x) (v := v) h
  exact .inr ⟨x, t, rfl, e⟩
theorem keyIs_int (i : Int) (t : Tok) : keyIs (.inl i) (.int i t) = true := by simp [keyIs, Value.isInt]
theorem keyIs_str (x : Str) (t : Tok) : keyIs (.inr x) (.str x t) = true := by simp [keyIs, Value.isStrOf]
theorem key_ll (a b : Int) : decide ((Sum.inl a : Key) = Sum.inl b) = (a == b) := by
 by_cases e : a = b
 . subst e; simp
 . have h : ¬ (Sum.inl a : Key) = Sum.inl b := fun q => e (Sum.inl.inj q)
   rw [decide_eq_false h]
   exact (beq_eq_false_iff_ne.mpr e).symm
theorem key_rr (a b : Str) : decide ((Sum.inr a : Key) = Sum.inr b) = decide (a = b) := by
 by_cases e : a = b
 . subst e; simp
 . have h : ¬ (Sum.inr a : Key) = Sum.inr b := fun q => e (Sum.inr.inj q)
   rw [decide_eq_false h, decide_eq_false e]
theorem key_lr (a : Int) (b : Str) : decide ((Sum.inl a : Key) = Sum.inr b) = false := decide_eq_false (fun q => nomatch q)
theorem key_rl (a : Str) (b : Int) : decide ((Sum.inr a : Key) = Sum.inl b) = false := decide_eq_false (fun q => nomatch q)
def mixKind (prog : Program) (w : World) : PySem.KeyKind prog w Key where
 is := keyIs
 hash := keyH w
 inj := fun v a b ha hb => by
  rcases keyIs_shape ha with ⟨i, t, rfl, rfl⟩ | ⟨x, t, rfl, rfl⟩
  . rcases keyIs_shape hb with ⟨j, u, rfl, e⟩ | ⟨y, u, rfl, e⟩
    . injection e with e1 _; rw [e1]
    . exact nomatch e
  . rcases keyIs_shape hb with ⟨j, u, rfl, e⟩ | ⟨y, u, rfl, e⟩
    . exact nomatch e
    . injection e with e1 _; rw [e1]
 byValue := fun k v h => by
  rcases keyIs_shape h with ⟨i, t, rfl, rfl⟩ | ⟨x, t, rfl, rfl⟩ <;> rfl
 pyHash := fun hv h => by
  rcases keyIs_shape hv with ⟨i, t, rfl, rfl⟩ | ⟨x, t, rfl, rfl⟩
  . exact wpAny_pyHash_int h
  . exact wpAny_pyHash_str h
 eqBool := fun hu hv h => by
  rcases keyIs_shape hu with ⟨i, t, rfl, rfl⟩ | ⟨x, t, rfl, rfl⟩
  . rcases keyIs_shape hv with ⟨j, u, rfl, rfl⟩ | ⟨y, u, rfl, rfl⟩
    . rw [key_ll] at h; exact wpAny_eqBool_int h
    . rw [key_lr] at h; exact SeqAt.EqAt.int_str i t y u _ _ _ _ h
  . rcases keyIs_shape hv with ⟨j, u, rfl, rfl⟩ | ⟨y, u, rfl, rfl⟩
    . rw [key_rl] at h; exact SeqAt.EqAt.str_int x t j u _ _ _ _ h
    . rw [key_rr] at h; exact wpAny_eqBool_str h
 «strs» := fun k x t v h => by
  rcases keyIs_shape h with ⟨i, u, rfl, e⟩ | ⟨y, u, rfl, e⟩
  . exact nomatch e
  . injection e with e1 _
    subst e1
    cases v <;> rfl
theorem mixKind_int (prog : Program) (w : World) (i : Int) (t : Tok) : (mixKind prog w).is (.inl i) (.int i t) = true := keyIs_int i t
theorem mixKind_str (prog : Program) (w : World) (x : Str) (t : Tok) : (mixKind prog w).is (.inr x) (.str x t) = true := keyIs_str x t
inductive V where
 | non | bl (b : Bool) | int (i : Int) | str (x : Str) | byt (b : Array UInt8) | flt (b : UInt64) | ref (a : Addr) | ty (n : String)
 deriving DecidableEq
def RelV : V -> Value -> Prop
 | .non, u => u = Value.none
 | .bl b, u => u = Value.bool b
 | .int i, u => ∃ t, u = Value.int i t
 | .str x, u => ∃ t, u = Value.str x t
 | .byt b, u => ∃ t, u = Value.bytes b t
 | .flt b, u => ∃ t, u = Value.float b t
 | .ref a, u => u = Value.ref a
 | .ty n, u => u = Value.type n
abbrev Vals : List V -> List Value -> Prop := Paired RelV
theorem Vals.length {xs : List V} {us : List Value} (r : Vals xs us) : xs.length = us.length := Paired.length r
theorem Vals.get : ∀ {xs : List V} {us : List Value} {i : Nat} {x : V}, Vals xs us -> xs[i]? = some x -> ∃ u, us[i]? = some u /\ RelV x u
 | _, _, _, _, .nil, e => by simp at e
 | _, _, 0, _, .cons r _, e => by simp at e; subst e; exact ⟨_, rfl, r⟩
 | _, _, i + 1, x, .cons _ t, e => by
  obtain ⟨u, h1, h2⟩ := Vals.get (i := i) (x := x) t (by simpa using e)
  exact ⟨u, by simpa using h1, h2⟩
theorem Vals.append : ∀ {xs ys : List V} {us ws : List Value}, Vals xs us -> Vals ys ws -> Vals (xs ++ ys) (us ++ ws)
 | _, _, _, _, .nil, s => s
 | _, _, _, _, .cons r t, s => .cons r (Vals.append t s)
theorem Vals.take : ∀ {xs : List V} {us : List Value} (n : Nat), Vals xs us -> Vals (xs.take n) (us.take n)
 | _, _, 0, _ => .nil
 | _, _, _ + 1, .nil => .nil
 | _, _, n + 1, .cons r t => .cons r (Vals.take n t)
theorem Vals.drop : ∀ {xs : List V} {us : List Value} (n : Nat), Vals xs us -> Vals (xs.drop n) (us.drop n)
 | _, _, 0, r => r
 | _, _, _ + 1, .nil => .nil
 | _, _, n + 1, .cons _ t => Vals.drop n t
def RelO : Option V -> Option Value -> Prop
 | some v, some u => RelV v u
 | none, none => True
 | _, _ => False
def KV {κ : Type} : List (κ × V) -> List (κ × Value) -> Prop := Paired fun (p : κ × V) (q : κ × Value) => p.1 = q.1 /\ RelV p.2 q.2
def kV : Key -> V
 | .inl i => .int i
 | .inr x => .str x
inductive HO where
 | lst (xs : List V)
 | tup (xs : List V)
 | dK (kvs : List (Key × V)) | dT (kvs : List (List Key × V))
 | set (S : Int -> Bool) (n : Nat)
 | ins (C dx : Addr) (fs : List (Str × V))
 | own (x : Addr)
 | xd (fs : List (Str × V))
 | met (f x : Addr)
 | rng (lo hi : Int)
 | frz (o : Obj) (u : HO)
 | tbl (ps : Array Value)
 | ext (φ : Heap -> Prop)
abbrev Hp := Addr -> Option HO
def upd (H : Hp) (a : Addr) (o : HO) : Hp := fun b => if b = a then some o else H b
theorem upd_same {H : Hp} {a : Addr} {o : HO} : upd H a o a = some o := by unfold upd; rw [if_pos rfl]
theorem upd_ne {H : Hp} {a b : Addr} {o : HO} (h : b ≠ a) : upd H a o b = H b := by unfold upd; rw [if_neg h]
theorem ne_of {H : Hp} {a b : Addr} {o u : HO} (h : H a = some o) (h' : H b = some u) (d : o ≠ u) : a ≠ b := by
 intro e; subst e; rw [h] at h'; exact d (Option.some.inj h')
theorem ne_of_none {H : Hp} {a b : Addr} {o : HO} (h : H a = some o) (h' : H b = none) : a ≠ b := by
 intro e; subst e; rw [h] at h'; cases h'
section
variable (P : Program) (w : World)
def ObjOk (H : Hp) (h : Heap) (a : Addr) : HO -> Prop
 | .lst xs => xs.length <= sizeLine /\ ∃ (its : List Value) (n : Nat), Vals xs its /\ h.get? a = some { cls := .type "list", data := .seq its.toArray n }
 | .tup xs => xs.length <= sizeLine /\ ∃ its : List Value, Vals xs its /\ IsTup h a its.toArray
 | .dK kvs => kvs.length <= sizeLine /\ (a == sysModules) = false /\ ∃ vs, KV kvs vs /\ h.DictOf (mixKind P w) a vs
 | .dT kvs => kvs.length <= sizeLine /\ (a == sysModules) = false /\ ∃ xs : List (List Key × Addr × Value),
  Paired (fun (p : List Key × V) (q : List Key × Addr × Value) => p.1 = q.1 /\ H q.2.1 = some (.tup (p.1.map kV)) /\ RelV p.2 q.2.2) kvs xs /\
  ∃ o es ep, h.get? a = some o /\ o.ExactDict /\ o.data = .dict es ep /\ es.toList = xs.map (entryOfKey (tupleKind (mixKind P w))) /\ (xs.map (·.1)).Nodup
 | .set S n => h.SetOf (intKind P w) a S n
 | .ins C dx fs => H dx = some (.own a) /\ fs.length <= 1000 /\ dx ≠ a /\ h.get? a = some (PySem.W.instObj C dx) /\
  ∃ mA, h.Ns1 dx mA /\ (∀ f, RelO (fs.lookup f) (mA f)) /\ PySem.Within mA (fs.map (·.1))
 | .own _ => ∃ o, h.get? a = some o
 | .xd fs => ∃ mA, h.Ns1 a mA /\ ∀ f, RelO (fs.lookup f) (mA f)
 | .rng lo hi => ∃ t u v, h.get? a = some { cls := .type "range", data := .fields #[.int lo t, .int hi u, .int 1 v] }
 | .frz o u => h.get? a = some o /\ ObjOk H h a u
 | .tbl ps => h.get? a = some { cls := .none, data := .fields ps }
 | .met f x => h.get? a = some (PySem.W.methodObj (.ref f) (.ref x))
 | .ext φ => φ h /\ (∃ o, h.get? a = some o) /\ ∀ h1 h2 : Heap, φ h1 -> (∀ o, h1.get? a = some o -> h2.get? a = some o) -> φ h2
def HOk (H : Hp) (h : Heap) : Prop := ∀ a o, H a = some o -> ObjOk P w H h a o
end
section
variable {P : Program} {w : World} {H H' : Hp} {h h' : Heap} {a : Addr} {o : HO}
theorem ObjOk.lt (x : ObjOk P w H h a o) : a < h.objs.size := by
 cases o with
 | lst xs => obtain ⟨_, _, _, _, e⟩ := x; exact lt_size e
 | tup xs => obtain ⟨_, _, _, p⟩ := x; exact p.lt
 | dK kvs => obtain ⟨_, _, _, _, o, _, _, e, _⟩ := x; exact lt_size e
 | dT kvs => obtain ⟨_, _, _, _, o, _, _, e, _⟩ := x; exact lt_size e
 | set S n => obtain ⟨o, _, _, _, e, _⟩ := x; exact lt_size e
 | ins C dx fs => obtain ⟨_, _, _, e, _⟩ := x; exact lt_size e
 | own y => obtain ⟨_, e⟩ := x; exact lt_size e
 | xd fs => obtain ⟨_, ⟨_, _, _, e, _⟩, _⟩ := x; exact lt_size e
 | rng lo hi => obtain ⟨_, _, _, e⟩ := x; exact lt_size e
 | frz ob u => obtain ⟨e, _⟩ := x; exact lt_size e
 | tbl ps => exact lt_size (show h.get? a = some _ from x)
 | met f y => exact lt_size (show h.get? a = some _ from x)
 | ext φ => obtain ⟨_, ⟨_, e⟩, _⟩ := x; exact lt_size e
theorem Paired.mapP {α β : Type} {F G : α -> β -> Prop} : ∀ {l₁ : List α} {l₂ : List β}, Paired F l₁ l₂ -> (∀ a b, F a b -> G a b) -> Paired G l₁ l₂
 | _, _, .nil, _ => .nil
 | _, _, .cons r t, f => .cons (f _ _ r) (Paired.mapP t f)
theorem ObjOk.stay (x : ObjOk P w H h a o) (k : ∀ b u, (b = a \/ H b = some (.own a)) -> h.get? b = some u -> h'.get? b = some u)
 (ho : ∀ b, H b = some (.own a) -> H' b = some (.own a)) (ht : ∀ b xs, H b = some (.tup xs) -> H' b = some (.tup xs)) : ObjOk P w H' h' a o := by
 induction o with
 | lst xs => obtain ⟨z, its, n, r, e⟩ := x; exact ⟨z, its, n, r, k _ _ (.inl rfl) e⟩
 | tup xs => obtain ⟨z, its, r, ob, e, c⟩ := x; exact ⟨z, its, r, ob, k _ _ (.inl rfl) e, c⟩
 | dK kvs => obtain ⟨z, y, vs, r, ob, es, ep, e, c⟩ := x; exact ⟨z, y, vs, r, ob, es, ep, k _ _ (.inl rfl) e, c⟩
 | dT kvs =>
  obtain ⟨z, y, xs, r, ob, es, ep, e, c⟩ := x
  exact ⟨z, y, xs, Paired.mapP r fun p q z => ⟨z.1, ht _ _ z.2.1, z.2.2⟩, ob, es, ep, k _ _ (.inl rfl) e, c⟩
 | set S n => obtain ⟨ob, es, ep, t, e, c⟩ := x; exact ⟨ob, es, ep, t, k _ _ (.inl rfl) e, c⟩
 | ins C dx fs =>
  obtain ⟨d, z, ne, e, mA, ⟨od, es, ep, e2, c⟩, r⟩ := x
  exact ⟨ho _ d, z, ne, k _ _ (.inl rfl) e, mA, ⟨od, es, ep, k _ _ (.inr d) e2, c⟩, r⟩
 | own y => obtain ⟨ob, e⟩ := x; exact ⟨ob, k _ _ (.inl rfl) e⟩
 | xd fs => obtain ⟨mA, ⟨od, es, ep, e, c⟩, r⟩ := x; exact ⟨mA, ⟨od, es, ep, k _ _ (.inl rfl) e, c⟩, r⟩
 | rng lo hi => obtain ⟨t, u, v, e⟩ := x; exact ⟨t, u, v, k _ _ (.inl rfl) e⟩
 | frz ob u ih => obtain ⟨e, q⟩ := x; exact ⟨k _ _ (.inl rfl) e, ih q⟩
 | tbl ps =>
  have e : h.get? a = some { cls := .none, data := .fields ps } := x
  show h'.get? a = some { cls := .none, data := .fields ps }
  exact k a _ (.inl rfl) e
 | met f y =>
  have e : h.get? a = some (PySem.W.methodObj (.ref f) (.ref y)) := x
  show h'.get? a = some (PySem.W.methodObj (.ref f) (.ref y))
  exact k a _ (.inl rfl) e
 | ext φ => obtain ⟨p, ⟨o, e⟩, st⟩ := x; exact ⟨st _ _ p fun o q => k _ _ (.inl rfl) q, ⟨o, k _ _ (.inl rfl) e⟩, st⟩
theorem HOk.lt (x : HOk P w H h) (e : H a = some o) : a < h.objs.size := (x a o e).lt
theorem HOk.fresh (x : HOk P w H h) (e : h.objs.size <= a) : H a = none := by
 cases q : H a with
 | none => rfl
 | some u => exact absurd (Nat.lt_of_lt_of_le (x.lt q) e) (Nat.lt_irrefl _)
theorem HOk.kept (x : HOk P w H h) (k : ∀ b u, h.get? b = some u -> h'.get? b = some u) : HOk P w H h' := fun a o e =>
 (x a o e).stay (fun b u _ q => k b u q) (fun _ q => q) fun _ _ q => q
theorem HOk.laid (x : HOk P w H h) (k : ∀ b u, h.get? b = some u -> h'.get? b = some u) (hp : h.objs.size <= a) (new : ObjOk P w (upd H a o) h' a o) : HOk P w (upd H a o) h' := fun b u e => by
 have hn := x.fresh hp
 by_cases hb : b = a
 . subst hb; rw [upd_same] at e; cases e; exact new
 . rw [upd_ne hb] at e
   exact (x b u e).stay (fun c v _ q => k c v q) (fun c q => by rw [upd_ne (ne_of_none q hn)]; exact q) fun c xs q => by rw [upd_ne (ne_of_none q hn)]; exact q
end
def Rd (H : Hp) (a : Addr) (u : HO) : Prop := H a = some u \/ ∃ o, H a = some (.frz o u)
theorem Rd.ok {P : Program} {w : World} {H : Hp} {h : Heap} {a : Addr} {u : HO} (r : Rd H a u) (x : HOk P w H h) : ObjOk P w H h a u := by
 rcases r with r | ⟨o, r⟩
 . exact x a u r
 . obtain ⟨_, q⟩ := x a _ r
   exact q
def Mut : Option HO -> Prop
 | some (.lst _) => True
 | some (.dK _) => True
 | some (.dT _) => True
 | some (.set _ _) => True
 | some (.ins _ _ _) => True
 | some (.ext _) => True
 | _ => False
section
variable {P : Program} {w : World} {H : Hp} {h h' : Heap} {x e : Addr} {o' : HO}
theorem HOk.write (ok : HOk P w H h) (mu : Mut (H x)) (he : e = x \/ H e = some (.own x)) (k : ∀ b u, b ≠ e -> h.get? b = some u -> h'.get? b = some u) (heo : ∃ u, h'.get? e = some u)
 (new : ObjOk P w (upd H x o') h' x o') : HOk P w (upd H x o') h' := fun b u q => by
 have nown : ∀ c y, H c = some (.own y) -> c ≠ x := fun c y r z => by subst z; rw [r] at mu; exact mu
 have ntup : ∀ c xs, H c = some (.tup xs) -> c ≠ x := fun c xs r z => by subst z; rw [r] at mu; exact mu
 by_cases hb : b = x
 . subst hb; rw [upd_same] at q; cases q; exact new
 . rw [upd_ne hb] at q
   by_cases hbe : b = e
   . have q' : H b = some (.own x) := by
      rcases he with z | z
      . exact absurd (hbe.trans z) hb
      . rw [hbe]; exact z
     rw [q] at q'; cases q'
     obtain ⟨v, hv⟩ := heo
     exact ⟨v, by rw [hbe]; exact hv⟩
   . refine (ok b u q).stay (fun c v hc r => k c v ?_ r) (fun c r => by rw [upd_ne (nown c b r)]; exact r) fun c xs r => by rw [upd_ne (ntup c xs r)]; exact r
     rcases hc with rfl | hc
     . exact hbe
     . rintro rfl
       rcases he with z | z
       . exact nown c b hc z
       . rw [hc] at z; cases z; exact hb rfl
end
structure Un (fs ex : List Addr) (H H' : Hp) (h h' : Heap) : Prop where
 keep : ∀ b o, h.get? b = some o -> H b = none -> b ∉ fs -> b ∉ ex -> h'.get? b = some o
 slot : ∀ b o, h.get? b = some o -> H b = none -> b ∈ fs -> b ∉ ex -> ∃ sl, h'.get? b = some { o with slots := sl }
 free : ∀ b o, h.get? b = some o -> H b = none -> b ∉ ex -> H' b = none
 there : ∀ b o, h.get? b = some o -> b ∉ ex -> ∃ o', h'.get? b = some o'
 tups : ∀ b xs, H b = some (.tup xs) -> H' b = some (.tup xs)
 frzs : ∀ b o u, H b = some (.frz o u) -> H' b = some (.frz o u)
 tbls : ∀ b ps, H b = some (.tbl ps) -> ∃ more, H' b = some (.tbl (ps ++ more))
section
variable {fs fs' ex ex' : List Addr} {H H1 H2 : Hp} {h h1 h2 h' : Heap} {a x e : Addr} {o : HO}
theorem Un.any (u : Un fs ex H H1 h h1) {b : Addr} {ob : Obj} (q : h.get? b = some ob) (n : H b = none) (hx : b ∉ ex) : ∃ sl, h1.get? b = some { ob with slots := sl } := by
 by_cases hb : b ∈ fs
 . exact u.slot b ob q n hb hx
 . exact ⟨ob.slots, u.keep b ob q n hb hx⟩
theorem Un.kept (k : ∀ b u, h.get? b = some u -> h'.get? b = some u) : Un fs ex H H h h' :=
 ⟨fun b ob q _ _ _ => k b ob q, fun b ob q _ _ _ => ⟨ob.slots, k b ob q⟩, fun _ _ _ n _ => n, fun b ob q _ => ⟨ob, k b ob q⟩, fun _ _ q => q, fun _ _ _ q => q, fun _ ps q => ⟨#[], by rw [q]; simp⟩⟩
theorem Un.refl : Un fs ex H H h h := Un.kept fun _ _ q => q
theorem Un.laid (k : ∀ b u, h.get? b = some u -> h'.get? b = some u) (hp : h.objs.size <= a) (hn : H a = none) : Un fs ex H (upd H a o) h h' where
 keep := fun b u q _ _ _ => k b u q
 slot := fun b u q _ _ _ => ⟨u.slots, k b u q⟩
 free := fun b u q n _ => by rw [upd_ne (Nat.ne_of_lt (Nat.lt_of_lt_of_le (lt_size q) hp))]; exact n
 there := fun b u q _ => ⟨u, k b u q⟩
 tups := fun b xs q => by rw [upd_ne (ne_of_none q hn)]; exact q
 frzs := fun b u xs q => by rw [upd_ne (ne_of_none q hn)]; exact q
 tbls := fun b ps q => ⟨#[], by rw [upd_ne (ne_of_none q hn), q]; simp⟩
theorem Un.write (mu : Mut (H x)) (he : e = x \/ H e = some (.own x)) (k : ∀ b u, b ≠ e -> h.get? b = some u -> h'.get? b = some u) (heo : ∃ u, h'.get? e = some u) : Un fs ex H (upd H x o) h h' := by
 have hx : ∀ b, H b = none -> b ≠ x := fun b n z => by subst z; rw [n] at mu; exact mu
 have hb : ∀ b, H b = none -> b ≠ e := fun b n z => by
  subst z
  rcases he with r | r
  . exact hx b n r
  . rw [n] at r; cases r
 have hm : ∀ b u, H b = some u -> ¬ Mut (some u) -> b ≠ x := fun b u q nm z => by subst z; rw [q] at mu; exact nm mu
 refine ⟨fun b u q n _ _ => k b u (hb b n) q, fun b u q n _ _ => ⟨u.slots, k b u (hb b n) q⟩, fun b u q n _ => by rw [upd_ne (hx b n)]; exact n, fun b u q _ => ?_,
  fun b xs q => by rw [upd_ne (hm b _ q fun z => z)]; exact q, fun b u xs q => by rw [upd_ne (hm b _ q fun z => z)]; exact q, fun b ps q => ⟨#[], by rw [upd_ne (hm b _ q fun z => z), q]; simp⟩⟩
 by_cases hbe : b = e
 . subst hbe; exact heo
 . exact ⟨u, k b u hbe q⟩
end
def trk (h : Heap) (H : Hp) : List Addr := (List.range h.objs.size).filter fun a => (H a).isSome
def hidT (h : Heap) (H : Hp) : Heap := PySem.W.hideAll h (trk h H)
theorem hidT_size (h : Heap) (H : Hp) : (hidT h H).objs.size = h.objs.size := PySem.W.hideAll_size _ _
theorem hidT_get {h : Heap} {H : Hp} {b : Addr} {o : Obj} (e : h.get? b = some o) (n : H b = none) : (hidT h H).get? b = some o :=
 PySem.W.hideAll_get _ e fun hm => by
  have q : (H b).isSome = true := (mem_filter.mp hm).2
  rw [n] at q; simp at q
theorem of_hidT {h : Heap} {H : Hp} {b : Addr} {o : Obj} (e : (hidT h H).get? b = some o) : h.get? b = some o /\ H b = none := by
 have e' : h.get? b = some o := PySem.W.of_hideAll (trk h H) e
 refine ⟨e', ?_⟩
 cases q : H b with
 | none => rfl
 | some x =>
  have hm : b ∈ trk h H := mem_filter.mpr ⟨List.mem_range.mpr (lt_size e'), by simp [q]⟩
  have z : (hidT h H).get? b = none := PySem.W.hideAll_none (trk h H) hm
  rw [z] at e; cases e
def allNews (g h : Heap) (L : Addr) : List (Addr × Obj) := (List.range h.objs.size).filterMap fun a => if a = L \/ (g.get? a).isSome = true then none else (h.get? a).map fun o => (a, o)
def rest (g h : Heap) (L d : Addr) : List (Addr × Obj) := (allNews g h L).filter fun p => decide (p.1 ≠ d)
structure Mod (K : Frag) (mg : Str -> Option Value) (base : Heap) : Prop where
 kin : K.In base
 glob : base.Ns mainGlobals mg
 blt : ∃ mb, base.Ns builtinsNs mb /\ ∀ x : Str, x ≠ "__name__" -> mb x = bootBuiltins x
 nolimit : base.NoLimit
structure Cx where
 prog : Program
 w : World
 K : Frag
 mg : Str -> Option Value
 base : Heap
 A : Around
 N : List Str
 s₀ : Shared
 H₀ : Hp
 env : Env
 outer : List Env
 stack : List Env
 ex : List Addr
 fn : Str -> Bool
 calm : Bool
 pn : List (Addr × Obj)
 xe : Value -> Shared -> Prop
def frs (l : List Env) : List Addr := l.filterMap (·.frame)
abbrev Cx.fs (X : Cx) : List Addr := frs X.outer
def Vis (sc : Scope) (x : Str) : Prop := sc.names.lookup x = some .local \/ sc.names.lookup x = some .cell \/ sc.names.lookup x = some .free
def Loc (sc : Scope) (x : Str) : Prop := sc.names.lookup x = some .local \/ sc.names.lookup x = some .cell
def Look (env : Env) (h : Heap) (m : Str -> Option Value) (x : Str) (u : Value) : Prop :=
 (env.kindOf x = some .local /\ m x = some u) \/ ((env.kindOf x = some .cell \/ env.kindOf x = some .free) /\ ∃ c, env.cells.lookup x = some c /\ h.IsCell c (some u))
structure Cx.Ok (X : Cx) : Prop where
 mod : Mod X.K X.mg X.base
 kind : X.env.scope.kind = .function
 glob : X.env.globals = mainGlobals
 blt : X.env.builtins = builtinsNs
 above : X.s₀.heap.objs.size <= X.env.locals
 inj : ∀ x y c, X.env.cells.lookup x = some c -> X.env.cells.lookup y = some c -> x = y
 has : ∀ x, (X.env.kindOf x = some .cell \/ X.env.kindOf x = some .free) -> ∃ c, X.env.cells.lookup x = some c
 cab : ∀ x c, X.fn x = true -> X.env.cells.lookup x = some c -> X.s₀.heap.objs.size <= c
 hd : X.calm = true -> X.A.handled = none
 frames : X.A.frames = some X.stack
 stk : X.stack = X.outer \/ (X.stack = X.env :: X.outer /\ X.env.frame = some X.env.locals)
 exf : ∀ b ∈ X.ex, b ≠ X.env.locals /\ ∀ x c, X.env.cells.lookup x = some c -> c ≠ b
 bs : ∀ b o, X.base.get? b = some o -> X.s₀.heap.get? b = some o /\ X.H₀ b = none
 bsz : X.base.objs.size <= X.s₀.heap.objs.size
 noex : ∀ b o, X.base.get? b = some o -> b ∉ X.ex
 exfs : ∀ b ∈ X.ex, b ∉ X.fs
 funs : X.s₀.heap.FunFrames X.base X.outer
 frf : ∀ b ∈ X.fs, X.H₀ b = none
structure Inv (X : Cx) (pins : List (Addr × Obj)) (σ : List (Option V)) (H : Hp) (s : Shared) : Prop where
 ok : X.Ok
 os : s.os = X.s₀.os
 bare : AllBare s.gens
 base : Un X.fs X.ex X.H₀ H X.s₀.heap s.heap
 loc : ∃ m, s.heap.Ns X.env.locals m /\ ∀ (i : Nat) (x : Str) (v : V), X.N[i]? = some x -> σ[i]? = some (some v) -> Vis X.env.scope x -> ∃ u, RelV v u /\ Look X.env s.heap m x u
 cell : ∀ x c, X.env.cells.lookup x = some c -> ∃ v, s.heap.IsCell c v
 free : H X.env.locals = none
 freeC : ∀ x c, X.env.cells.lookup x = some c -> H c = none
 pin : ∀ p ∈ X.pn ++ pins, s.heap.get? p.1 = some p.2 /\ H p.1 = none /\ p.1 ≠ X.env.locals /\ p.1 ∉ X.fs /\ ∀ v, p.2.data ≠ .cell v
 hok : HOk X.prog X.w H s.heap
 len : σ.length = X.N.length
section
variable {X : Cx} {pins : List (Addr × Obj)} {σ : List (Option V)} {H H' : Hp} {s : Shared} {h' : Heap}
theorem Cx.Ok.nofr (ok : X.Ok) {b : Addr} {o : Obj} (e : X.base.get? b = some o) : b ∉ X.fs := fun hb => by
 have := (ok.funs.mem hb).1
 rw [e] at this; cases this
theorem Inv.bs (I : Inv X pins σ H s) : ∀ b o, X.base.get? b = some o -> s.heap.get? b = some o /\ H b = none := fun b o e =>
 ⟨I.base.keep b o (I.ok.bs b o e).1 (I.ok.bs b o e).2 (I.ok.nofr e) (I.ok.noex b o e), I.base.free b o (I.ok.bs b o e).1 (I.ok.bs b o e).2 (I.ok.noex b o e)⟩
theorem Inv.bk (I : Inv X pins σ H s) : ∀ b o, X.base.get? b = some o -> s.heap.get? b = some o := fun b o e => (I.bs b o e).1
theorem Inv.mod (I : Inv X pins σ H s) : Mod X.K X.mg X.base := I.ok.mod
theorem Inv.kIn (I : Inv X pins σ H s) : X.K.In s.heap := I.ok.mod.kin.keeps I.bk
theorem Inv.nolimit (I : Inv X pins σ H s) : s.heap.NoLimit := I.ok.mod.nolimit.keeps I.bk
theorem Inv.lt (I : Inv X pins σ H s) : X.env.locals < s.heap.objs.size := let ⟨_, hn, _⟩ := I.loc; hn.lt
theorem Inv.sz (I : Inv X pins σ H s) : X.s₀.heap.objs.size <= s.heap.objs.size := Nat.le_trans I.ok.above (Nat.le_of_lt I.lt)
theorem Inv.nofs (I : Inv X pins σ H s) {a : Addr} (h : s.heap.objs.size <= a) : a ∉ X.fs := fun hb => by
 obtain ⟨_, o, ho, _⟩ := I.ok.funs.mem hb
 exact absurd (Nat.lt_of_lt_of_le (lt_size ho) (Nat.le_trans I.sz h)) (Nat.lt_irrefl _)
theorem Inv.cne (I : Inv X pins σ H s) : ∀ x c, X.env.cells.lookup x = some c -> c ≠ X.env.locals := fun x c e z => by
 obtain ⟨v, o, ho, hd⟩ := I.cell x c e
 obtain ⟨m, ⟨o', es, ep, ho', hd', _⟩, _⟩ := I.loc
 rw [z, ho'] at ho; cases ho; rw [hd'] at hd; cases hd
theorem Inv.funs (I : Inv X pins σ H s) : s.heap.FunFrames X.base X.outer := by
 have all : ∀ (l : List Env), (∀ b ∈ frs l, b ∈ X.fs) -> X.s₀.heap.FunFrames X.base l -> s.heap.FunFrames X.base l := by
  intro l
  induction l with
  | nil => intro _ _; trivial
  | cons env r ih =>
   intro hs hl
   obtain ⟨hk, ⟨L, o, hf, hn, ho, hd⟩, hr⟩ := hl
   have hL : L ∈ X.fs := hs L (by unfold frs; rw [List.filterMap_cons, hf]; exact mem_cons_self)
   obtain ⟨sl, e⟩ := I.base.slot L o ho (I.ok.frf L hL) hL fun z => I.ok.exfs L z hL
   exact ⟨hk, ⟨L, _, hf, hn, e, hd⟩, ih (fun b hb => hs b (by unfold frs; rw [List.filterMap_cons, hf]; exact mem_cons_of_mem _ hb)) hr⟩
 exact all X.outer (fun _ hb => hb) I.ok.funs
theorem Inv.stack (I : Inv X pins σ H s) : s.heap.FunFrames X.base X.stack := by
 rcases I.ok.stk with e | ⟨e, hf⟩
 . rw [e]; exact I.funs
 . rw [e]
   obtain ⟨m, hn, _⟩ := I.loc
   refine .cons (by rw [I.ok.kind]; decide) hf hn ?_ I.funs
   exact Heap.get?_none_of_le (Nat.le_trans I.ok.bsz I.ok.above)
theorem Inv.stkSub (I : Inv X pins σ H s) : ∀ b ∈ frs X.stack, b ∈ X.env.locals :: X.fs := fun b hb => by
 rcases I.ok.stk with e | ⟨e, hf⟩
 . rw [e] at hb; exact mem_cons_of_mem _ hb
 . rw [e] at hb
   unfold frs at hb
   rw [List.filterMap_cons, hf] at hb
   exact hb
theorem Inv.stkFree (I : Inv X pins σ H s) : ∀ b ∈ frs X.stack, H b = none := fun b hb => by
 rcases mem_cons.mp (I.stkSub b hb) with e | hb
 . rw [e]; exact I.free
 . obtain ⟨_, o, ho, _⟩ := I.ok.funs.mem hb
   exact I.base.free b o ho (I.ok.frf b hb) fun z => I.ok.exfs b z hb
theorem Inv.step {g' : Array GenState} {t' : Nat} {d' : Drawn} {ch : List Addr} (I : Inv X pins σ H s)
 (hch : ∀ b ∈ ch, (b ∈ X.ex \/ X.s₀.heap.objs.size <= b) /\ b ≠ X.env.locals /\ (∀ x c, X.env.cells.lookup x = some c -> c ≠ b) /\ ∀ p ∈ X.pn ++ pins, p.1 ≠ b)
 (keep : ∀ b o, b ≠ X.env.locals -> b ∉ X.fs -> b ∉ ch -> s.heap.get? b = some o -> H b = none -> h'.get? b = some o)
 (slot : ∀ b o, b ≠ X.env.locals -> b ∈ X.fs -> b ∉ ch -> s.heap.get? b = some o -> H b = none -> ∃ sl, h'.get? b = some { o with slots := sl }) (free : ∀ b o, b ∉ ch -> s.heap.get? b = some o -> H b = none -> H' b = none)
 (there : ∀ b o, b ∉ ch -> s.heap.get? b = some o -> ∃ o', h'.get? b = some o')
 (tups : ∀ b xs, H b = some (.tup xs) -> H' b = some (.tup xs)) (frzs : ∀ b o u, H b = some (.frz o u) -> H' b = some (.frz o u)) (tbls : ∀ b ps, H b = some (.tbl ps) -> ∃ more, H' b = some (.tbl (ps ++ more)))
 (ns : ∀ m, s.heap.Ns X.env.locals m -> h'.Ns X.env.locals m) (hok : HOk X.prog X.w H' h') (hg : AllBare g') :
 Inv X pins σ H' { s with heap := h', gens := g', drawn := d', toks := t' } := by
 have neL : ∀ b o, X.s₀.heap.get? b = some o -> b ≠ X.env.locals := fun b o e => Nat.ne_of_lt (Nat.lt_of_lt_of_le (lt_size e) I.ok.above)
 have neC : ∀ b o, X.s₀.heap.get? b = some o -> b ∉ X.ex -> b ∉ ch := fun b o e hx hb => by
  rcases (hch b hb).1 with z | z
  . exact hx z
  . exact absurd (Nat.lt_of_lt_of_le (lt_size e) z) (Nat.lt_irrefl _)
 have cellK : ∀ x c, X.env.cells.lookup x = some c -> ∀ v, s.heap.IsCell c v -> h'.IsCell c v := fun x c e v ⟨o, ho, hd⟩ => by
  have nch : c ∉ ch := fun z => (hch c z).2.2.1 x c e rfl
  by_cases hc : c ∈ X.fs
  . obtain ⟨sl, q⟩ := slot c o (I.cne x c e) hc nch ho (I.freeC x c e)
    exact ⟨_, q, hd⟩
  . exact ⟨o, keep c o (I.cne x c e) hc nch ho (I.freeC x c e), hd⟩
 refine ⟨I.ok, I.os, hg, ⟨fun b o e n hb hx => ?_, fun b o e n hb hx => ?_, fun b o e n hx => ?_, fun b o e hx => ?_, fun b xs e => tups b xs (I.base.tups b xs e), fun b o xs e => frzs b o xs (I.base.frzs b o xs e), fun b ps e => ?_⟩, ?_, fun x c e => ?_, ?_, fun x c e => ?_, fun p hp => ?_, hok, I.len⟩
 . exact keep b o (neL b o e) hb (neC b o e hx) (I.base.keep b o e n hb hx) (I.base.free b o e n hx)
 . obtain ⟨sl, e1⟩ := I.base.slot b o e n hb hx
   obtain ⟨sl', e2⟩ := slot b _ (neL b o e) hb (neC b o e hx) e1 (I.base.free b o e n hx)
   exact ⟨sl', e2⟩
 . obtain ⟨o', e1⟩ := I.base.there b o e hx
   exact free b o' (neC b o e hx) e1 (I.base.free b o e n hx)
 . obtain ⟨o', e1⟩ := I.base.there b o e hx
   exact there b o' (neC b o e hx) e1
 . obtain ⟨m1, e1⟩ := I.base.tbls b ps e
   obtain ⟨m2, e2⟩ := tbls b _ e1
   exact ⟨m1 ++ m2, by rw [e2, Array.append_assoc]⟩
 . obtain ⟨m, hn, hl⟩ := I.loc
   refine ⟨m, ns m hn, fun i x v e1 e2 e3 => ?_⟩
   obtain ⟨u, r, l⟩ := hl i x v e1 e2 e3
   refine ⟨u, r, ?_⟩
   rcases l with l | ⟨k, c, e, z⟩
   . exact .inl l
   . exact .inr ⟨k, c, e, cellK x c e _ z⟩
 . obtain ⟨v, z⟩ := I.cell x c e
   exact ⟨v, cellK x c e v z⟩
 . obtain ⟨m, ⟨o, _, _, ho, _⟩, _⟩ := I.loc
   exact free _ o (fun z => (hch _ z).2.1 rfl) ho I.free
 . obtain ⟨v, o, ho, hd⟩ := I.cell x c e
   exact free c o (fun z => (hch c z).2.2.1 x c e rfl) ho (I.freeC x c e)
 . obtain ⟨e, n, ne, nf, d⟩ := I.pin p hp
   have nch : p.1 ∉ ch := fun z => (hch p.1 z).2.2.2 p hp rfl
   exact ⟨keep p.1 p.2 ne nf nch e n, free p.1 p.2 nch e n, ne, nf, d⟩
theorem Inv.un {t' : Nat} (I : Inv X pins σ H s) (u : Un X.fs [] H H' s.heap h') (hok : HOk X.prog X.w H' h') : Inv X pins σ H' { s with heap := h', toks := t' } := by
 obtain ⟨m, ⟨o, es, ep, ho, r⟩, _⟩ := id I.loc
 obtain ⟨sl, hL⟩ := u.any ho I.free (by simp)
 exact I.step (g' := s.gens) (d' := s.drawn) (ch := []) (fun _ z => nomatch z) (fun b o _ hb _ e n => u.keep b o e n hb (by simp)) (fun b o _ hb _ e n => u.slot b o e n hb (by simp)) (fun b o _ e n => u.free b o e n (by simp)) (fun b o _ e => u.there b o e (by simp)) u.tups u.frzs u.tbls (fun m' hm => by
  obtain ⟨o', es', ep', ho', r'⟩ := hm
  rw [ho] at ho'; cases ho'
  exact ⟨_, es', ep', hL, r'⟩) hok I.bare
theorem Inv.call {g' : Array GenState} {t' : Nat} {d' : Drawn} {ch : List Addr} (I : Inv X pins σ H s) (u : Un (frs X.stack) ch H H' s.heap h') (hok : HOk X.prog X.w H' h') (hg : AllBare g')
 (hch : ∀ b ∈ ch, (b ∈ X.ex \/ X.s₀.heap.objs.size <= b) /\ b ≠ X.env.locals /\ (∀ x c, X.env.cells.lookup x = some c -> c ≠ b) /\ ∀ p ∈ X.pn ++ pins, p.1 ≠ b) :
 Inv X pins σ H' { s with heap := h', gens := g', drawn := d', toks := t' } := by
 obtain ⟨m, ⟨o, es, ep, ho, r⟩, _⟩ := id I.loc
 obtain ⟨sl, hL⟩ := u.any ho I.free fun z => (hch _ z).2.1 rfl
 exact I.step (ch := ch) hch (fun b o hL hb hc e n => u.keep b o e n (fun z => (mem_cons.mp (I.stkSub b z)).elim hL hb) hc) (fun b o _ _ hc e n => u.any e n hc) (fun b o hc e n => u.free b o e n hc) (fun b o hc e => u.there b o e hc) u.tups u.frzs u.tbls (fun m' hm => by
  obtain ⟨o', es', ep', ho', r'⟩ := hm
  rw [ho] at ho'; cases ho'
  exact ⟨_, es', ep', hL, r'⟩) hok hg
theorem Inv.turned {t' : Nat} {it : Addr} (I : Inv X pins σ H s) (k : ∀ b o, b ≠ it -> s.heap.get? b = some o -> h'.get? b = some o) (hn : H it = none) (hL : it ≠ X.env.locals)
 (h1 : it ∈ X.ex \/ X.s₀.heap.objs.size <= it) (h2 : ∀ x c, X.env.cells.lookup x = some c -> c ≠ it) (h3 : ∀ p ∈ X.pn ++ pins, p.1 ≠ it) : Inv X pins σ H { s with heap := h', toks := t' } := by
 have nit : ∀ b u, H b = some u -> b ≠ it := fun b u e z => by rw [z, hn] at e; cases e
 refine I.step (g' := s.gens) (d' := s.drawn) (ch := [it]) (fun b hb => ?_) (fun b o _ _ hc e _ => k b o (fun z => hc (by simp [z])) e) (fun b o _ _ hc e _ => ⟨o.slots, k b o (fun z => hc (by simp [z])) e⟩) (fun _ _ _ _ n => n)
  (fun b o hc e => ⟨o, k b o (fun z => hc (by simp [z])) e⟩) (fun _ _ e => e) (fun _ _ _ e => e) (fun b ps e => ⟨#[], by rw [e]; simp⟩) (fun m hm => ?_) (fun b u e => ?_) I.bare
 . have e : b = it := by simpa using hb
   subst e
   exact ⟨h1, hL, h2, h3⟩
 . obtain ⟨o, es, ep, ho, r⟩ := hm
   exact ⟨o, es, ep, k _ o (Ne.symm hL) ho, r⟩
 . refine (I.hok b u e).stay (fun c v hc q => k c v ?_ q) (fun _ q => q) fun _ _ q => q
   rcases hc with z | z
   . rw [z]; exact nit b u e
   . exact nit c _ z
theorem Inv.tok (I : Inv X pins σ H s) (t : Nat) : Inv X pins σ H { s with toks := t } := I.un (h' := s.heap) (t' := t) Un.refl I.hok
theorem Inv.kept {t' : Nat} (I : Inv X pins σ H s) (k : ∀ b u, s.heap.get? b = some u -> h'.get? b = some u) : Inv X pins σ H { s with heap := h', toks := t' } := I.un (Un.kept k) (I.hok.kept k)
theorem Inv.laid {a : Addr} {o : HO} {t' : Nat} (I : Inv X pins σ H s) (k : ∀ b u, s.heap.get? b = some u -> h'.get? b = some u) (hp : s.heap.objs.size <= a) (new : ObjOk X.prog X.w (upd H a o) h' a o) :
 Inv X pins σ (upd H a o) { s with heap := h', toks := t' } := I.un (Un.laid k hp (I.hok.fresh hp)) (I.hok.laid k hp new)
theorem Inv.write {x e : Addr} {o : HO} {t' : Nat} (I : Inv X pins σ H s) (mu : Mut (H x)) (he : e = x \/ H e = some (.own x)) (k : ∀ b u, b ≠ e -> s.heap.get? b = some u -> h'.get? b = some u) (heo : ∃ u, h'.get? e = some u)
 (new : ObjOk X.prog X.w (upd H x o) h' x o) : Inv X pins σ (upd H x o) { s with heap := h', toks := t' } := I.un (Un.write mu he k heo) (I.hok.write mu he k heo new)
theorem Inv.pins_of {pins' : List (Addr × Obj)} (I : Inv X pins σ H s) (h : ∀ p ∈ pins', s.heap.get? p.1 = some p.2 /\ H p.1 = none /\ p.1 ≠ X.env.locals /\ p.1 ∉ X.fs /\ ∀ v, p.2.data ≠ .cell v) : Inv X pins' σ H s :=
 ⟨I.ok, I.os, I.bare, I.base, I.loc, I.cell, I.free, I.freeC, fun p hp => (mem_append.mp hp).elim (fun z => I.pin p (List.mem_append_left _ z)) (h p), I.hok, I.len⟩
theorem nodup_ix {N : List Str} (hN : N.Nodup) {i j : Nat} {x : Str} (a : N[i]? = some x) (b : N[j]? = some x) : i = j := by
 obtain ⟨h1, e1⟩ := List.getElem?_eq_some_iff.mp a
 obtain ⟨h2, e2⟩ := List.getElem?_eq_some_iff.mp b
 exact (List.getElem_inj hN).mp (e1.trans e2.symm)
theorem store_ok2 {M : Model} {A : Around} {E : Value -> Shared -> Prop} {i : Nat} {x : Str} {v : V} {u : Value} {Q : Unit -> Shared -> Prop} (I : Inv X pins σ H s) (hN : X.N.Nodup) (hi : X.N[i]? = some x) (hx : Loc X.env.scope x) (r : RelV v u)
 (h : ∀ s', Inv X pins (σ.set i (some v)) H s' -> (∃ a, Heap.SameBut a s.heap s'.heap /\ (a = X.env.locals \/ X.env.cells.lookup x = some a)) -> Q () s') (hf : X.fn x = true \/ X.env.scope.names.lookup x = some .local := by first | exact .inl rfl | exact .inr rfl | assumption) : wpAny M A (storeName X.env x u) Q E s := by
 obtain ⟨m, hn, hl⟩ := id I.loc
 have hcls : (X.env.scope.kind == .class || (X.env.scope.kind == .module && X.env.locals != X.env.globals)) = false := by rw [I.ok.kind]; rfl
 have hiσ : i < σ.length := by rw [I.len]; exact (List.getElem?_eq_some_iff.mp hi).1
 have cne := I.cne
 have tracked : ∀ {a : Addr} {h' : Heap}, (∃ o, s.heap.get? a = some o /\ H a = none) -> Heap.SameBut a s.heap h' -> HOk X.prog X.w H h' := fun {a h'} ha hs b ob e => by
  obtain ⟨_, _, hfree⟩ := ha
  refine (I.hok b ob e).stay (fun c w' hc q => (hs.2 c ?_).trans q) (fun _ q => q) fun _ _ q => q
  rintro rfl
  rcases hc with rfl | hc
  . rw [hfree] at e; cases e
  . rw [hfree] at hc; cases hc
 rcases hx with hk | hk
 . refine wpAny_storeName_local hk hn (fun h' hn' hs => ?_) hcls
   obtain ⟨oL, _, _, hoL, _⟩ := id hn
   refine h _ ⟨I.ok, I.os, I.bare, ⟨fun b o e n hb hx => ?_, fun b o e n hb hx => ?_, I.base.free, fun b o e hx => ?_, I.base.tups, I.base.frzs, I.base.tbls⟩, ⟨_, hn', fun j y v' e1 e2 e3 => ?_⟩, fun y c e => ?_, I.free, I.freeC, fun p hp => ?_, tracked ⟨oL, hoL, I.free⟩ hs, by simpa using I.len⟩ ⟨_, hs, .inl rfl⟩
   . exact (hs.2 b (Nat.ne_of_lt (Nat.lt_of_lt_of_le (lt_size e) I.ok.above))).trans (I.base.keep b o e n hb hx)
   . obtain ⟨sl, e1⟩ := I.base.slot b o e n hb hx
     exact ⟨sl, (hs.2 b (Nat.ne_of_lt (Nat.lt_of_lt_of_le (lt_size e) I.ok.above))).trans e1⟩
   . obtain ⟨o', e1⟩ := I.base.there b o e hx
     exact ⟨o', (hs.2 b (Nat.ne_of_lt (Nat.lt_of_lt_of_le (lt_size e) I.ok.above))).trans e1⟩
   . by_cases hj : j = i
     . subst hj
       rw [hi] at e1; cases e1
       rw [List.getElem?_set_self hiσ] at e2
       cases e2
       exact ⟨u, r, .inl ⟨hk, by simp⟩⟩
     . rw [List.getElem?_set_ne (Ne.symm hj)] at e2
       obtain ⟨u', r', q⟩ := hl j y v' e1 e2 e3
       refine ⟨u', r', ?_⟩
       rcases q with ⟨k, e⟩ | ⟨k, c, e, z⟩
       . refine .inl ⟨k, ?_⟩
         have : y ≠ x := fun e => hj (nodup_ix hN e1 (e ▸ hi))
         simp [this, e]
       . exact .inr ⟨k, c, e, z.sameBut hs (cne y c e)⟩
   . obtain ⟨w', z⟩ := I.cell y c e
     exact ⟨w', z.sameBut hs (cne y c e)⟩
   . obtain ⟨e, n, ne, nf, d⟩ := I.pin p hp
     exact ⟨(hs.2 p.1 ne).trans e, n, ne, nf, d⟩
 . have hfn : X.fn x = true := by
    rcases hf with z | z
    . exact z
    . rw [z] at hk; cases hk
   obtain ⟨c, hc⟩ := I.ok.has x (.inl hk)
   obtain ⟨w', z⟩ := I.cell x c hc
   refine wpAny_storeName_cell I.ok.kind hk hc z (fun h' hc' hs => ?_)
   obtain ⟨oc, hoc, hocd⟩ := id z
   refine h { s with heap := h' } ⟨I.ok, I.os, I.bare, ⟨fun b o e n hb hx => ?_, fun b o e n hb hx => ?_, I.base.free, fun b o e hx => ?_, I.base.tups, I.base.frzs, I.base.tbls⟩, ⟨m, hn.sameBut hs (Ne.symm (cne x c hc)), fun j y v' e1 e2 e3 => ?_⟩, fun y c' e => ?_, I.free, I.freeC, fun p hp => ?_, tracked ⟨oc, hoc, I.freeC x c hc⟩ hs, by simpa using I.len⟩ ⟨c, hs, .inr hc⟩
   . exact (hs.2 b (Nat.ne_of_lt (Nat.lt_of_lt_of_le (lt_size e) (I.ok.cab x c hfn hc)))).trans (I.base.keep b o e n hb hx)
   . obtain ⟨sl, e1⟩ := I.base.slot b o e n hb hx
     exact ⟨sl, (hs.2 b (Nat.ne_of_lt (Nat.lt_of_lt_of_le (lt_size e) (I.ok.cab x c hfn hc)))).trans e1⟩
   . obtain ⟨o', e1⟩ := I.base.there b o e hx
     exact ⟨o', (hs.2 b (Nat.ne_of_lt (Nat.lt_of_lt_of_le (lt_size e) (I.ok.cab x c hfn hc)))).trans e1⟩
   . by_cases hj : j = i
     . subst hj
       rw [hi] at e1; cases e1
       rw [List.getElem?_set_self hiσ] at e2
       cases e2
       exact ⟨u, r, .inr ⟨.inl hk, c, hc, hc'⟩⟩
     . rw [List.getElem?_set_ne (Ne.symm hj)] at e2
       obtain ⟨u', r', q⟩ := hl j y v' e1 e2 e3
       refine ⟨u', r', ?_⟩
       rcases q with q | ⟨k, c', e, z'⟩
       . exact .inl q
       . refine .inr ⟨k, c', e, z'.sameBut hs ?_⟩
         rintro rfl
         exact hj (nodup_ix hN e1 (I.ok.inj _ _ _ e hc ▸ hi))
   . by_cases hcc : c' = c
     . subst hcc; exact ⟨_, hc'⟩
     . obtain ⟨w2, z2⟩ := I.cell y c' e
       exact ⟨w2, z2.sameBut hs hcc⟩
   . obtain ⟨e, n, ne, nf, d⟩ := I.pin p hp
     refine ⟨(hs.2 p.1 ?_).trans e, n, ne, nf, d⟩
     intro q
     rw [q, hoc] at e
     have q' : oc = p.2 := Option.some.inj e
     exact d w' (by rw [<- q']; exact hocd)
theorem store_ok {M : Model} {A : Around} {E : Value -> Shared -> Prop} {i : Nat} {x : Str} {v : V} {u : Value} {Q : Unit -> Shared -> Prop} (I : Inv X pins σ H s) (hN : X.N.Nodup) (hi : X.N[i]? = some x) (hx : Loc X.env.scope x) (r : RelV v u)
 (h : ∀ s', Inv X pins (σ.set i (some v)) H s' -> Q () s') (hf : X.fn x = true \/ X.env.scope.names.lookup x = some .local := by first | exact .inl rfl | exact .inr rfl | assumption) : wpAny M A (storeName X.env x u) Q E s :=
 store_ok2 I hN hi hx r (fun s' I' _ => h s' I') hf
theorem Inv.call' {s' : Shared} {ch : List Addr} (I : Inv X pins σ H s) (ho : s'.os = s.os) (u : Un (frs X.stack) ch H H' s.heap s'.heap) (hok : HOk X.prog X.w H' s'.heap) (hg : AllBare s'.gens)
 (hch : ∀ b ∈ ch, (b ∈ X.ex \/ X.s₀.heap.objs.size <= b) /\ b ≠ X.env.locals /\ (∀ x c, X.env.cells.lookup x = some c -> c ≠ b) /\ ∀ p ∈ X.pn ++ pins, p.1 ≠ b) : Inv X pins σ H' s' := by
 obtain ⟨h', g', d', t', o'⟩ := s'
 have e : o' = s.os := ho
 subst e
 exact I.call (g' := g') (t' := t') (d' := d') u hok hg hch
end
abbrev XK := Value -> Option Addr -> Hp -> Prop
abbrev St := List (Option V)
abbrev VK := V -> Hp -> Prop
abbrev TE := St -> Hp -> VK -> Prop
abbrev TT := St -> Hp -> (Bool -> Hp -> Prop) -> Prop
abbrev TA := St -> Hp -> (List V -> Hp -> Prop) -> Prop
structure Ends where
 nx : St -> Hp -> Prop
 rt : VK
 bk : St -> Hp -> Prop := fun _ _ => False
 ct : St -> Hp -> Prop := fun _ _ => False
abbrev TS := Ends -> St -> Hp -> Prop
def EP (X : Cx) (pins : List (Addr × Obj)) (σ : St) (Q : VK) (u : Value) (s' : Shared) : Prop := ∃ v H', Inv X pins σ H' s' /\ RelV v u /\ Q v H'
def TP (X : Cx) (pins : List (Addr × Obj)) (σ : St) (Q : Bool -> Hp -> Prop) (b : Bool) (s' : Shared) : Prop := ∃ H', Inv X pins σ H' s' /\ Q b H'
def AP (X : Cx) (pins : List (Addr × Obj)) (σ : St) (Q : List V -> Hp -> Prop) (us : List Value) (s' : Shared) : Prop := ∃ vs H', Inv X pins σ H' s' /\ Vals vs us /\ Q vs H'
def SP (X : Cx) (pins : List (Addr × Obj)) (D : Ends) (f : Flow) (s' : Shared) : Prop :=
 match f with
 | .next => ∃ σ' H', Inv X pins σ' H' s' /\ D.nx σ' H'
 | .brk => ∃ σ' H', Inv X pins σ' H' s' /\ D.bk σ' H'
 | .cont => ∃ σ' H', Inv X pins σ' H' s' /\ D.ct σ' H'
 | .ret u => ∃ v σ' H', Inv X pins σ' H' s' /\ RelV v u /\ D.rt v H'
def PE (X : Cx) (e : Expr) (t : TE) : Prop :=
 ∀ (pins : List (Addr × Obj)) (s : Shared) (σ : St) (H : Hp) (Q : VK), Inv X pins σ H s -> t σ H Q -> wpAny (model X.prog X.w) X.A (eval e X.env) (EP X pins σ Q) X.xe s
def PT (X : Cx) (e : Expr) (t : TT) : Prop :=
 ∀ (pins : List (Addr × Obj)) (s : Shared) (σ : St) (H : Hp) (Q : Bool -> Hp -> Prop), Inv X pins σ H s -> t σ H Q -> wpAny (model X.prog X.w) X.A (isTrue e X.env (eval e X.env)) (TP X pins σ Q) X.xe s
def PW (X : Cx) (e : Expr) (t : TT) : Prop :=
 ∀ (whole : Sem Value) (pins : List (Addr × Obj)) (s : Shared) (σ : St) (H : Hp) (Q : Bool -> Hp -> Prop), Inv X pins σ H s -> t σ H Q -> wpAny (model X.prog X.w) X.A (isTrue e X.env whole) (TP X pins σ Q) X.xe s
theorem PW.pt {X : Cx} {e : Expr} {t : TT} (h : PW X e t) : PT X e t := h _
def PA (X : Cx) (es : List Expr) (t : TA) : Prop :=
 ∀ (pos : Pos) (pins : List (Addr × Obj)) (s : Shared) (σ : St) (H : Hp) (Q : List V -> Hp -> Prop), Inv X pins σ H s -> t σ H Q -> wpAny (model X.prog X.w) X.A (spliced (backTo pos (starEach es X.env))) (AP X pins σ Q) X.xe s
def PS (X : Cx) (st : Stmt) (t : TS) : Prop :=
 ∀ (pins : List (Addr × Obj)) (s : Shared) (σ : St) (H : Hp) (D : Ends), Inv X pins σ H s -> t D σ H -> wpAny (model X.prog X.w) X.A (exec st X.env) (SP X pins D) X.xe s
def PSs (X : Cx) (st : List Stmt) (t : TS) : Prop :=
 ∀ (pins : List (Addr × Obj)) (s : Shared) (σ : St) (H : Hp) (D : Ends), Inv X pins σ H s -> t D σ H -> wpAny (model X.prog X.w) X.A (execs st X.env) (SP X pins D) X.xe s
theorem thn {α : Type} {t : Sem α} {Q Q' : α -> Shared -> Prop} {M : Model} {A : Around} {E : Value -> Shared -> Prop} {s : Shared} (h : wpAny M A t Q E s) (hQ : ∀ a s, Q a s -> Q' a s) : wpAny M A t Q' E s := wpAny_mono h hQ fun _ _ x => x
section
variable {X : Cx}
def tVar (i : Nat) : TE := fun σ H Q => ∃ v, σ[i]? = some (some v) /\ Q v H
def tC (v : V) : TE := fun _ H Q => Q v H
theorem pe_var {i : Nat} {x : Str} {pos : Pos} (hN : X.N[i]? = some x) (hv : Vis X.env.scope x) (hd : (x == ("__debug__" : Str)) = false := by decide) (hcd : (x == ("__classdict__" : Str)) = false := by decide) : PE X (.Name x pos) (tVar i) := by
 intro pins s σ H Q I h
 obtain ⟨v, e, h⟩ := h
 obtain ⟨m, hn, hl⟩ := I.loc
 obtain ⟨u, r, l⟩ := hl i x v hN e hv
 have fin : EP X pins σ Q u s := ⟨v, H, I, r, h⟩
 rcases l with ⟨hk, hm⟩ | ⟨hk, c, hc, hcell⟩
 . exact wpAny_Name (wpAny_loadName_local I.ok.kind hk hn hm fin) hd
 . rcases hk with hk | hk
   . exact wpAny_Name (wpAny_loadName_cell I.ok.kind hk hc hcell fin) hd
   . exact wpAny_Name (wpAny_loadName_free I.ok.kind hk hc hcell fin hcd) hd
theorem pe_int {i j pos} : PE X (.Constant (.int i) j pos) (tC (.int i)) := fun _ _ _ H _ I h => wpAny_Constant_int ⟨.int i, H, I.tok _, ⟨_, rfl⟩, h⟩
theorem pe_bl {b j pos} : PE X (.Constant (.bool b) j pos) (tC (.bl b)) := fun _ _ _ H _ I h => Constant_bool ⟨.bl b, H, I, rfl, h⟩
theorem pe_str {x j pos} : PE X (.Constant (.str x) j pos) (tC (.str x)) := fun _ _ _ H _ I h => Calls.Constant_str ⟨.str x, H, I.tok _, ⟨_, rfl⟩, h⟩
def Gl (X : Cx) (x : Str) : Prop := X.env.kindOf x = some .globalImplicit
theorem ld_glob {E : Value -> Shared -> Prop} {pins : List (Addr × Obj)} {s : Shared} {σ : St} {H : Hp} {x : Str} {u : Value} {pos : Pos} {Q : Value -> Shared -> Prop} (I : Inv X pins σ H s) (hg : Gl X x) (hm : X.mg x = some u) (h : Q u s)
 (hd : (x == ("__debug__" : Str)) = false := by decide) : wpAny (model X.prog X.w) X.A (eval (.Name x pos) X.env) Q E s :=
 Calls.Name_function_global I.ok.kind hg (Calls.loadGlobal_global (by rw [I.ok.glob]; exact I.mod.glob.keeps I.bk) hm h) hd
theorem ld_blt {E : Value -> Shared -> Prop} {pins : List (Addr × Obj)} {s : Shared} {σ : St} {H : Hp} {x : Str} {u : Value} {pos : Pos} {Q : Value -> Shared -> Prop} (I : Inv X pins σ H s) (hg : Gl X x) (hm : X.mg x = none) (hv : bootBuiltins x = some u) (h : Q u s)
 (hn : x ≠ "__name__" := by decide) (hd : (x == ("__debug__" : Str)) = false := by decide) : wpAny (model X.prog X.w) X.A (eval (.Name x pos) X.env) Q E s := by
 obtain ⟨mb, h1, h2⟩ := I.mod.blt
 exact Calls.Name_function_global I.ok.kind hg (Calls.loadGlobal_builtin (by rw [I.ok.glob]; exact I.mod.glob.keeps I.bk) hm (by rw [I.ok.blt]; exact h1.keeps I.bk) ((h2 x hn).trans hv) h) hd
variable {a b : Expr} {ta tb : TE} {pos : Pos}
def PC (X : Cx) (op : CmpOp) (a b : Expr) (t : TE) : Prop :=
 ∀ (pins : List (Addr × Obj)) (s : Shared) (σ : St) (H : Hp) (Q : VK), Inv X pins σ H s -> t σ H Q ->
  wpAny (model X.prog X.w) X.A (eval a X.env) (fun v s₁ => wpAny (model X.prog X.w) X.A (eval b X.env) (fun u s₂ => wpAny (model X.prog X.w) X.A (compareOp op v u) (EP X pins σ Q) X.xe s₂) X.xe s₁) X.xe s
theorem nobehind (b : Expr) {op : CmpOp} (h : op ≠ .In) (h2 : op ≠ .NotIn) : behindInMarks op b = false := by
 have e1 : (op == CmpOp.In) = false := by cases op <;> first | rfl | exact absurd rfl h
 have e2 : (op == CmpOp.NotIn) = false := by cases op <;> first | rfl | exact absurd rfl h2
 cases b <;> simp [behindInMarks, e1, e2]
def tB (t : TE) : TT := fun σ H Q => t σ H fun x H1 => ∃ c, x = .bl c /\ Q c H1
theorem pt_cmp {op : CmpOp} {t : TE} (h : PC X op a b t) (h1 : behindInMarks op b = false := by first | exact nobehind _ (by decide) (by decide) | rfl) : PT X (.Compare a [op] [b] pos) (tB t) := by
 intro pins s σ H Q I hw
 refine wpAny_isTrue_Compare1 (thn (h pins s σ H _ I hw) fun v s1 h1 => thn h1 fun u s2 h2 => thn h2 fun c s3 ⟨x, H1, I1, r1, q1⟩ => ?_) h1
 obtain ⟨d, rfl, q⟩ := q1
 cases r1
 exact wpAny_truthy_bool ⟨H1, I1, q⟩
theorem pt_val {e : Expr} {t : TE} (h : PE X e t) (he : ∀ whole, isTrue e X.env whole = (do let v <- whole; standAt e.pos; holding [v] (truthy v)) := by intro _; rfl) : PT X e (tB t) := by
 intro pins s σ H Q I hw
 refine isTrue_plain (thn (h pins s σ H _ I hw) fun v s1 ⟨x, H1, I1, r1, q1⟩ => ?_) (he _)
 obtain ⟨d, rfl, q⟩ := q1
 cases r1
 exact wpAny_truthy_bool ⟨H1, I1, q⟩
variable {tA tB' : TT} {rest : List Expr}
def tAnd (t u : TT) : TT := fun σ H Q => t σ H fun c H1 => if c = true then u σ H1 Q else Q false H1
def tOr (t u : TT) : TT := fun σ H Q => t σ H fun c H1 => if c = true then Q true H1 else u σ H1 Q
def tNot (t : TT) : TT := fun σ H Q => t σ H fun c H1 => Q (!c) H1
theorem pw_and1 (ha : PT X a tA) : PW X (.BoolOp .And [a] pos) tA := by
 intro wh pins s σ H Q I h
 refine isTrue_and (thn (ha pins s σ H Q I h) fun c s1 e => ?_)
 cases c with
 | true => exact isTrue_and_nil e
 | false => exact e
theorem pw_or1 (ha : PT X a tA) : PW X (.BoolOp .Or [a] pos) tA := by
 intro wh pins s σ H Q I h
 refine isTrue_or (thn (ha pins s σ H Q I h) fun c s1 e => ?_)
 cases c with
 | false => exact isTrue_or_nil e
 | true => exact e
theorem pw_and (ha : PT X a tA) (hb : PW X (.BoolOp .And (b :: rest) pos) tB') : PW X (.BoolOp .And (a :: b :: rest) pos) (tAnd tA tB') := by
 intro wh pins s σ H Q I h
 refine isTrue_and (thn (ha pins s σ H _ I h) fun c s1 ⟨H1, I1, q1⟩ => ?_)
 cases c with
 | true => exact hb wh pins s1 σ H1 Q I1 q1
 | false => exact ⟨H1, I1, q1⟩
theorem pw_or (ha : PT X a tA) (hb : PW X (.BoolOp .Or (b :: rest) pos) tB') : PW X (.BoolOp .Or (a :: b :: rest) pos) (tOr tA tB') := by
 intro wh pins s σ H Q I h
 refine isTrue_or (thn (ha pins s σ H _ I h) fun c s1 ⟨H1, I1, q1⟩ => ?_)
 cases c with
 | true => exact ⟨H1, I1, q1⟩
 | false => exact hb wh pins s1 σ H1 Q I1 q1
theorem pt_not (ha : PT X a tA) : PT X (.UnaryOp .Not a pos) (tNot tA) := by
 intro pins s σ H Q I h
 exact isTrue_not (ha pins s σ H (fun c H1 => Q (!c) H1) I h)
def tAndV (ta tb : TE) : TE := fun σ H Q => ta σ H fun x H1 => ∃ c, x = .bl c /\ if c = true then tb σ H1 Q else Q (.bl false) H1
theorem pe_one {op} {t : TE} (h : PE X a t) : PE X (.BoolOp op [a] pos) t := fun pins s σ H Q I hw => BoolOp_one (h pins s σ H Q I hw)
theorem pe_and (ha : PE X a ta) (hb : PE X (.BoolOp .And (b :: rest) pos) tb) : PE X (.BoolOp .And (a :: b :: rest) pos) (tAndV ta tb) := by
 intro pins s σ H Q I h
 refine BoolOp_and (thn (ha pins s σ H _ I h) fun v s1 ⟨x, H1, I1, r1, q1⟩ => ?_)
 obtain ⟨c, rfl, q1⟩ := q1
 cases r1
 refine wpAny_truthy_bool ?_
 cases c with
 | true => exact hb pins s1 σ H1 Q I1 q1
 | false => exact ⟨.bl false, H1, I1, rfl, q1⟩
def tIf (t : TT) (ta tb : TE) : TE := fun σ H Q => t σ H fun c H1 => if c = true then ta σ H1 Q else tb σ H1 Q
theorem pe_ifExp {c : Expr} (hc : PT X c tA) (ha : PE X a ta) (hb : PE X b tb) : PE X (.IfExp c a b pos) (tIf tA ta tb) := by
 intro pins s σ H Q I h
 refine wpAny_IfExp (thn (hc pins s σ H _ I h) fun d s1 ⟨H1, I1, q1⟩ => ?_)
 cases d with
 | true => exact ha pins s1 σ H1 Q I1 q1
 | false => exact hb pins s1 σ H1 Q I1 q1
end
def SqL (K : Frag) (H : Hp) (a : Addr) (xs : List V) : Prop :=
 Rd H a (.lst xs) \/
  ∃ (o : Obj) (its : Array Value) (n : Nat), K.lookup a = some o /\ o.cls = .type "list" /\ o.dict = none /\ o.data = .seq its n /\ its.size <= sizeLine /\ Vals xs its.toList
def SqT (K : Frag) (H : Hp) (a : Addr) (xs : List V) : Prop :=
 Rd H a (.tup xs) \/
  ∃ (o : Obj) (its : Array Value) (n : Nat), K.lookup a = some o /\ o.cls = .type "tuple" /\ o.data = .seq its n /\ its.size <= sizeLine /\ Vals xs its.toList
def absV : Value -> Option V
 | .none => some .non
 | .bool b => some (.bl b)
 | .int i _ => some (.int i)
 | .str x _ => some (.str x)
 | .bytes b _ => some (.byt b)
 | .float b _ => some (.flt b)
 | .ref a => some (.ref a)
 | .type n => some (.ty n)
 | _ => none
theorem RelV.abs {x : V} {u : Value} (r : RelV x u) : absV u = some x := by
 cases x with
 | non => cases r; rfl
 | bl _ => cases r; rfl
 | int _ => obtain ⟨t, rfl⟩ := r; rfl
 | str _ => obtain ⟨t, rfl⟩ := r; rfl
 | byt _ => obtain ⟨t, rfl⟩ := r; rfl
 | flt _ => obtain ⟨t, rfl⟩ := r; rfl
 | ref _ => cases r; rfl
 | ty _ => cases r; rfl
theorem RelV.inj {x y : V} {u : Value} (r : RelV x u) (q : RelV y u) : x = y := Option.some.inj (r.abs.symm.trans q.abs)
theorem Vals.inj : ∀ {xs ys : List V} {us : List Value}, Vals xs us -> Vals ys us -> xs = ys
 | _, _, _, .nil, .nil => rfl
 | _, _, _, .cons r t, .cons r' t' => by rw [r.inj r', Vals.inj t t']
section
variable {X : Cx} {pins : List (Addr × Obj)} {σ : St} {H : Hp} {s : Shared} {a : Addr} {xs ys : List V}
theorem SqL.of {K : Frag} (h : H a = some (.lst xs)) : SqL K H a xs := .inl (.inl h)
theorem Inv.list (I : Inv X pins σ H s) (h : SqL X.K H a xs) : ∃ its : List Value, Vals xs its /\ PlainL s.heap a its.toArray /\ xs.length <= sizeLine := by
 rcases h with h | ⟨o, its, n, hk, hc, hd, hs, hz, r⟩
 . obtain ⟨z, its, n, r, e⟩ := h.ok I.hok
   exact ⟨its, r, ⟨_, n, e, rfl, rfl, rfl⟩, z⟩
 . refine ⟨its.toList, r, ⟨o, n, I.kIn a o hk, hc, hd, by simpa using hs⟩, ?_⟩
   have e := r.length
   simp only [Array.length_toList] at e
   omega
theorem Inv.tuple (I : Inv X pins σ H s) (h : SqT X.K H a xs) : ∃ its : List Value, Vals xs its /\ IsTup s.heap a its.toArray /\ xs.length <= sizeLine := by
 rcases h with h | ⟨o, its, n, hk, hc, hs, hz, r⟩
 . obtain ⟨z, its, r, p⟩ := h.ok I.hok
   exact ⟨its, r, p, z⟩
 . refine ⟨its.toList, r, ⟨o, I.kIn a o hk, hc, n, by simpa using hs⟩, ?_⟩
   have e := r.length
   simp only [Array.length_toList] at e
   omega
theorem Inv.list_inj (I : Inv X pins σ H s) (h : SqL X.K H a xs) (h' : SqL X.K H a ys) : xs = ys := by
 obtain ⟨its, r, ⟨o, n, e, _, _, d⟩, _⟩ := I.list h
 obtain ⟨its', r', ⟨o', n', e', _, _, d'⟩, _⟩ := I.list h'
 rw [e] at e'; cases e'
 rw [d] at d'
 injection d' with d1 _
 have : its = its' := by simpa using congrArg Array.toList d1
 subst this
 exact r.inj r'
theorem Inv.tuple_inj (I : Inv X pins σ H s) (h : SqT X.K H a xs) (h' : SqT X.K H a ys) : xs = ys := by
 obtain ⟨its, r, ⟨o, e, _, n, d⟩, _⟩ := I.tuple h
 obtain ⟨its', r', ⟨o', e', _, n', d'⟩, _⟩ := I.tuple h'
 rw [e] at e'; cases e'
 rw [d] at d'
 injection d' with d1 _
 have : its = its' := by simpa using congrArg Array.toList d1
 subst this
 exact r.inj r'
end
abbrev Cx.wish (X : Cx) (E : Value -> Shared -> Prop) : Cx := { X with xe := E }
abbrev Cx.nox (X : Cx) : Cx := X.wish fun _ _ => False
theorem Cx.Ok.wish {X : Cx} (ok : X.Ok) (E : Value -> Shared -> Prop) : (X.wish E).Ok :=
 ⟨ok.mod, ok.kind, ok.glob, ok.blt, ok.above, ok.inj, ok.has, ok.cab, ok.hd, ok.frames, ok.stk, ok.exf, ok.bs, ok.bsz, ok.noex, ok.exfs, ok.funs, ok.frf⟩
theorem Cx.Ok.unwish {X : Cx} {E : Value -> Shared -> Prop} (ok : (X.wish E).Ok) : X.Ok :=
 ⟨ok.mod, ok.kind, ok.glob, ok.blt, ok.above, ok.inj, ok.has, ok.cab, ok.hd, ok.frames, ok.stk, ok.exf, ok.bs, ok.bsz, ok.noex, ok.exfs, ok.funs, ok.frf⟩
section
variable {X : Cx} {pins : List (Addr × Obj)} {σ : St} {H : Hp} {s : Shared} {E : Value -> Shared -> Prop}
theorem Inv.wish (I : Inv X pins σ H s) (E : Value -> Shared -> Prop) : Inv (X.wish E) pins σ H s := ⟨I.ok.wish E, I.os, I.bare, I.base, I.loc, I.cell, I.free, I.freeC, I.pin, I.hok, I.len⟩
theorem Inv.unwish (I : Inv (X.wish E) pins σ H s) : Inv X pins σ H s := ⟨I.ok.unwish, I.os, I.bare, I.base, I.loc, I.cell, I.free, I.freeC, I.pin, I.hok, I.len⟩
theorem SP.unwish {D : Ends} {f : Flow} {s' : Shared} (h : SP (X.wish E) pins D f s') : SP X pins D f s' := by
 cases f with
 | next => obtain ⟨σ', H', I, q⟩ := h; exact ⟨σ', H', I.unwish, q⟩
 | brk => obtain ⟨σ', H', I, q⟩ := h; exact ⟨σ', H', I.unwish, q⟩
 | cont => obtain ⟨σ', H', I, q⟩ := h; exact ⟨σ', H', I.unwish, q⟩
 | ret u => obtain ⟨v, σ', H', I, r, q⟩ := h; exact ⟨v, σ', H', I.unwish, r, q⟩
theorem PSs.nox {st : List Stmt} {t : TS} (h : PSs X.nox st t) : PSs X st t := fun pins s σ H D I hw =>
 wpAny_mono (h pins s σ H D (I.wish _) hw) (fun _ _ q => q.unwish) fun _ _ z => False.elim z
end
section
variable {X : Cx} {st : Stmt} {rest : List Stmt} {t u : TS} {e : Expr} {te : TE} {pos : Pos}
def tNext : TS := fun D σ H => D.nx σ H
def tSeq (t u : TS) : TS := fun D σ H => t { D with nx := u D } σ H
theorem pss_nil : PSs X [] tNext := fun _ _ σ H _ I h => wpAny_execs_nil ⟨σ, H, I, h⟩
theorem pss_cons (h1 : PS X st t) (h2 : PSs X rest u) : PSs X (st :: rest) (tSeq t u) := by
 intro pins s σ H D I h
 refine wpAny_execs_cons (thn (h1 pins s σ H { D with nx := u D } I h) fun f s1 q => ?_)
 cases f with
 | next =>
  obtain ⟨σ', H', I', q⟩ := q
  exact h2 pins s1 σ' H' D I' q
 | ret v => exact q
 | brk => exact q
 | cont => exact q
theorem Inv.quiet {pins : List (Addr × Obj)} {σ : St} {H : Hp} {s : Shared} (I : Inv X pins σ H s) : interactive X.env = false := by simp [interactive, I.ok.kind]
def tDrop (te : TE) : TS := fun D σ H => te σ H fun _ H1 => D.nx σ H1
theorem ps_expr (he : PE X e te) (hs : swapsWith e none pos.line X.env = pure false := by rfl) : PS X (.Expr e pos) (tDrop te) := by
 intro pins s σ H D I h
 exact wpAny_Expr_any (thn (he pins s σ H _ I h) fun v s1 ⟨x, H1, I1, r1, q1⟩ => ⟨σ, H1, I1, q1⟩) I.quiet hs
def tRet (te : TE) : TS := fun D σ H => te σ H D.rt
theorem ps_ret (he : PE X e te) : PS X (.Return (some e) pos) (tRet te) := by
 intro pins s σ H D I h
 exact wpAny_Return_some (thn (he pins s σ H _ I h) fun v s1 ⟨x, H1, I1, r1, q1⟩ => ⟨x, σ, H1, I1, r1, q1⟩)
def tIfS (c : TT) (t u : TS) : TS := fun D σ H => c σ H fun b H1 => if b = true then t D σ H1 else u D σ H1
theorem ps_if {c : Expr} {a b : List Stmt} {tc : TT} (hc : PT X c tc) (ha : PSs X a t) (hb : PSs X b u) : PS X (.If c a b pos) (tIfS tc t u) := by
 intro pins s σ H D I h
 refine wpAny_If (thn (hc pins s σ H _ I h) fun d s1 ⟨H1, I1, q1⟩ => ?_)
 cases d with
 | true => exact ha pins s1 σ H1 D I1 q1
 | false => exact hb pins s1 σ H1 D I1 q1
def tNever : TS := fun _ _ _ => False
theorem pss_never {sts : List Stmt} : PSs X sts tNever := fun _ _ _ _ _ _ h => h.elim
end
abbrev TG := V -> St -> Hp -> (St -> Hp -> Prop) -> Prop
abbrev TGs := List V -> St -> Hp -> (St -> Hp -> Prop) -> Prop
def PG (X : Cx) (target : Expr) (t : TG) : Prop :=
 ∀ (pins : List (Addr × Obj)) (s : Shared) (σ : St) (H : Hp) (v : V) (u : Value) (Q : St -> Hp -> Prop), Inv X pins σ H s -> RelV v u -> t v σ H Q ->
  wpAny (model X.prog X.w) X.A (assign target X.env u) (fun _ s' => ∃ σ' H', Inv X pins σ' H' s' /\ Q σ' H') X.xe s
def PGs (X : Cx) (ts : List Expr) (t : TGs) : Prop :=
 ∀ (pins : List (Addr × Obj)) (s : Shared) (σ : St) (H : Hp) (vs : List V) (us : List Value) (Q : St -> Hp -> Prop), Inv X pins σ H s -> Vals vs us -> t vs σ H Q ->
  wpAny (model X.prog X.w) X.A (assignInOrder ((assignEach ts X.env).map (·.2)) us) (fun _ s' => ∃ σ' H', Inv X pins σ' H' s' /\ Q σ' H') X.xe s
section
variable {X : Cx} {pos : Pos}
def gName (i : Nat) : TG := fun v σ H Q => Q (σ.set i (some v)) H
theorem pg_name {i : Nat} {x : Str} (hN : X.N.Nodup) (hi : X.N[i]? = some x) (hx : Loc X.env.scope x) (hf : X.fn x = true \/ X.env.scope.names.lookup x = some .local := by first | exact .inl rfl | exact .inr rfl | assumption) : PG X (.Name x pos) (gName i) := by
 intro pins s σ H v u Q I r h
 exact wpAny_assign_Name (store_ok I hN hi hx r (fun s' I' => ⟨_, H, I', h⟩) hf)
def gNil : TGs := fun vs σ H Q => vs = [] /\ Q σ H
def gCons (t : TG) (u : TGs) : TGs := fun vs σ H Q => ∃ v r, vs = v :: r /\ t v σ H fun σ' H' => u r σ' H' Q
theorem pgs_nil : PGs X [] gNil := by
 intro pins s σ H vs us Q I r h
 obtain ⟨e, h⟩ := h
 subst e
 cases r
 exact assignInOrder_nil ⟨σ, H, I, h⟩
theorem pgs_cons {e : Expr} {es : List Expr} {t : TG} {u : TGs} (h1 : PG X e t) (h2 : PGs X es u)
 (hs : (assignEach (e :: es) X.env).map (·.2) = assign e X.env :: (assignEach es X.env).map (·.2) := by rfl) : PGs X (e :: es) (gCons t u) := by
 intro pins s σ H vs us Q I r h
 obtain ⟨v, vr, e1, h⟩ := h
 subst e1
 cases r with
 | cons r rr =>
  rw [hs]
  refine assignInOrder_cons (thn (h1 pins s σ H _ _ _ I r h) fun _ s1 ⟨σ1, H1, I1, q1⟩ => ?_)
  exact h2 pins s1 σ1 H1 _ _ Q I1 rr q1
def gTup (K : Frag) (n : Nat) (t : TGs) : TG := fun v σ H Q => ∃ a xs, v = .ref a /\ SqT K H a xs /\ xs.length = n /\ t xs σ H Q
theorem pg_tup {es : List Expr} {k : Nat} {t : TGs} {n : Nat} (hc : X.calm = true) (h : PGs X es t)
 (hn : (assignEach es X.env).length = n := by rfl) (hst : (assignEach es X.env).findIdx? (·.1) = none := by rfl) : PG X (.Tuple es k pos) (gTup X.K n t) := by
 intro pins s σ H v u Q I r hw
 obtain ⟨a, xs, e1, hq, hl, hw⟩ := hw
 subst e1
 cases r
 obtain ⟨its, rv, ht, hz⟩ := I.tuple hq
 refine assign_Tuple_tuple (I.ok.hd hc) ht (by simp [hn, <- hl, rv.length]) hst fun h' hx => ?_
 have I1 : Inv X pins σ H { s with heap := h' } := I.kept (t' := s.toks) fun b o e => hx b o (Nat.ne_of_lt (lt_size e)) e
 exact h pins _ σ H xs _ Q I1 (by simpa using rv) hw
def tAsg (te : TE) (g : TG) : TS := fun D σ H => te σ H fun x H1 => g x σ H1 D.nx
theorem ps_asg {tg e : Expr} {te : TE} {g : TG} (he : PE X e te) (hg : PG X tg g) (hs : swapsWithSole [tg] e pos.line X.env = pure false := by rfl) (hw : swappedStores [tg] e X.env = pure none := by rfl)
 (h1 : (assignEach [tg] X.env).map (·.2) = [assign tg X.env] := by rfl) : PS X (.Assign [tg] e pos) (tAsg te g) := by
 intro pins s σ H D I h
 refine wpAny_Assign_stores (thn (he pins s σ H _ I h) fun v s1 ⟨x, H1, I1, r1, q1⟩ => ?_) hs hw
 rw [h1]
 exact thn (hg pins s1 σ H1 x v _ I1 r1 q1) fun _ s2 q => q
theorem ps_set {i : Nat} {x : Str} {e : Expr} {te : TE} {pos' : Pos} (hN : X.N.Nodup) (hi : X.N[i]? = some x) (hx : Loc X.env.scope x) (he : PE X e te) (hs : swapsWith e (some (.Name x pos')) pos.line X.env = pure false := by rfl) (hf : X.fn x = true \/ X.env.scope.names.lookup x = some .local := by first | exact .inl rfl | exact .inr rfl | assumption) :
 PS X (.Assign [.Name x pos'] e pos) (tAsg te (gName i)) := by
 intro pins s σ H D I h
 refine wpAny_Assign_Name (thn (he pins s σ H _ I h) fun v s1 ⟨y, H1, I1, r1, q1⟩ => ?_) hs
 exact store_ok I1 hN hi hx r1 (fun s2 I2 => ⟨_, H1, I2, q1⟩) hf
end
section
variable {X : Cx} {pos : Pos}
def tWhile (c : TT) (tb : TS) : TS := fun D σ H => ∃ W : Nat -> St -> Hp -> Prop, (∃ m, W m σ H) /\ ∀ m σ H, W m σ H ->
 c σ H fun b H1 => if b = true then ∃ N : St -> Hp -> Prop, (∀ σ' H', N σ' H' -> ∃ m', m' < m /\ W m' σ' H') /\ tb { D with nx := N, ct := N, bk := D.nx } σ H1 else D.nx σ H1
theorem ps_while {c : Expr} {body : List Stmt} {tc : TT} {tb : TS} (hp : PassesOwn (model X.prog X.w) X.A X.env X.xe) (hc : PT X c tc) (hb : PSs X body tb) : PS X (.While c body [] pos) (tWhile tc tb) := by
 intro pins s σ H D I h
 obtain ⟨W, ⟨m0, w0⟩, turn⟩ := h
 refine wpAny_While (codeAny_whileLoop (fun n s' => ∃ σ' H', Inv X pins σ' H' s' /\ W n σ' H') ?_ m0 ⟨σ, H, I, w0⟩)
 rintro n s1 ⟨σ1, H1, I1, w1⟩
 refine wpAny_passesOwn hp (thn (hc pins s1 σ1 H1 _ I1 (turn n σ1 H1 w1)) fun b s2 ⟨H2, I2, q2⟩ => ?_)
 cases b with
 | true =>
  obtain ⟨N, hN, q2⟩ := q2
  rw [if_pos rfl]
  refine wpAny_passesOwn hp (thn (hb pins s2 σ1 H2 _ I2 q2) fun f s3 q3 => ?_)
  cases f with
  | next =>
   obtain ⟨σ3, H3, I3, n3⟩ := q3
   obtain ⟨m', hm, w3⟩ := hN σ3 H3 n3
   exact ⟨m', hm, σ3, H3, I3, w3⟩
  | cont =>
   obtain ⟨σ3, H3, I3, n3⟩ := q3
   obtain ⟨m', hm, w3⟩ := hN σ3 H3 n3
   exact ⟨m', hm, σ3, H3, I3, w3⟩
  | brk => exact q3
  | ret v => exact q3
 | false =>
  rw [if_neg Bool.false_ne_true]
  exact wpAny_execs_nil ⟨σ1, H2, I2, q2⟩
end
structure It where
 go : Nat -> Hp -> Prop
 yld : Nat -> Hp -> V -> Hp -> Prop
 stop : Nat -> Hp -> Prop
def FpOk (X : Cx) (pins : List (Addr × Obj)) (H : Hp) (b : Addr) : Prop :=
 H b = none /\ b ≠ X.env.locals /\ b ∉ X.fs /\ (b ∈ X.ex \/ X.s₀.heap.objs.size <= b) /\ (∀ x c, X.env.cells.lookup x = some c -> c ≠ b) /\ ∀ p ∈ X.pn ++ pins, p.1 ≠ b
theorem Inv.fpOk {X : Cx} {pins : List (Addr × Obj)} {σ : St} {H H' : Hp} {s : Shared} {b : Addr} (I : Inv X pins σ H s) (hb : s.heap.objs.size <= b) (hn : H' b = none) : FpOk X pins H' b := by
 refine ⟨hn, Nat.ne_of_gt (Nat.lt_of_lt_of_le I.lt hb), I.nofs hb, .inr (Nat.le_trans I.sz hb), fun x c e z => ?_, fun p hp z => ?_⟩
 . obtain ⟨v, q⟩ := I.cell x c e
   exact absurd (Nat.lt_of_lt_of_le q.lt (by rw [z]; exact hb)) (Nat.lt_irrefl _)
 . exact absurd (Nat.lt_of_lt_of_le (lt_size (I.pin p hp).1) (by rw [z]; exact hb)) (Nat.lt_irrefl _)
structure Turn (P : Program) (w : World) (K : Frag) (tg : Expr) (J : It) (fp : List Addr) (it : Addr) (tn : Nat -> Heap -> Prop) : Prop where
 mem : it ∈ fp
 obj : ∀ i h, tn i h -> ∀ b ∈ fp, ∃ o, h.get? b = some o /\ ∀ v, o.data ≠ .cell v
 keep : ∀ i h h', tn i h -> (∀ b ∈ fp, ∀ o, h.get? b = some o -> h'.get? b = some o) -> tn i h'
 item : ∀ (X : Cx), X.prog = P -> X.w = w -> X.K = K -> X.calm = true -> ∀ (i : Nat) (pins : List (Addr × Obj)) (s : Shared) (σ : St) (H : Hp) (E : Value -> Shared -> Prop), Inv X pins σ H s -> (∀ b ∈ fp, FpOk X pins H b) -> tn i s.heap -> J.go i H ->
  wpAny (model P w) X.A (pyNext (.ref it)) (fun r s1 => ∃ u, r = some u /\
   wpAny (model P w) X.A (letOwnedTupleGo tg (.ref it) u) (fun _ s2 => ∃ x H', Inv X pins σ H' s2 /\ RelV x u /\ J.yld i H x H' /\ tn (i + 1) s2.heap /\ ∀ b ∈ fp, H' b = none) E s1) E s
 done : ∀ (X : Cx), X.prog = P -> X.w = w -> X.K = K -> X.calm = true -> ∀ (i : Nat) (pins : List (Addr × Obj)) (s : Shared) (σ : St) (H : Hp) (E : Value -> Shared -> Prop), Inv X pins σ H s -> (∀ b ∈ fp, FpOk X pins H b) -> tn i s.heap -> J.stop i H ->
  wpAny (model P w) X.A (pyNext (.ref it)) (fun r s1 => r = none /\ Inv X pins σ H s1) E s
 self : ∀ (A : Around) (i : Nat) (s : Shared) (Q : Value -> Shared -> Prop) (E : Value -> Shared -> Prop), tn i s.heap -> Q (.ref it) s -> wpAny (model P w) A (pyIter (.ref it)) Q E s
abbrev TI := St -> Hp -> (It -> Hp -> Prop) -> Prop
def PIE (X : Cx) (pins : List (Addr × Obj)) (σ : St) (tg : Expr) (R : It -> Hp -> Prop) (itv : Value) (s2 : Shared) : Prop :=
 ∃ (it : Addr) (fp : List Addr) (tn : Nat -> Heap -> Prop) (J : It) (H' : Hp), itv = .ref it /\ Inv X pins σ H' s2 /\ Turn X.prog X.w X.K tg J fp it tn /\ tn 0 s2.heap /\ (∀ b ∈ fp, FpOk X pins H' b) /\ R J H'
def PI (X : Cx) (tg iter : Expr) (wi : TI) : Prop :=
 ∀ (pins : List (Addr × Obj)) (s : Shared) (σ : St) (H : Hp) (R : It -> Hp -> Prop), Inv X pins σ H s -> wi σ H R ->
  wpAny (model X.prog X.w) X.A (eval iter X.env) (fun v s1 => wpAny (model X.prog X.w) X.A (pyIter v) (PIE X pins σ tg R) X.xe s1) X.xe s
theorem go_of {M : Model} {A : Around} {E : Value -> Shared -> Prop} {s : Shared} {tg : Expr} {it : Addr} {u : Value} {o : Obj} {n : String} {vs : Array Value} {Q : Unit -> Shared -> Prop} (ho : s.heap.get? it = some o) (hc : o.cls = .type n) (hd : o.data = .fields vs)
    (hn : ["enumerate", "zip", "dict_itemiterator", "dict_reverseitemiterator", "odict_iterator", "itertools.zip_longest", "itertools.pairwise"].contains n = false) (hQ : Q () s) : wpAny M A (letOwnedTupleGo tg (.ref it) u) Q E s := by
  unfold letOwnedTupleGo
  cases tg <;> first
    | exact wpAny_pure hQ
    | (cases u <;> first
        | exact wpAny_pure hQ
        | (refine wpAny_bind (wpAny_load ho ?_)
           rw [hc, hd]
           show wpAny M A (if (["enumerate", "zip", "dict_itemiterator", "dict_reverseitemiterator", "odict_iterator", "itertools.zip_longest", "itertools.pairwise"].contains n && vs[0]? == some (rawInt _)) = true then _ else _) Q E s
           rw [if_neg (by intro h; rw [hn, Bool.false_and] at h; cases h)]
           exact wpAny_pure hQ))
def Itl (K : Frag) (a : Addr) : It :=
 ⟨fun i H => ∃ xs x, SqL K H a xs /\ xs[i]? = some x, fun i H x H' => H' = H /\ ∀ xs, SqL K H a xs -> xs[i]? = some x, fun i H => ∃ xs, SqL K H a xs /\ xs.length <= i⟩
def Itr (lo : Int) (n : Nat) : It := ⟨fun i _ => i < n, fun i H x H' => H' = H /\ x = .int (lo + i), fun i _ => n <= i⟩
theorem turn_list {P : Program} {w : World} {K : Frag} {tg : Expr} (a it : Addr) : Turn P w K tg (Itl K a) [it] it (fun i h => h.IsListIter it a i) where
 mem := by simp
 obj := fun i h st b hb => by
  have e : b = it := by simpa using hb
  subst e
  obtain ⟨o, e, c, d⟩ := st
  exact ⟨o, e, fun v z => by rw [d] at z; cases z⟩
 keep := fun i h h' st k => st.at fun o e => k it (by simp) o e
 item := by
  intro X hP hw hK hc i pins s σ H E I hf st hg
  subst hP hw hK
  obtain ⟨xs, x, hq, hx⟩ := hg
  obtain ⟨its, rv, p, hz⟩ := I.list hq
  obtain ⟨u, hu, ru⟩ := rv.get hx
  obtain ⟨f0, f1, f2, f3, f4, f5⟩ := hf it (by simp)
  refine wpAny_pyNext_list_item st p.isList (x := u) (by simpa using hu) fun h' st' sb => ?_
  have I1 : Inv X pins σ H { s with heap := h' } := I.turned (t' := s.toks) (fun b o hb e => (sb.2 b hb).trans e) f0 f1 f3 f4 f5
  obtain ⟨o, e, c, d⟩ := id st'
  exact ⟨u, rfl, go_of (s := { s with heap := h' }) e c d (by decide) ⟨x, H, I1, ru, ⟨rfl, fun ys hy => by rw [I.list_inj hy hq]; exact hx⟩, st', fun b hb => (hf b hb).1⟩⟩
 done := by
  intro X hP hw hK hc i pins s σ H E I hf st hg
  subst hP hw hK
  obtain ⟨xs, hq, hx⟩ := hg
  obtain ⟨its, rv, p, hz⟩ := I.list hq
  obtain ⟨f0, f1, f2, f3, f4, f5⟩ := hf it (by simp)
  have hl := rv.length
  exact wpAny_pyNext_list_end (I.ok.hd hc) st p.isList (by simp; omega) fun h' eb => ⟨rfl, I.turned (t' := s.toks) (fun b o hb e => eb b o hb e) f0 f1 f3 f4 f5⟩
 self := fun _ _ _ _ _ st h => wpAny_pyIter_listiter st h
theorem turn_range {P : Program} {w : World} {K : Frag} {tg : Expr} (it : Addr) (lo : Int) (n : Nat) : Turn P w K tg (Itr lo n) [it] it (fun i h => IsRangeIter h it (lo + (i : Nat) * 1) ((n : Int) - (i : Nat)) 1) where
 mem := by simp
 obj := fun i h st b hb => by
  have e : b = it := by simpa using hb
  subst e
  exact ⟨_, st, fun v z => by
   have z' : Data.fields _ = Data.cell v := z
   cases z'⟩
 keep := fun i h h' st k => k it (by simp) _ st
 item := by
  intro X hP hw hK hc i pins s σ H E I hf st hg
  subst hP hw hK
  obtain ⟨f0, f1, f2, f3, f4, f5⟩ := hf it (by simp)
  have W := Walks.range (prog := X.prog) (w := X.w) (I.ok.hd hc) it lo 1 n
  refine W.item i s _ _ hg st fun v h' tk hv st' kk => ?_
  obtain ⟨t, rfl⟩ := hv
  have I1 : Inv X pins σ H { s with heap := h', toks := tk } := I.turned (fun b o hb e => kk b o (by simpa using hb) e) f0 f1 f3 f4 f5
  refine ⟨_, rfl, go_of (s := { s with heap := h', toks := tk }) (n := "range_iterator") st' rfl rfl (by decide) ⟨.int (lo + i), H, I1, ⟨t, ?_⟩, ⟨rfl, rfl⟩, st', fun b hb => (hf b hb).1⟩⟩
  rw [Int.mul_one]
 done := by
  intro X hP hw hK hc i pins s σ H E I hf st hg
  subst hP hw hK
  obtain ⟨f0, f1, f2, f3, f4, f5⟩ := hf it (by simp)
  exact wpAny_pyNext_range_end (I.ok.hd hc) st (by have : n <= i := hg; omega) fun h' eb => ⟨rfl, I.turned (t' := s.toks) (fun b o hb e => eb b o hb e) f0 f1 f3 f4 f5⟩
 self := fun _ _ _ _ _ st h => wpAny_pyIter_rangeiter st h
section
variable {X : Cx} {tg : Expr}
def iList (K : Frag) (tl : TE) : TI := fun σ H R => tl σ H fun x H1 => ∃ a, x = .ref a /\ (∃ xs, SqL K H1 a xs) /\ R (Itl K a) H1
theorem pi_list {l : Expr} {tl : TE} (hl : PE X l tl) : PI X tg l (iList X.K tl) := by
 intro pins s σ H R I h
 refine thn (hl pins s σ H _ I h) fun v s1 ⟨x, H1, I1, r1, q1⟩ => ?_
 obtain ⟨a, e, ⟨xs, hq⟩, q⟩ := q1
 subst e
 cases r1
 obtain ⟨its, rv, p, hz⟩ := I1.list hq
 refine wpAny_pyIter_list p.isList ?_
 refine ⟨s1.heap.objs.size, [s1.heap.objs.size], _, _, H1, rfl, I1.kept (t' := s1.toks) fun b o e => get?_push_of_some _ e, turn_list a _, ⟨_, get?_push_size _ rfl, rfl, rfl⟩, fun b hb => ?_, q⟩
 have e : b = s1.heap.objs.size := by simpa using hb
 subst e
 exact I1.fpOk (Nat.le_refl _) (I1.hok.fresh (Nat.le_refl _))
theorem range_it {pins : List (Addr × Obj)} {σ : St} {H : Hp} {s : Shared} {R : It -> Hp -> Prop} {E : Value -> Shared -> Prop} {lo hi : Int} {t u v : Tok} {tk : Nat} (I : Inv X pins σ H s) (h1 : -(2 ^ 62) <= lo) (h2 : lo < 2 ^ 62) (h3 : -(2 ^ 62) <= hi) (h4 : hi < 2 ^ 62)
 (q : R (Itr lo (hi - lo).toNat) H) : wpAny (model X.prog X.w) X.A (pyIter (.ref s.heap.objs.size)) (PIE X pins σ tg R) E { s with heap := s.heap.push { cls := .type "range", data := .fields #[.int lo t, .int hi u, .int 1 v] }, toks := tk } := by
 refine wpAny_pyIter_range (IsRange.new ..) (small_one h1 h2 h3 h4) ?_
 have I1 : Inv X pins σ H { s with heap := s.heap.push { cls := .type "range", data := .fields #[.int lo t, .int hi u, .int 1 v] }, toks := tk } := I.kept fun b o e => get?_push_of_some _ e
 refine ⟨(s.heap.push { cls := .type "range", data := .fields #[.int lo t, .int hi u, .int 1 v] }).objs.size, [(s.heap.push { cls := .type "range", data := .fields #[.int lo t, .int hi u, .int 1 v] }).objs.size], _, _, H, rfl,
  I1.kept (t' := tk) fun b o e => get?_push_of_some _ e, turn_range _ lo (hi - lo).toNat, ?_, fun b hb => ?_, q⟩
 . have e1 : lo + ((0 : Nat) : Int) * 1 = lo := by simp
   have e2 : (((hi - lo).toNat : Nat) : Int) - ((0 : Nat) : Int) = Builtin.Range.rangeSize lo hi 1 := by rw [rangeSize_one]; split <;> omega
   show IsRangeIter _ _ (lo + ((0 : Nat) : Int) * 1) ((((hi - lo).toNat : Nat) : Int) - ((0 : Nat) : Int)) 1
   rw [e1, e2]
   exact get?_push_size _ rfl
 . have e : b = (s.heap.push { cls := .type "range", data := .fields #[.int lo t, .int hi u, .int 1 v] }).objs.size := by simpa using hb
   subst e
   exact I1.fpOk (Nat.le_refl _) (I1.hok.fresh (Nat.le_refl _))
def iRng1 (ta : TA) : TI := fun σ H R => ta σ H fun vs H1 => ∃ j : Int, vs = [.int j] /\ -(2 ^ 62) <= j /\ j < 2 ^ 62 /\ R (Itr 0 j.toNat) H1
theorem pi_range1 {a : Expr} {ta : TA} {p pos : Pos} (hg : Gl X "range") (hm : X.mg "range" = none) (ha : PA X [a] ta) (hs : starEach [a] X.env = [(false, eval a X.env)] := by rfl) : PI X tg (.Call (.Name "range" p) [a] [] pos) (iRng1 ta) := by
 intro pins s σ H R I h
 refine Call_ (ld_blt I hg hm boot_range (PyProof.Rows.callWith_type1 (thn (ha pos pins s σ H _ I h) fun us s1 ⟨vs, H1, I1, r1, q1⟩ => ?_) hs rfl))
 obtain ⟨j, e, q1, q2, q⟩ := q1
 subst e
 cases r1 with
 | cons r rr =>
  cases rr
  obtain ⟨t, rfl⟩ := r
  exact call_range_1 (range_it I1 (by omega) (by omega) q1 q2 (by simpa using q))
def tFor (wi : TI) (g : TG) (tb : TS) : TS := fun D σ H => wi σ H fun J H1 => ∃ W : Nat -> Nat -> St -> Hp -> Prop, (∃ m, W 0 m σ H1) /\ ∀ i m σ H, W i m σ H ->
 (J.stop i H /\ D.nx σ H) \/ (J.go i H /\ ∃ N : St -> Hp -> Prop, (∀ σ' H', N σ' H' -> ∃ m', m' < m /\ W (i + 1) m' σ' H') /\ ∀ x H', J.yld i H x H' -> g x σ H' fun σ2 H2 => tb { D with nx := N, ct := N, bk := D.nx } σ2 H2)
def pinsAt (fp : List Addr) (h : Heap) : List (Addr × Obj) := fp.filterMap fun b => (h.get? b).map fun o => (b, o)
theorem mem_pinsAt {fp : List Addr} {h : Heap} {b : Addr} {o : Obj} (hb : b ∈ fp) (e : h.get? b = some o) : (b, o) ∈ pinsAt fp h := List.mem_filterMap.mpr ⟨b, hb, by rw [e]; rfl⟩
theorem of_pinsAt {fp : List Addr} {h : Heap} {p : Addr × Obj} (hp : p ∈ pinsAt fp h) : p.1 ∈ fp /\ h.get? p.1 = some p.2 := by
 obtain ⟨b, hb, e⟩ := List.mem_filterMap.mp hp
 cases q : h.get? b with
 | none => rw [q] at e; cases e
 | some o =>
  rw [q] at e
  have e' : (b, o) = p := Option.some.inj e
  subst e'
  exact ⟨hb, q⟩
theorem Inv.pinned {pins : List (Addr × Obj)} {σ : St} {H : Hp} {s : Shared} {fp : List Addr} (I : Inv X pins σ H s) (hf : ∀ b ∈ fp, FpOk X pins H b) (ho : ∀ b ∈ fp, ∃ o, s.heap.get? b = some o /\ ∀ v, o.data ≠ .cell v) : Inv X (pins ++ pinsAt fp s.heap) σ H s :=
 I.pins_of fun p hp => (mem_append.mp hp).elim (fun z => I.pin p (mem_append_right _ z)) fun z => by
  obtain ⟨hb, e⟩ := of_pinsAt z
  obtain ⟨f0, f1, f2, _⟩ := hf p.1 hb
  obtain ⟨o, e', d⟩ := ho p.1 hb
  rw [e] at e'; cases e'
  exact ⟨e, f0, f1, f2, d⟩
theorem Inv.unpinned {pins pl : List (Addr × Obj)} {σ : St} {H : Hp} {s : Shared} (I : Inv X (pins ++ pl) σ H s) : Inv X pins σ H s := I.pins_of fun p hp => I.pin p (mem_append_right _ (List.mem_append_left _ hp))
theorem ps_for {iter : Expr} {body : List Stmt} {wi : TI} {g : TG} {tb : TS} {pos : Pos} (hp : PassesOwn (model X.prog X.w) X.A X.env X.xe) (hc : X.calm = true) (hi : PI X tg iter wi) (hg : PG X tg g) (hb : PSs X body tb)
 (hs : ∀ x, foldedSetIterable iter X.env x = pure x := by intro _; rfl) : PS X (.For tg iter body [] pos) (tFor wi g tb) := by
 intro pins s σ H D I h
 refine wpAny_For (thn (hi pins s σ H _ I h) fun v s1 h1 => thn h1 fun itv s2 h2 => ?_) hs
 obtain ⟨it, fp, tn, J, H2, e, I2, T, st2, f2, W, ⟨m0, w0⟩, turn⟩ := h2
 subst e
 -- what stays true of the iterator's objects through the loop
 have stat : ∀ {H' : Hp}, (∀ b ∈ fp, H' b = none) -> ∀ b ∈ fp, FpOk X pins H' b := fun hn b hb => ⟨hn b hb, (f2 b hb).2⟩
 refine codeAny_forLoop_any (fun n s' => ∃ i σ' H', Inv X pins σ' H' s' /\ tn i s'.heap /\ (∀ b ∈ fp, H' b = none) /\ W i n σ' H') ?_ m0 ⟨0, σ, H2, I2, st2, fun b hb => (f2 b hb).1, w0⟩
 rintro n s3 ⟨i, σ3, H3, I3, st3, fr3, w3⟩
 rcases turn i n σ3 H3 w3 with ⟨stop, qn⟩ | ⟨go, N, hN, step⟩
 . refine wpAny_passesOwn hp (thn (T.done X rfl rfl rfl hc i pins s3 σ3 H3 X.xe I3 (stat fr3) st3 stop) fun r s4 ⟨hr, I4⟩ => ?_)
   subst hr
   exact wpAny_execs_nil ⟨σ3, H3, I4, qn⟩
 . refine wpAny_passesOwn hp (thn (T.item X rfl rfl rfl hc i pins s3 σ3 H3 X.xe I3 (stat fr3) st3 go) fun r s4 ⟨u, hr, h4⟩ => ?_)
   subst hr
   refine wpAny_passesOwn hp (thn h4 fun _ s5 ⟨x, H5, I5, r5, y5, st5, fr5⟩ => ?_)
   have I5' := I5.pinned (stat fr5) (T.obj _ _ st5)
   refine wpAny_passesOwn hp (thn (hg _ s5 σ3 H5 x u _ I5' r5 (step x H5 y5)) fun _ s6 ⟨σ6, H6, I6, q6⟩ => ?_)
   refine wpAny_passesOwn hp (thn (hb _ s6 σ6 H6 _ I6 q6) fun f s7 q7 => ?_)
   have again : ∀ {σ7 : St} {H7 : Hp}, Inv X (pins ++ pinsAt fp s5.heap) σ7 H7 s7 -> N σ7 H7 -> ∃ m, m < n /\ ∃ i σ' H', Inv X pins σ' H' s7 /\ tn i s7.heap /\ (∀ b ∈ fp, H' b = none) /\ W i m σ' H' := fun {σ7 H7} I7 n7 => by
    obtain ⟨m', hm, w7⟩ := hN σ7 H7 n7
    refine ⟨m', hm, i + 1, σ7, H7, I7.unpinned, T.keep _ _ _ st5 fun b hb o e => (I7.pin (b, o) (mem_append_right _ (mem_append_right _ (mem_pinsAt hb e)))).1, fun b hb => ?_, w7⟩
    obtain ⟨o, e, d⟩ := T.obj _ _ st5 b hb
    exact (I7.pin (b, o) (mem_append_right _ (mem_append_right _ (mem_pinsAt hb e)))).2.1
   cases f with
   | next => obtain ⟨σ7, H7, I7, n7⟩ := q7; exact again I7 n7
   | cont => obtain ⟨σ7, H7, I7, n7⟩ := q7; exact again I7 n7
   | brk => obtain ⟨σ7, H7, I7, q7⟩ := q7; exact ⟨σ7, H7, I7.unpinned, q7⟩
   | ret v => obtain ⟨x7, σ7, H7, I7, r7, q7⟩ := q7; exact ⟨x7, σ7, H7, I7.unpinned, r7, q7⟩
end
abbrev R2 := V -> V -> Hp -> VK -> Prop
def OpR (X : Cx) (f : Value -> Value -> Sem Value) (r : R2) : Prop :=
 ∀ (pins : List (Addr × Obj)) (s : Shared) (σ : St) (H : Hp) (x y : V) (v u : Value) (Q : VK), Inv X pins σ H s -> RelV x v -> RelV y u -> r x y H Q ->
  wpAny (model X.prog X.w) X.A (f v u) (EP X pins σ Q) X.xe s
def UnR (X : Cx) (f : Value -> Sem Value) (r : V -> Hp -> VK -> Prop) : Prop :=
 ∀ (pins : List (Addr × Obj)) (s : Shared) (σ : St) (H : Hp) (x : V) (v : Value) (Q : VK), Inv X pins σ H s -> RelV x v -> r x H Q ->
  wpAny (model X.prog X.w) X.A (f v) (EP X pins σ Q) X.xe s
def CallR (X : Cx) (f : Value) (r : List V -> Hp -> VK -> Prop) : Prop :=
 ∀ (pins : List (Addr × Obj)) (s : Shared) (σ : St) (H : Hp) (xs : List V) (us : List Value) (Q : VK), Inv X pins σ H s -> Vals xs us -> r xs H Q ->
  wpAny (model X.prog X.w) X.A (call f us) (EP X pins σ Q) X.xe s
def tOp (r : R2) (ta tb : TE) : TE := fun σ H Q => ta σ H fun x H1 => tb σ H1 fun y H2 => r x y H2 Q
def tUn (r : V -> Hp -> VK -> Prop) (ta : TE) : TE := fun σ H Q => ta σ H fun x H1 => r x H1 Q
def rI (C : Int -> Int -> Prop) (g : Int -> Int -> V) : R2 := fun x y H Q => ∃ i j, x = .int i /\ y = .int j /\ C i j /\ Q (g i j) H
def rI0 (g : Int -> Int -> V) : R2 := fun x y H Q => ∃ i j, x = .int i /\ y = .int j /\ Q (g i j) H
def rU (g : Int -> V) : V -> Hp -> VK -> Prop := fun x H Q => ∃ i, x = .int i /\ Q (g i) H
section
variable {X : Cx} {a b c : Expr} {ta tb tc : TE} {pos : Pos}
theorem binT (ha : PE X a ta) (hb : PE X b tb) {pins : List (Addr × Obj)} {s : Shared} {σ : St} {H : Hp} {R : V -> V -> Hp -> Prop} (I : Inv X pins σ H s)
 (h : ta σ H fun x H1 => tb σ H1 fun y H2 => R x y H2) {Q : Value -> Shared -> Prop} {f : Value -> Value -> Sem Value}
 (hf : ∀ v u s2 x y H2, Inv X pins σ H2 s2 -> RelV x v -> RelV y u -> R x y H2 -> wpAny (model X.prog X.w) X.A (f v u) Q X.xe s2) :
 wpAny (model X.prog X.w) X.A (eval a X.env) (fun v s₁ => wpAny (model X.prog X.w) X.A (eval b X.env) (fun u s₂ => wpAny (model X.prog X.w) X.A (f v u) Q X.xe s₂) X.xe s₁) X.xe s := by
 refine thn (ha pins s σ H _ I h) fun v s1 ⟨x, H1, I1, r1, q1⟩ => ?_
 refine thn (hb pins s1 σ H1 _ I1 q1) fun u s2 ⟨y, H2, I2, r2, q2⟩ => ?_
 exact hf v u s2 x y H2 I2 r1 r2 q2
theorem pe_op {op : Operator} {r : R2} (ho : OpR X (binaryOp op) r) (ha : PE X a ta) (hb : PE X b tb) : PE X (.BinOp a op b pos) (tOp r ta tb) := by
 intro pins s σ H Q I h
 exact wpAny_BinOp (binT ha hb I h fun v u s2 x y H2 I2 rx ry q => ho pins s2 σ H2 x y v u Q I2 rx ry q)
theorem pe_un {op : UnaryOp} {r : V -> Hp -> VK -> Prop} (ho : UnR X (unaryOp op) r) (ha : PE X a ta) : PE X (.UnaryOp op a pos) (tUn r ta) := by
 intro pins s σ H Q I h
 exact UnaryOp_ (thn (ha pins s σ H _ I h) fun v s1 ⟨x, H1, I1, r1, q1⟩ => ho pins s1 σ H1 x v Q I1 r1 q1)
theorem opI {f : Value -> Value -> Sem Value} {C : Int -> Int -> Prop} {g : Int -> Int -> Int}
 (rule : ∀ (i j : Int) (t u : Tok) (s : Shared) (Q : Value -> Shared -> Prop) (E : Value -> Shared -> Prop), C i j -> Q (.int (g i j) s.toks) { s with toks := s.toks + 1 } -> wpAny (model X.prog X.w) X.A (f (.int i t) (.int j u)) Q E s) :
 OpR X f (rI C fun i j => .int (g i j)) := by
 intro pins s σ H x y v u Q I rx ry h
 obtain ⟨i, j, rfl, rfl, hc, q⟩ := h
 obtain ⟨t, rfl⟩ := rx
 obtain ⟨t', rfl⟩ := ry
 exact rule i j t t' s _ _ hc ⟨.int (g i j), H, I.tok _, ⟨_, rfl⟩, q⟩
theorem opI0 {f : Value -> Value -> Sem Value} {g : Int -> Int -> Int}
 (rule : ∀ (i j : Int) (t u : Tok) (s : Shared) (Q : Value -> Shared -> Prop) (E : Value -> Shared -> Prop), Q (.int (g i j) s.toks) { s with toks := s.toks + 1 } -> wpAny (model X.prog X.w) X.A (f (.int i t) (.int j u)) Q E s) :
 OpR X f (rI0 fun i j => .int (g i j)) := by
 intro pins s σ H x y v u Q I rx ry h
 obtain ⟨i, j, rfl, rfl, q⟩ := h
 obtain ⟨t, rfl⟩ := rx
 obtain ⟨t', rfl⟩ := ry
 exact rule i j t t' s _ _ ⟨.int (g i j), H, I.tok _, ⟨_, rfl⟩, q⟩
theorem opB0 {f : Value -> Value -> Sem Value} {g : Int -> Int -> Bool}
 (rule : ∀ (i j : Int) (t u : Tok) (s : Shared) (Q : Value -> Shared -> Prop) (E : Value -> Shared -> Prop), Q (.bool (g i j)) s -> wpAny (model X.prog X.w) X.A (f (.int i t) (.int j u)) Q E s) :
 OpR X f (rI0 fun i j => .bl (g i j)) := by
 intro pins s σ H x y v u Q I rx ry h
 obtain ⟨i, j, rfl, rfl, q⟩ := h
 obtain ⟨t, rfl⟩ := rx
 obtain ⟨t', rfl⟩ := ry
 exact rule i j t t' s _ _ ⟨.bl (g i j), H, I, rfl, q⟩
def CDiv (i j : Int) : Prop := 0 < j /\ j < 1073741824
def CMul (i j : Int) : Prop := (-(2 ^ 64) < i /\ i < 2 ^ 64) \/ (-(2 ^ 64) < j /\ j < 2 ^ 64)
theorem CMul.ok {i j : Int} (h : CMul i j) : IntMulOk i j := by
 rcases h with ⟨h1, h2⟩ | ⟨h1, h2⟩
 . exact .of_left (intBits_le_64 h1 h2)
 . exact .of_right (intBits_le_64 h1 h2)
theorem op_add : OpR X (binaryOp .Add) (rI0 fun i j => .int (i + j)) := opI0 fun _ _ _ _ _ _ _ q => add_int q
theorem op_sub : OpR X (binaryOp .Sub) (rI0 fun i j => .int (i - j)) := opI0 fun _ _ _ _ _ _ _ q => sub_int q
theorem op_mul : OpR X (binaryOp .Mult) (rI CMul fun i j => .int (i * j)) := opI fun _ _ _ _ _ _ _ hc q => mul_int q hc.ok
theorem op_fdiv : OpR X (binaryOp .FloorDiv) (rI CDiv fun i j => .int (i / j)) := opI fun i j _ _ _ _ _ hc q => by
 have h1 : (0 : Int) < j := hc.1
 have h2 : j < 1073741824 := hc.2
 exact floordiv_int (by omega) (by rw [Int.fdiv_eq_ediv_of_nonneg i (by omega)]; exact q) (.inl (PyProof.noPylong_small (by omega)))
theorem op_mod : OpR X (binaryOp .Mod) (rI (fun _ j => 0 < j) fun i j => .int (i % j)) := opI fun i j _ _ _ _ _ hc q => by
 have h1 : (0 : Int) < j := hc
 exact mod_int' (by omega) (by rw [Int.fmod_eq_emod_of_nonneg i (by omega)]; exact q)
theorem unI {f : Value -> Sem Value} {g : Int -> Int}
 (rule : ∀ (i : Int) (t : Tok) (s : Shared) (Q : Value -> Shared -> Prop) (E : Value -> Shared -> Prop), Q (.int (g i) s.toks) { s with toks := s.toks + 1 } -> wpAny (model X.prog X.w) X.A (f (.int i t)) Q E s) :
 UnR X f (rU fun i => .int (g i)) := by
 intro pins s σ H x v Q I rx h
 obtain ⟨i, rfl, q⟩ := h
 obtain ⟨t, rfl⟩ := rx
 exact rule i t s _ _ ⟨.int (g i), H, I.tok _, ⟨_, rfl⟩, q⟩
theorem un_neg : UnR X (unaryOp .USub) (rU fun i => .int (-i)) := unI fun _ _ _ _ _ q => neg_int q
end
def scal : V -> V -> Bool
 | .non, .non => true | .non, .int _ => true | .int _, .non => true | .non, .bl _ => true | .bl _, .non => true | .non, .str _ => true | .str _, .non => true
 | .int _, .int _ => true | .bl _, .bl _ => true | .str _, .str _ => true | .byt _, .byt _ => true
 | .int _, .str _ => true | .str _, .int _ => true | .bl _, .str _ => true | .str _, .bl _ => true
 | _, _ => false
def rEq : R2 := fun x y H Q => scal x y = true /\ Q (.bl (decide (x = y))) H
def rNe : R2 := fun x y H Q => scal x y = true /\ Q (.bl (!decide (x = y))) H
theorem dec_int {i j : Int} : decide (V.int i = V.int j) = (i == j) := by
 rw [Bool.eq_iff_iff]
 simp
theorem dec_bl {i j : Bool} : decide (V.bl i = V.bl j) = (i == j) := by
 rw [Bool.eq_iff_iff]
 simp
theorem dec_str {i j : Str} : decide (V.str i = V.str j) = (i == j) := by
 rw [Bool.eq_iff_iff]
 simp
theorem dec_byt {i j : Array UInt8} : decide (V.byt i = V.byt j) = (i.toList == j.toList) := by
 rw [Bool.eq_iff_iff]
 cases i
 cases j
 simp
section
variable {X : Cx} {a b c : Expr} {ta tb tc : TE} {pos : Pos}
theorem fin_bl {pins : List (Addr × Obj)} {σ : St} {H : Hp} {s : Shared} {Q : VK} {k k' : Bool} (I : Inv X pins σ H s) (q : Q (.bl k) H) (e : k = k') : EP X pins σ Q (.bool k') s := by
 subst e
 exact ⟨.bl k, H, I, rfl, q⟩
theorem op_eq : OpR X (compareOp .Eq) rEq := by
 intro pins s σ H x y v u Q I rx ry h
 obtain ⟨hs, q⟩ := h
 cases x with
 | non =>
  cases rx
  cases y with
  | non => cases ry; exact PySem.EqNone.eq_none_none (fin_bl I q (by simp))
  | bl j => cases ry; exact PySem.EqNone.eq_none_bool (fin_bl I q (by simp))
  | int j => obtain ⟨t', rfl⟩ := ry; exact PySem.EqNone.eq_none_int (fin_bl I q (by simp))
  | str j => obtain ⟨t', rfl⟩ := ry; exact PySem.EqNone.eq_none_str (fin_bl I q (by simp))
  | _ => exact absurd (show false = true from hs) Bool.false_ne_true
 | bl i =>
  cases rx
  cases y with
  | non => cases ry; exact PySem.EqNone.eq_bool_none (fin_bl I q (by simp))
  | bl j => cases ry; exact eq_bool (fin_bl I q dec_bl)
  | str j => obtain ⟨t', rfl⟩ := ry; exact PySem.EqMixed.eq_bool_str (fin_bl I q (by simp))
  | _ => exact absurd (show false = true from hs) Bool.false_ne_true
 | int i =>
  obtain ⟨t, rfl⟩ := rx
  cases y with
  | non => cases ry; exact PySem.EqNone.eq_int_none (fin_bl I q (by simp))
  | int j => obtain ⟨t', rfl⟩ := ry; exact eq_int (fin_bl I q dec_int)
  | str j => obtain ⟨t', rfl⟩ := ry; exact PySem.EqMixed.eq_int_str (fin_bl I q (by simp))
  | _ => exact absurd (show false = true from hs) Bool.false_ne_true
 | str i =>
  obtain ⟨t, rfl⟩ := rx
  cases y with
  | non => cases ry; exact PySem.EqNone.eq_str_none (fin_bl I q (by simp))
  | bl j => cases ry; exact PySem.EqMixed.eq_str_bool (fin_bl I q (by simp))
  | int j => obtain ⟨t', rfl⟩ := ry; exact PySem.EqMixed.eq_str_int (fin_bl I q (by simp))
  | str j => obtain ⟨t', rfl⟩ := ry; exact eq_str (fin_bl I q dec_str)
  | _ => exact absurd (show false = true from hs) Bool.false_ne_true
 | byt i =>
  obtain ⟨t, rfl⟩ := rx
  cases y with
  | byt j => obtain ⟨t', rfl⟩ := ry; exact PySem.W.eq_bytes (fin_bl I q dec_byt)
  | _ => exact absurd (show false = true from hs) Bool.false_ne_true
 | _ => cases y <;> exact absurd (show false = true from hs) Bool.false_ne_true
theorem op_ne : OpR X (compareOp .NotEq) rNe := by
 intro pins s σ H x y v u Q I rx ry h
 obtain ⟨hs, q⟩ := h
 cases x with
 | non =>
  cases rx
  cases y with
  | non => cases ry; exact PySem.EqNone.ne_none_none (fin_bl I q (by simp))
  | bl j => cases ry; exact PySem.EqNone.ne_none_bool (fin_bl I q (by simp))
  | int j => obtain ⟨t', rfl⟩ := ry; exact PySem.EqNone.ne_none_int (fin_bl I q (by simp))
  | str j => obtain ⟨t', rfl⟩ := ry; exact PySem.EqNone.ne_none_str (fin_bl I q (by simp))
  | _ => exact absurd (show false = true from hs) Bool.false_ne_true
 | bl i =>
  cases rx
  cases y with
  | non => cases ry; exact PySem.EqNone.ne_bool_none (fin_bl I q (by simp))
  | bl j => cases ry; exact ne_bool (fin_bl I q (congrArg not dec_bl))
  | str j => obtain ⟨t', rfl⟩ := ry; exact PySem.EqMixed.ne_bool_str (fin_bl I q (by simp))
  | _ => exact absurd (show false = true from hs) Bool.false_ne_true
 | int i =>
  obtain ⟨t, rfl⟩ := rx
  cases y with
  | non => cases ry; exact PySem.EqNone.ne_int_none (fin_bl I q (by simp))
  | int j => obtain ⟨t', rfl⟩ := ry; exact ne_int (fin_bl I q (congrArg not dec_int))
  | str j => obtain ⟨t', rfl⟩ := ry; exact PySem.EqMixed.ne_int_str (fin_bl I q (by simp))
  | _ => exact absurd (show false = true from hs) Bool.false_ne_true
 | str i =>
  obtain ⟨t, rfl⟩ := rx
  cases y with
  | non => cases ry; exact PySem.EqNone.ne_str_none (fin_bl I q (by simp))
  | bl j => cases ry; exact PySem.EqMixed.ne_str_bool (fin_bl I q (by simp))
  | int j => obtain ⟨t', rfl⟩ := ry; exact PySem.EqMixed.ne_str_int (fin_bl I q (by simp))
  | str j => obtain ⟨t', rfl⟩ := ry; exact ne_str (fin_bl I q (congrArg not dec_str))
  | _ => exact absurd (show false = true from hs) Bool.false_ne_true
 | byt i =>
  obtain ⟨t, rfl⟩ := rx
  cases y with
  | byt j => obtain ⟨t', rfl⟩ := ry; exact PySem.W.ne_bytes (fin_bl I q (congrArg not dec_byt))
  | _ => exact absurd (show false = true from hs) Bool.false_ne_true
 | _ => cases y <;> exact absurd (show false = true from hs) Bool.false_ne_true
theorem op_lt : OpR X (compareOp .Lt) (rI0 fun i j => .bl (decide (i < j))) := opB0 fun _ _ _ _ _ _ _ q => lt_int q
theorem op_gt : OpR X (compareOp .Gt) (rI0 fun i j => .bl (decide (j < i))) := opB0 fun _ _ _ _ _ _ _ q => gt_int q
theorem nomark (b : Expr) {op : CmpOp} (h : op ≠ .In := by decide) (h2 : op ≠ .NotIn := by decide) : behindInMarks op b = false := by
 have e1 : (op == CmpOp.In) = false := by cases op <;> first | rfl | exact absurd rfl h
 have e2 : (op == CmpOp.NotIn) = false := by cases op <;> first | rfl | exact absurd rfl h2
 cases b <;> simp [behindInMarks, e1, e2]
theorem pe_cmpR {op : CmpOp} {r : R2} (ho : OpR X (compareOp op) r) (ha : PE X a ta) (hb : PE X b tb) (hm : behindInMarks op b = false) : PE X (.Compare a [op] [b] pos) (tOp r ta tb) := by
 intro pins s σ H Q I h
 exact wpAny_Compare1 (binT ha hb I h fun v u s2 x y H2 I2 rx ry q => ho pins s2 σ H2 x y v u Q I2 rx ry q) hm
def tTest (t : TE) : TT := fun σ H Q => t σ H fun x H' => ∃ k, x = .bl k /\ Q k H'
theorem pt_cmpR {op : CmpOp} {r : R2} (ho : OpR X (compareOp op) r) (ha : PE X a ta) (hb : PE X b tb) (hm : behindInMarks op b = false) : PT X (.Compare a [op] [b] pos) (tTest (tOp r ta tb)) := by
 intro pins s σ H Q I h
 refine wpAny_isTrue_Compare1 (thn (ha pins s σ H _ I h) fun v s1 ⟨x, H1, I1, r1, q1⟩ => thn (hb pins s1 σ H1 _ I1 q1) fun u s2 ⟨y, H2, I2, r2, q2⟩ =>
  thn (ho pins s2 σ H2 x y v u _ I2 r1 r2 q2) fun c s3 ⟨z, H3, I3, r3, k, e, q3⟩ => ?_) hm
 subst e
 cases r3
 exact wpAny_truthy_bool ⟨H3, I3, q3⟩
theorem line63 : (sizeLine : Nat) < 2 ^ 63 := by rw [sizeLine_eq]; decide
theorem op_add_str : OpR X (binaryOp .Add) (fun x y H Q => ∃ i j, x = .str i /\ y = .str j /\ i.length + j.length <= sizeLine /\ Q (.str (i ++ j)) H) := by
 intro pins s σ H x y v u Q I rx ry h
 obtain ⟨i, j, rfl, rfl, hz, q⟩ := h
 obtain ⟨t, rfl⟩ := rx
 obtain ⟨t', rfl⟩ := ry
 exact add_str (fun t' tk => ⟨.str (i ++ j), H, I.tok _, ⟨_, rfl⟩, q⟩) hz
theorem vals1 {x : V} {us : List Value} (r : Vals [x] us) : ∃ u, us = [u] /\ RelV x u := by
 cases r with
 | cons r1 r2 => cases r2; exact ⟨_, rfl, r1⟩
end
theorem RelO.some_of {v : V} {o : Option Value} (r : RelO (some v) o) : ∃ u, o = some u /\ RelV v u := by
 cases o with
 | none => exact (show False from r).elim
 | some u => exact ⟨u, rfl, r⟩
structure Room (k : Nat) (A : Around) : Prop where
 hd : A.handled = none
 dp : A.depth + 3 * k + 5 < recursionLimit
 un : A.units + 16 * k + 200 < cLine
theorem Room.mono {j k : Nat} {A : Around} (r : Room k A) (h : j <= k) : Room j A := ⟨r.hd, by have := r.dp; omega, by have := r.un; omega⟩
theorem Room.deeper {k : Nat} {A : Around} (r : Room (k + 1) A) (env : Env) : Room k (A.deeper env) :=
 ⟨r.hd, by have := r.dp; show A.depth + 1 + 3 * k + 5 < _; omega, by have := r.un; show A.units + 3 + 16 * k + 200 < _; omega⟩
theorem Room.in1 {k : Nat} {A : Around} (r : Room (k + 1) A) : Room k A.in1 :=
 ⟨r.hd, by have := r.dp; show A.depth + 3 * k + 5 < _; omega, by have := r.un; show A.units + 1 + 16 * k + 200 < _; omega⟩
theorem Room.depth {k : Nat} {A : Around} (r : Room k A) : A.depth < recursionLimit := by have := r.dp; omega
def tNil : TA := fun _ H Q => Q [] H
def tCons (ta : TE) (tr : TA) : TA := fun σ H Q => ta σ H fun x H1 => tr σ H1 fun xs H2 => Q (x :: xs) H2
section
variable {X : Cx} {e : Expr} {es : List Expr} {te : TE} {t : TA} {pos : Pos}
theorem pa_nil : PA X [] tNil := fun _ _ _ _ H Q I h => Calls.spliced_nil ⟨[], H, I, .nil, h⟩
theorem pa_cons (ha : PE X e te) (hr : PA X es t) (hs : starEach (e :: es) X.env = (false, eval e X.env) :: starEach es X.env := by rfl) : PA X (e :: es) (tCons te t) := by
 intro pos pins s σ H Q I h
 rw [hs]
 show wpAny _ _ (spliced ((false, eval e X.env) :: backTo pos (starEach es X.env))) _ _ s
 refine Calls.spliced_cons (thn (ha pins s σ H _ I h) fun u s1 ⟨x, H1, I1, r1, q1⟩ => ?_)
 exact thn (hr pos pins s1 σ H1 _ I1 q1) fun us s2 ⟨xs, H2, I2, r2, q2⟩ => ⟨x :: xs, H2, I2, .cons r1 r2, q2⟩
def tTup (t : TA) : TE := fun σ H Q => t σ H fun xs H1 => xs.length <= sizeLine /\ ∀ p, H1 p = none -> Q (.ref p) (upd H1 p (.tup xs))
def tLst (t : TA) : TE := fun σ H Q => t σ H fun xs H1 => xs.length <= sizeLine /\ ∀ p, H1 p = none -> Q (.ref p) (upd H1 p (.lst xs))
theorem pe_tup {x1} (h : PA X es t) : PE X (.Tuple es x1 pos) (tTup t) := by
 intro pins s σ H Q I hq
 refine wpAny_Tuple_spliced (thn (h pos pins s σ H _ I hq) fun us s1 ⟨xs, H1, I1, r, z, q⟩ => ⟨by rw [<- r.length]; exact z, ?_⟩)
 have hf : H1 s1.heap.objs.size = none := I1.hok.fresh (Nat.le_refl _)
 refine ⟨.ref s1.heap.objs.size, upd H1 s1.heap.objs.size (.tup xs), I1.laid (t' := s1.toks) (fun b u e => get?_push_of_some _ e) (Nat.le_refl _) ?_, rfl, q _ hf⟩
 exact ⟨z, us, r, ⟨_, get?_push_size _ rfl, rfl, _, rfl⟩⟩
theorem pe_lst (h : PA X es t) : PE X (.List es pos) (tLst t) := by
 intro pins s σ H Q I hq
 refine wpAny_List_spliced (thn (h pos pins s σ H _ I hq) fun us s1 ⟨xs, H1, I1, r, z, q⟩ => ⟨by rw [<- r.length]; exact z, ?_⟩)
 have hf : H1 s1.heap.objs.size = none := I1.hok.fresh (Nat.le_refl _)
 refine ⟨.ref s1.heap.objs.size, upd H1 s1.heap.objs.size (.lst xs), I1.laid (t' := s1.toks) (fun b u e => get?_push_of_some _ e) (Nat.le_refl _) ?_, rfl, q _ hf⟩
 exact ⟨z, us, 0, r, get?_push_size _ rfl⟩
end
abbrev Sp := List V -> Hp -> VK -> XK -> Prop
abbrev CXT := List Env -> Hp -> Shared -> XK -> Value -> Shared -> Prop
structure Env0 (P : Program) (w : World) (K : Frag) (mg : Str -> Option Value) (base : Heap) (A : Around) (outer : List Env) (s : Shared) (H : Hp) : Prop where
 frames : A.frames = some outer
 mod : Mod K mg base
 bs : ∀ b o, base.get? b = some o -> s.heap.get? b = some o /\ H b = none
 bsz : base.objs.size <= s.heap.objs.size
 funs : s.heap.FunFrames base outer
 frf : ∀ b ∈ frs outer, H b = none
 hok : HOk P w H s.heap
 bare : AllBare s.gens
def CE (outer : List Env) (P : Program) (w : World) (H : Hp) (s : Shared) (Q : VK) (u : Value) (s' : Shared) : Prop :=
 ∃ v H', s'.os = s.os /\ AllBare s'.gens /\ Un (frs outer) [] H H' s.heap s'.heap /\ HOk P w H' s'.heap /\ RelV v u /\ Q v H'
def CR (CX : CXT) (outer : List Env) (P : Program) (w : World) (H : Hp) (s : Shared) (Q : VK) (E : XK) (r : Result) (s' : Shared) : Prop :=
 match r with
 | .ok (.ret u) => CE outer P w H s Q u s'
 | .ok _ => False
 | .error e => CX outer H s E e s'
structure FnOk (P : Program) (w : World) (K : Frag) (mg : Str -> Option Value) (base : Heap) (CX : CXT) (k : Nat) (f : Addr) (fd : FuncData) (ps : List Str) (sp : Sp) : Prop where
 len : ∀ vs H Q E, sp vs H Q E -> vs.length = ps.length
 run : ∀ (A : Around) (outer : List Env) (s : Shared) (H : Hp) (args : Args) (us : List Value) (vs : List V) (Q : VK) (E : XK), Room k A -> Env0 P w K mg base A outer s H -> BindsTo s fd args (ps.zip us) -> Vals vs us -> sp vs H Q E ->
  codeAny (model P w) A (.call (.ref f) args) (CR CX outer P w H s Q E) s
theorem FnOk.imp {P : Program} {w : World} {K : Frag} {mg : Str -> Option Value} {base : Heap} {CX : CXT} {k : Nat} {f : Addr} {fd : FuncData} {ps : List Str} {sp sp' : Sp} (F : FnOk P w K mg base CX k f fd ps sp)
 (h : ∀ vs H Q E, sp' vs H Q E -> sp vs H Q E) : FnOk P w K mg base CX k f fd ps sp' :=
 ⟨fun vs H Q E q => F.len vs H Q E (h _ _ _ _ q), fun A outer s H args us vs Q E hr he hb hv hs => F.run A outer s H args us vs Q E hr he hb hv (h _ _ _ _ hs)⟩
section
variable {X : Cx} {pins : List (Addr × Obj)} {σ : St} {H : Hp} {s s' : Shared}
theorem Inv.env0 (I : Inv X pins σ H s) : Env0 X.prog X.w X.K X.mg X.base X.A X.stack s H :=
 ⟨I.ok.frames, I.ok.mod, I.bs, Nat.le_trans I.ok.bsz I.sz, I.stack, I.stkFree, I.hok, I.bare⟩
theorem Inv.after {Q : VK} {u : Value} (I : Inv X pins σ H s) (h : CE X.stack X.prog X.w H s Q u s') : EP X pins σ Q u s' := by
 obtain ⟨v, H', os, bare, un, hok, r, q⟩ := h
 obtain ⟨hh, g, d, t, os'⟩ := s'
 obtain rfl : os' = s.os := os
 exact ⟨v, H', I.call (h' := hh) (g' := g) (d' := d) (t' := t) (ch := []) un hok bare (fun b z => absurd z (by simp)), r, q⟩
end
def tCall (sp : Sp) (dvs : List V) (E : XK) (t : TA) : TE := fun σ H Q => t σ H fun vs H1 => sp (vs ++ dvs) H1 Q E
def Binds (K : Frag) (fd : FuncData) (ps : List Str) (ds : List Value) : Prop :=
 ∀ (s : Shared) (us : List Value), K.In s.heap -> (us ++ ds).length = ps.length -> BindsTo s fd ⟨us, []⟩ (ps.zip (us ++ ds))
theorem Binds.all {K : Frag} {fd : FuncData} {ps : List Str} (h : ∀ us : List Value, us.length = ps.length -> bindArgs fd ⟨us, []⟩ = pure (ps.zip us)) : Binds K fd ps [] := fun s us _ hl => by
 rw [append_nil] at hl ⊢
 exact .of_eq (h us hl)
def Passes (CX : CXT) (X : Cx) (E : XK) : Prop := ∀ (pins : List (Addr × Obj)) (σ : St) (H : Hp) (s : Shared) (e : Value) (s' : Shared), Inv X pins σ H s -> CX X.stack H s E e s' -> X.xe e s'
section
variable {X : Cx} {CX : CXT} {k : Nat} {f C : Addr} {fd : FuncData} {ps : List Str} {sp : Sp} {dvs : List V} {ds : List Value} {E : XK} {x m : Str} {p pos apos : Pos} {e o : Expr} {es : List Expr} {ta : TE} {t : TA}
theorem run_fn {pins : List (Addr × Obj)} {σ : St} {H : Hp} {s : Shared} {Q : VK} {us : List Value} {vs : List V} (F : FnOk X.prog X.w X.K X.mg X.base CX k f fd ps sp) (hr : Room k X.A) (hb : Binds X.K fd ps ds) (hd : Vals dvs ds) (hx : Passes CX X E)
 (I : Inv X pins σ H s) (r : Vals vs us) (h : sp (vs ++ dvs) H Q E) : wpAny (model X.prog X.w) X.A (call (.ref f) us) (EP X pins σ Q) X.xe s := by
 have r2 : Vals (vs ++ dvs) (us ++ ds) := r.append hd
 have hl : (us ++ ds).length = ps.length := by rw [<- r2.length]; exact F.len _ _ _ _ h
 refine wpAny_call (codeAny_mono (F.run X.A X.stack s H ⟨us, []⟩ (us ++ ds) (vs ++ dvs) Q E hr I.env0 (hb s us I.kIn hl) r2 h) fun r s' hq => ?_)
 cases r with
 | error e => exact hx pins σ H s e s' I hq
 | ok fl =>
  cases fl with
  | ret u => exact I.after hq
  | next => exact False.elim hq
  | brk => exact False.elim hq
  | cont => exact False.elim hq
theorem pe_call (F : FnOk X.prog X.w X.K X.mg X.base CX k f fd ps sp) (hr : Room k X.A) (hg : Gl X x) (hm : X.mg x = some (.ref f)) (hk : keepIn X.K (.ref f) = true) (hb : Binds X.K fd ps ds) (hd : Vals dvs ds) (hx : Passes CX X E)
 (ha : PA X (e :: es) t) (hdb : (x == ("__debug__" : Str)) = false := by decide) (he : starEach (e :: es) X.env = (false, eval e X.env) :: starEach es X.env := by rfl) (hpl : (backTo pos (starEach es X.env)).any (·.1) = false := by rfl) :
 PE X (.Call (.Name x p) (e :: es) [] pos) (tCall sp dvs E t) := by
 intro pins s σ H Q I h
 refine wpAny_Call_Name_kw (ld_glob I hg hm ?_ hdb)
 refine PySem.W.callWith_K (h₀ := X.base) I.ok.mod.kin hk (thn (ha pos pins s σ H _ I h) fun us s1 ⟨vs, H1, I1, r, q⟩ => ⟨I1.kIn, ?_⟩) he hpl
 exact run_fn F hr hb hd hx I1 r q
structure Mk (K : Frag) (C f : Addr) : Prop where
 makes : PySem.W.makesIn K C = true
 init : PySem.W.findIn K (.ref C) "__init__" = some (some (.ref f))
 fn : PySem.W.isFn K (.ref f) = true
 kp : keepIn K (.ref C) = true
end
structure FnScope (N P : List Str) (sc : Scope) : Prop where
 kind : sc.kind = .function
 co : sc.isCoroutine = false
 gen : sc.isGenerator = false
 nd : N.Nodup
 pre : N.take P.length = P
 par : ∀ x ∈ P, sc.names.lookup x = some .local \/ sc.names.lookup x = some .cell
 nofree : ∀ y ∈ sc.names, y.2 ≠ .free
theorem bindL_out {kindOf : Str -> Option NameKind} {x : Str} : ∀ {binds : List (Str × Value)} {m : Str -> Option Value}, (∀ v, (x, v) ∉ binds) -> bindL kindOf binds m x = m x
 | [], _, _ => rfl
 | (n, v) :: r, m, h => by
  unfold bindL
  rw [bindL_out fun w hw => h w (mem_cons_of_mem _ hw)]
  split
  . have : x ≠ n := by rintro rfl; exact h v mem_cons_self
    simp [this]
  . rfl
theorem bindC_out {kindOf : Str -> Option NameKind} {x : Str} : ∀ {binds : List (Str × Value)} {m : Str -> Option Value}, (∀ v, (x, v) ∉ binds) -> bindC kindOf binds m x = m x
 | [], _, _ => rfl
 | (n, v) :: r, m, h => by
  unfold bindC
  rw [bindC_out fun w hw => h w (mem_cons_of_mem _ hw)]
  split
  . rfl
  . have : x ≠ n := by rintro rfl; exact h v mem_cons_self
    simp [this]
theorem bindL_get {kindOf : Str -> Option NameKind} {x : Str} {v : Value} : ∀ {P : List Str} {vs : List Value} {i : Nat} {m : Str -> Option Value}, P.Nodup -> P[i]? = some x -> vs[i]? = some v -> kindOf x = some .local ->
 bindL kindOf (P.zip vs) m x = some v
 | [], _, _, _, _, h, _, _ => by simp at h
 | _ :: _, [], _, _, _, _, h, _ => by simp at h
 | p :: P, w :: vs, 0, m, nd, h1, h2, hk => by
  simp at h1 h2; subst h1; subst h2
  show bindL kindOf ((p, w) :: P.zip vs) m p = _
  unfold bindL
  rw [bindL_out fun v hv => (nodup_cons.mp nd).1 (List.of_mem_zip hv).1, if_pos hk]
  simp
 | p :: P, w :: vs, i + 1, m, nd, h1, h2, hk => by
  show bindL kindOf ((p, w) :: P.zip vs) m x = _
  unfold bindL
  exact bindL_get (i := i) (nodup_cons.mp nd).2 (by simpa using h1) (by simpa using h2) hk
theorem bindC_get {kindOf : Str -> Option NameKind} {x : Str} {v : Value} : ∀ {P : List Str} {vs : List Value} {i : Nat} {m : Str -> Option Value}, P.Nodup -> P[i]? = some x -> vs[i]? = some v -> kindOf x ≠ some .local ->
 bindC kindOf (P.zip vs) m x = some v
 | [], _, _, _, _, h, _, _ => by simp at h
 | _ :: _, [], _, _, _, _, h, _ => by simp at h
 | p :: P, w :: vs, 0, m, nd, h1, h2, hk => by
  simp at h1 h2; subst h1; subst h2
  show bindC kindOf ((p, w) :: P.zip vs) m p = _
  unfold bindC
  rw [bindC_out fun v hv => (nodup_cons.mp nd).1 (List.of_mem_zip hv).1, if_neg hk]
  simp
 | p :: P, w :: vs, i + 1, m, nd, h1, h2, hk => by
  show bindC kindOf ((p, w) :: P.zip vs) m x = _
  unfold bindC
  exact bindC_get (i := i) (nodup_cons.mp nd).2 (by simpa using h1) (by simpa using h2) hk
def start (N : List Str) (vs : List V) : St := vs.map some ++ List.replicate (N.length - vs.length) none
def cxOf (CX : CXT) (P : Program) (w : World) (K : Frag) (mg : Str -> Option Value) (base : Heap) (N : List Str) (qual : Str) (scope : Scope) (f : Addr) (cd : Value) (A : Around) (outer : List Env) (s : Shared) (H : Hp) (E : XK) : Cx where
 prog := P
 w := w
 K := K
 mg := mg
 base := base
 A := A.deeper (envOfC qual scope s.heap.objs.size f cd)
 N := N
 s₀ := s
 H₀ := H
 env := envOfC qual scope s.heap.objs.size f cd
 outer := outer
 stack := envOfC qual scope s.heap.objs.size f cd :: outer
 ex := []
 calm := true
 fn := fun _ => true
 pn := []
 xe := fun e s' => wpAny (model P w) (A.deeper (envOfC qual scope s.heap.objs.size f cd)) (leaving (envOfC qual scope s.heap.objs.size f cd) e) (fun _ s'' => CX outer H s E e s'') (fun e' s'' => CX outer H s E e' s'') s'
theorem cell_has {sc : Scope} {n : Nat} {x : Str} (h : sc.names.lookup x = some .cell) : ∃ c, (cellsFrom n sc.names []).lookup x = some c := by
 have q := PySem.W.cellsFrom_some sc.names n [] (.inl h)
 exact Option.isSome_iff_exists.mp q
theorem inv_start {CX : CXT} {P : Program} {w : World} {K : Frag} {mg : Str -> Option Value} {base : Heap} {N ps : List Str} {qual : Str} {scope : Scope} {f : Addr} {cd : Value} {A : Around} {outer : List Env} {s s1 : Shared} {H : Hp} {E : XK} {us : List Value} {vs : List V}
 (S : FnScope N ps scope) (hd : A.handled = none) (e0 : Env0 P w K mg base A outer s H) (hl : vs.length = ps.length) (r : Vals vs us)
 (x : InCallC s s.heap.objs.size (bindL (envOfC qual scope s.heap.objs.size f cd).kindOf (ps.zip us) fun _ => none) (cellsFrom (s.heap.objs.size + 1) scope.names []) (bindC (envOfC qual scope s.heap.objs.size f cd).kindOf (ps.zip us) fun _ => none) s1) :
 Inv (cxOf CX P w K mg base N qual scope f cd A outer s H E) [] (start N vs) H s1 := by
 have hpl : ps.length <= N.length := by have := congrArg List.length S.pre; rw [length_take] at this; omega
 obtain ⟨h1, tk, rfl, hk⟩ := x.done
 have noA : ∀ b : Addr, b ∉ (cxOf CX P w K mg base N qual scope f cd A outer s H E).ex := fun b z => absurd (show b ∈ ([] : List Addr) from z) (by simp)
 refine ⟨⟨e0.mod, S.kind, rfl, rfl, Nat.le_refl _, fun y z c h1 h2 => ?_, fun y hy => ?_, fun y c _ h => ?_, fun _ => hd, Around.frames_deeper e0.frames, .inr ⟨rfl, rfl⟩, fun b z => absurd z (noA b), e0.bs, e0.bsz, fun b _ _ => noA b, fun b z => absurd z (noA b), e0.funs, e0.frf⟩,
  rfl, e0.bare, Un.kept hk, ⟨_, x.toInCall.ns, fun i y v h1 h2 h3 => ?_⟩, fun y c h => ⟨_, x.cell y c h⟩, e0.hok.fresh (Nat.le_refl _), fun y c h => ?_, fun p hp => absurd (show p ∈ ([] : List (Addr × Obj)) from hp) (by simp), e0.hok.kept hk, ?_⟩
 . exact name_of_addr x.apart (PySem.mem_of_lookup h1) (PySem.mem_of_lookup h2)
 . have hy : scope.names.lookup y = some .cell \/ scope.names.lookup y = some .free := hy
   rcases hy with hy | hy
   . exact cell_has hy
   . exact absurd rfl (S.nofree _ (PySem.mem_of_lookup hy))
 . exact Nat.le_of_lt (x.above y c (PySem.mem_of_lookup h))
 . have hi : i < vs.length := by
    unfold start at h2
    by_cases hi : i < vs.length
    . exact hi
    . rw [getElem?_append_right (by simpa using hi)] at h2
      rw [List.getElem?_replicate] at h2
      split at h2 <;> cases h2
   have ha : vs[i]? = some v := by
    unfold start at h2
    rw [getElem?_append_left (by simpa using hi), getElem?_map] at h2
    cases e : vs[i]? with
    | none => rw [e] at h2; cases h2
    | some a => rw [e] at h2; cases h2; rfl
   obtain ⟨u, hu, rv⟩ := r.get ha
   have hp : ps[i]? = some y := by
    rw [<- S.pre, List.getElem?_take_of_lt (by omega)]; exact h1
   have ndP : ps.Nodup := by rw [<- S.pre]; exact S.nd.sublist (List.take_sublist _ _)
   refine ⟨u, rv, ?_⟩
   rcases S.par y (mem_of_getElem? hp) with k | k
   . exact .inl ⟨k, bindL_get ndP hp hu k⟩
   . obtain ⟨c, e⟩ := cell_has (n := s.heap.objs.size + 1) k
     refine .inr ⟨.inl k, c, e, ?_⟩
     have q := x.cell y c e
     rw [bindC_get ndP hp hu (by show scope.names.lookup y ≠ _; rw [k]; decide)] at q
     exact q
 . exact e0.hok.fresh (Nat.le_of_lt (x.above y c (PySem.mem_of_lookup h)))
 . unfold start
   show _ = N.length
   rw [List.length_append, length_map, List.length_replicate]
   omega
theorem fn_of {CX : CXT} {P : Program} {w : World} {K : Frag} {mg : Str -> Option Value} {base : Heap} {k : Nat} {f : Addr} {name qual : Str} {params : Arguments} {body : List Stmt} {scope : Scope} {dV kV doc pm cdv ct oc : Value} {an od : Option Addr}
 {osl : Array (Option Value)} {N ps : List Str} {sp : Sp} (lk : K.lookup f = some ⟨oc, od, .func (PySem.W.fnOf name qual params body scope dV kV doc pm an cdv ct), osl⟩) (hcd : PySem.W.codeIn K cdv qual = true) (S : FnScope N ps scope)
 (len : ∀ vs H Q E, sp vs H Q E -> vs.length = ps.length)
 (hbody : ∀ (A : Around) (outer : List Env) (s : Shared) (H : Hp) (vs : List V) (Q : VK) (E : XK), Room k (A.deeper (envOfC qual scope s.heap.objs.size f cdv)) -> sp vs H Q E ->
  ∃ t, PSs (cxOf CX P w K mg base N qual scope f cdv A outer s H E) body t /\ t { nx := fun _ H' => Q .non H', rt := Q } (start N vs) H) :
 FnOk P w K mg base CX (k + 1) f (PySem.W.fnOf name qual params body scope dV kV doc pm an cdv ct) ps sp := by
 refine ⟨len, fun A outer s H args us vs Q E hr e0 hb r hsp => ?_⟩
 have hl := len _ _ _ _ hsp
 have KX : K.In s.heap := e0.mod.kin.keeps fun b o e => (e0.bs b o e).1
 have lim : s.heap.NoLimit := e0.mod.nolimit.keeps fun b o e => (e0.bs b o e).1
 have hkind : ∀ y ∈ ps.zip us, scope.names.lookup y.1 = some .local \/ (scope.names.lookup y.1 = some .cell /\ ((cellsFrom (s.heap.objs.size + 1) scope.names []).lookup y.1).isSome = true) := fun ⟨n, v⟩ hy => by
  rcases S.par n (List.of_mem_zip hy).1 with q | q
  . exact .inl q
  . exact .inr ⟨q, PySem.W.cellsFrom_some _ _ _ (.inl q)⟩
 refine codeAny_call_function hr.depth (KX _ _ lk) rfl S.co S.gen rfl (PySem.W.codeRec_of KX hcd) (hb _ _ _ _ ?_)
 refine wpAny_newFunctionEnv_cells S.kind hkind fun env he s1 x => ?_
 subst he
 refine ⟨lim.keeps x.toInCall.keep, codeAny_func ?_⟩
 obtain ⟨t, ht, hq⟩ := hbody A outer s H vs Q E (hr.deeper _) hsp
 have I : Inv (cxOf CX P w K mg base N qual scope f cdv A outer s H E) [] (start N vs) H s1 := inv_start S hr.hd e0 hl r x
 refine wpAny_mono (ht [] s1 (start N vs) H _ I hq) (fun fl s' hs => ?_) fun e s' hs => hs
 have fin : ∀ {σ' : St} {H' : Hp} {v : V} {u : Value}, Inv (cxOf CX P w K mg base N qual scope f cdv A outer s H E) [] σ' H' s' -> RelV v u -> Q v H' -> CE outer P w H s Q u s' :=
  fun {σ' H' v u} J rv q => ⟨v, H', J.os, J.bare, J.base, J.hok, rv, q⟩
 cases fl with
 | ret u =>
  obtain ⟨v, σ', H', J, rv, q⟩ := hs
  exact fin J rv q
 | next =>
  obtain ⟨σ', H', J, q⟩ := hs
  exact fin (v := V.non) (u := Value.none) J rfl q
 | brk =>
  obtain ⟨_, _, _, q⟩ := hs
  exact False.elim q
 | cont =>
  obtain ⟨_, _, _, q⟩ := hs
  exact False.elim q
section
variable {X : Cx} {x : Str} {p pos : Pos} {e : Expr} {es : List Expr} {t : TA} {id T : String} {r : List V -> Hp -> VK -> Prop}
def tCB (r : List V -> Hp -> VK -> Prop) (t : TA) : TE := fun σ H Q => t σ H fun vs H1 => r vs H1 Q
theorem pe_callB (hc : CallR X (.builtin id) r) (hg : Gl X x) (hm : X.mg x = none) (hv : bootBuiltins x = some (.builtin id)) (ha : PA X (e :: es) t) (hn : x ≠ "__name__" := by decide) (hdb : (x == ("__debug__" : Str)) = false := by decide)
 (he : starEach (e :: es) X.env = (false, eval e X.env) :: starEach es X.env := by rfl) (hpl : (backTo pos (starEach es X.env)).any (·.1) = false := by rfl) : PE X (.Call (.Name x p) (e :: es) [] pos) (tCB r t) := by
 intro pins s σ H Q I h
 refine wpAny_Call_Name_kw (ld_blt I hg hm hv ?_ hn hdb)
 exact PyProof.Rows.callWith_builtin1 (thn (ha pos pins s σ H _ I h) fun us s1 ⟨vs, H1, I1, r1, q1⟩ => hc pins s1 σ H1 vs us Q I1 r1 q1) he hpl
theorem pe_callTy (hc : CallR X (.type T) r) (hg : Gl X x) (hm : X.mg x = none) (hv : bootBuiltins x = some (.type T)) (ha : PA X (e :: es) t) (hn : x ≠ "__name__" := by decide) (hdb : (x == ("__debug__" : Str)) = false := by decide)
 (he : starEach (e :: es) X.env = (false, eval e X.env) :: starEach es X.env := by rfl) (hpl : (backTo pos (starEach es X.env)).any (·.1) = false := by rfl) : PE X (.Call (.Name x p) (e :: es) [] pos) (tCB r t) := by
 intro pins s σ H Q I h
 refine wpAny_Call_Name_kw (ld_blt I hg hm hv ?_ hn hdb)
 exact PyProof.Rows.callWith_type1 (thn (ha pos pins s σ H _ I h) fun us s1 ⟨vs, H1, I1, r1, q1⟩ => hc pins s1 σ H1 vs us Q I1 r1 q1) he hpl
end
end L2
namespace HT
open PySem PyProof.Rows
section
variable {prog : Program} {w : World} {A : Around} {E : Value -> Shared -> Prop} {s : Shared}
def sIx (n d : Nat) : Option Int -> Nat
 | none => d
 | some v => if v < 0 then (v + (n : Int)).toNat else min v.toNat n
theorem sIx_none (n d : Nat) : sIx n d none = d := rfl
theorem sIx_nat (n d k : Nat) : sIx n d (some (k : Int)) = min k n := by
 show (if (k : Int) < 0 then ((k : Int) + (n : Int)).toNat else min (k : Int).toNat n) = min k n
 rw [if_neg (by omega), Int.toNat_natCast]
end
end HT
namespace L2
open PySem PySem.Spec PyProof.Rows
abbrev TO := St -> Hp -> (Option Int -> Hp -> Prop) -> Prop
def PO (X : Cx) (e : Option Expr) (t : TO) : Prop :=
 ∀ (pins : List (Addr × Obj)) (s : Shared) (σ : St) (H : Hp) (Q : Option Int -> Hp -> Prop), Inv X pins σ H s -> t σ H Q ->
  wpAny (model X.prog X.w) X.A (evalPart e X.env) (fun u s' => ∃ o H', Inv X pins σ H' s' /\ IsPart u o /\ Q o H') X.xe s
def tNoPart : TO := fun _ H Q => Q none H
def tPart (t : TE) : TO := fun σ H Q => t σ H fun x H1 => ∃ i, x = .int i /\ Q (some i) H1
section
variable {X : Cx} {e : Expr} {te : TE} {lo hi : Option Expr} {tl th : TO} {pos p2 : Pos}
theorem po_none : PO X none tNoPart := by
 intro pins s σ H Q I h
 rw [evalPart_none]
 exact wpAny_pure ⟨none, H, I, .none, h⟩
theorem po_some (h : PE X e te) : PO X (some e) (tPart te) := by
 intro pins s σ H Q I hw
 rw [evalPart_some]
 refine thn (h pins s σ H _ I hw) fun u s1 ⟨x, H1, I1, r1, q1⟩ => ?_
 obtain ⟨i, rfl, q⟩ := q1
 obtain ⟨t, rfl⟩ := r1
 exact ⟨some i, H1, I1, .int i t, q⟩
def SlR (X : Cx) (r : V -> Option Int -> Option Int -> Hp -> VK -> Prop) : Prop :=
 ∀ (pins : List (Addr × Obj)) (s : Shared) (σ : St) (H : Hp) (x : V) (v vl vu : Value) (lo hi : Option Int) (sl : Addr) (Q : VK), Inv X pins σ H s -> RelV x v -> s.heap.IsSliceOf sl vl vu .none -> IsPart vl lo -> IsPart vu hi -> r x lo hi H Q ->
  ∃ T id, typeLookup (.type T) "__getitem__" = pure (some (.builtin id)) /\ s.TypeIs v T /\ wpAny (model X.prog X.w) X.A (getItem v (.ref sl)) (EP X pins σ Q) X.xe s
def tSl (r : V -> Option Int -> Option Int -> Hp -> VK -> Prop) (te : TE) (tl th : TO) : TE := fun σ H Q => te σ H fun x H1 => tl σ H1 fun l H2 => th σ H2 fun u H3 => r x l u H3 Q
theorem pe_slice {r : V -> Option Int -> Option Int -> Hp -> VK -> Prop} (hr : SlR X r) (he : PE X e te) (hl : PO X lo tl) (hu : PO X hi th) : PE X (.Subscript e (.Slice lo hi none p2) pos) (tSl r te tl th) := by
 intro pins s σ H Q I h
 refine Subscript_ (thn (he pins s σ H _ I h) fun v s1 ⟨x, H1, I1, r1, q1⟩ => ?_)
 refine wpAny_Slice (thn (hl pins s1 σ H1 _ I1 q1) fun vl s2 ⟨l, H2, I2, pl, q2⟩ => thn (hu pins s2 σ H2 _ I2 q2) fun vu s3 ⟨u, H3, I3, pu, q3⟩ => ?_)
 rw [evalPart_none]
 refine wpAny_pure ?_
 have I4 : Inv X pins σ H3 { s3 with heap := s3.heap.push { cls := .type "slice", data := .fields #[vl, vu, .none] } } := I3.kept (t' := s3.toks) fun b ob q => get?_push_of_some _ q
 obtain ⟨T, id, hT, ht, hg⟩ := hr pins { s3 with heap := s3.heap.push { cls := .type "slice", data := .fields #[vl, vu, .none] } } σ H3 x v vl vu l u s3.heap.objs.size Q I4 r1 (Heap.IsSliceOf.new ..) pl pu q3
 show wpAny (model X.prog X.w) X.A (subscriptTail e (.Slice lo hi none p2) v (.ref s3.heap.objs.size)) (EP X pins σ Q) X.xe { s3 with heap := s3.heap.push { cls := .type "slice", data := .fields #[vl, vu, .none] } }
 exact tail_any (ops := [.ref s3.heap.objs.size, v]) ht hT hg (by with_unfolding_all rfl)
def cutV (xs : List V) (lo hi : Option Int) : List V := (xs.drop (HT.sIx xs.length 0 lo)).take (HT.sIx xs.length xs.length hi - HT.sIx xs.length 0 lo)
theorem cutV_length (xs : List V) (lo hi : Option Int) : (cutV xs lo hi).length <= xs.length := by
 unfold cutV
 rw [length_take, length_drop]
 omega
end
def ixN (n : Nat) (i : Int) : Option Nat := if 0 <= i then (if i < n then some i.toNat else none) else if -(n : Int) <= i then some (i + n).toNat else none
def atI {α : Type} (xs : List α) (i : Int) : Option α := (ixN xs.length i).bind fun j => xs[j]?
theorem ixN_seq {n : Nat} {i : Int} {j : Nat} (h : ixN n i = some j) : seqIndex? i n = some j /\ j < n /\ -(n : Int) <= i /\ i < n := by
 unfold ixN at h
 by_cases h0 : 0 <= i
 . rw [if_pos h0] at h
   by_cases h1 : i < n
   . rw [if_pos h1] at h
     have e : i.toNat = j := Option.some.inj h
     exact ⟨by rw [seqIndex_of h0 h1, e], by omega, by omega, h1⟩
   . rw [if_neg h1] at h; cases h
 . rw [if_neg h0] at h
   by_cases h1 : -(n : Int) <= i
   . rw [if_pos h1] at h
     have e : (i + n).toNat = j := Option.some.inj h
     exact ⟨by rw [seqIndex_neg (by omega) h1, e], by omega, h1, by omega⟩
   . rw [if_neg h1] at h; cases h
theorem atI_get {α : Type} {xs : List α} {i : Int} {v : α} (h : atI xs i = some v) : ∃ j, seqIndex? i xs.length = some j /\ xs[j]? = some v /\ j < xs.length /\ -(xs.length : Int) <= i /\ i < xs.length := by
 unfold atI at h
 cases e : ixN xs.length i with
 | none => rw [e] at h; cases h
 | some j =>
  rw [e] at h
  obtain ⟨h1, h2, h3, h4⟩ := ixN_seq e
  exact ⟨j, h1, h, h2, h3, h4⟩
theorem atI_nat {α : Type} {xs : List α} {j : Nat} {v : α} (h : xs[j]? = some v) : atI xs (j : Int) = some v := by
 have hj : j < xs.length := (List.getElem?_eq_some_iff.mp h).1
 have e : ixN xs.length (j : Int) = some j := by
  unfold ixN
  rw [if_pos (by omega), if_pos (by omega)]; simp
 unfold atI; rw [e]; exact h
theorem atI_last {α : Type} (xs : List α) (v : α) : atI (xs ++ [v]) (-1) = some v := by
 have hl : (xs ++ [v]).length = xs.length + 1 := by simp
 have e : ixN (xs ++ [v]).length (-1) = some xs.length := by
  unfold ixN
  rw [hl, if_neg (by decide), if_pos (by omega)]
  congr 1
  omega
 unfold atI
 rw [e]
 show (xs ++ [v])[xs.length]? = some v
 simp
def PlainIx (b : Expr) : Prop := ∀ o i, subscripted b false o i = operate [o, i] (getItem o i)
def IxR (X : Cx) (r : R2) : Prop :=
 ∀ (value slice : Expr) (pins : List (Addr × Obj)) (s : Shared) (σ : St) (H : Hp) (x y : V) (v u : Value) (Q : VK), Inv X pins σ H s -> RelV x v -> RelV y u -> r x y H Q ->
  subscripted slice false v u = operate [v, u] (getItem v u) -> wpAny (model X.prog X.w) X.A (subscriptTail value slice v u) (EP X pins σ Q) X.xe s
def MtR (X : Cx) (id : String) (r : V -> List V -> Hp -> VK -> Prop) : Prop :=
 ∀ (pins : List (Addr × Obj)) (s : Shared) (σ : St) (H : Hp) (x : V) (xs : List V) (v : Value) (us : List Value) (Q : VK), Inv X pins σ H s -> RelV x v -> Vals xs us -> r x xs H Q ->
  wpAny (model X.prog X.w) X.A (call (.builtin id) (v :: us)) (EP X pins σ Q) X.xe s
section
variable {X : Cx} {a b : Expr} {ta tb : TE} {pos : Pos}
theorem pe_ix {r : R2} (hr : IxR X r) (ha : PE X a ta) (hb : PE X b tb) (hs : PlainIx b) : PE X (.Subscript a b pos) (tOp r ta tb) := by
 intro pins s σ H Q I h
 exact Subscript_ (binT ha hb I h fun v u s2 x y H2 I2 rx ry q => hr a b pins s2 σ H2 x y v u Q I2 rx ry q (hs _ _))
def rIxL (K : Frag) : R2 := fun x y H Q => ∃ p xs i v, x = .ref p /\ y = .int i /\ SqL K H p xs /\ atI xs i = some v /\ Q v H
def rIxT (K : Frag) : R2 := fun x y H Q => ∃ p xs i v, x = .ref p /\ y = .int i /\ SqT K H p xs /\ atI xs i = some v /\ Q v H
def rIxS : R2 := fun x y H Q => ∃ z i c, x = .str z /\ y = .int i /\ z.length <= sizeLine /\ atI z.cps.toList i = some c /\ Q (.str ⟨#[c]⟩) H
theorem ix_list : IxR X (rIxL X.K) := by
 intro value slice pins s σ H x y v u Q I rx ry h hs
 obtain ⟨p, xs, i, z, rfl, rfl, hq, he, q⟩ := h
 cases rx
 obtain ⟨t, rfl⟩ := ry
 obtain ⟨its, r, pl, hz⟩ := I.list hq
 obtain ⟨j, h1, h2, h3, h4, h5⟩ := atI_get he
 obtain ⟨w, ew, rw'⟩ := r.get h2
 have hl := r.length
 have hn := line63
 have fin : EP X pins σ Q w s := ⟨z, H, I, rw', q⟩
 by_cases h0 : 0 <= i
 . have hj : i.toNat = j := by
    rw [seqIndex_of h0 h5] at h1
    exact Option.some.inj h1
   exact item_listR pl.isList h0 (by omega) (by rw [hj]; simpa using ew) fin hs
 . have hj : (i + (its.toArray.size : Int)).toNat = j := by
    rw [seqIndex_neg (by omega) h4] at h1
    rw [size_toArray, <- hl]
    exact Option.some.inj h1
   exact subscriptTail_builtinR (x := w) pl.isList.typeIs slot_list_getitem.lookup
    (wpAny_getItem_list_neg (Q := fun r s' => r = w /\ EP X pins σ Q r s') pl.isList (by omega) (by rw [size_toArray] <;> omega) (by omega) (by rw [hj]; simpa using ew) ⟨rfl, fin⟩) hs
theorem ix_tup : IxR X (rIxT X.K) := by
 intro value slice pins s σ H x y v u Q I rx ry h hs
 obtain ⟨p, xs, i, z, rfl, rfl, hq, he, q⟩ := h
 cases rx
 obtain ⟨t, rfl⟩ := ry
 obtain ⟨its, r, pl, hz⟩ := I.tuple hq
 obtain ⟨j, h1, h2, h3, h4, h5⟩ := atI_get he
 obtain ⟨w, ew, rw'⟩ := r.get h2
 have hl := r.length
 have hn := line63
 have fin : EP X pins σ Q w s := ⟨z, H, I, rw', q⟩
 exact subscriptTail_builtinR (x := w) pl.typeIs slot_tuple_getitem.lookup
  (getItem_tuple (j := j) (Q := fun r s' => r = w /\ EP X pins σ Q r s') pl (by omega) (by omega) (by rw [size_toArray, <- hl]; exact h1) (by simpa using ew) ⟨rfl, fin⟩) hs
theorem ix_str : IxR X rIxS := by
 intro value slice pins s σ H x y v u Q I rx ry h hs
 obtain ⟨z, i, c, rfl, rfl, hz, he, q⟩ := h
 obtain ⟨t, rfl⟩ := rx
 obtain ⟨t', rfl⟩ := ry
 obtain ⟨j, h1, h2, h3, h4, h5⟩ := atI_get he
 have hl : z.cps.toList.length = z.length := by simp [Str.length]
 rw [hl] at h1 h4 h5
 have hn := line63
 exact tail_any (typeIs_str s z t) slot_str_getitem.lookup (getItem_str (c := c) (by
  have e1 : decide (i < -(2 ^ 63 : Int)) = false := decide_eq_false (by omega)
  have e2 : decide (i ≥ 2 ^ 63) = false := decide_eq_false (by omega)
  rw [e1, e2, Bool.or_false]) (by rw [h1]; simpa using h2) ⟨.str ⟨#[c]⟩, H, I.tok _, ⟨_, rfl⟩, q⟩) hs
theorem slice_bounds (lo hi : Option Int) (n : Nat) : (sliceBounds lo hi none n).1 = ((HT.sIx n 0 lo : Nat) : Int) /\ (sliceBounds lo hi none n).2.1 = ((HT.sIx n n hi : Nat) : Int) /\ (sliceBounds lo hi none n).2.2 = 1 := by
 refine ⟨?_, ?_, rfl⟩
 . cases lo with
   | none => simp [sliceBounds, HT.sIx]
   | some i =>
    simp only [sliceBounds, HT.sIx, Option.getD_none, show (1 : Int) > 0 by decide, if_true]
    by_cases h : i < 0
    . simp only [h, if_true] <;> omega
    . simp only [h, if_false] <;> omega
 . cases hi with
   | none => simp [sliceBounds, HT.sIx]
   | some i =>
    simp only [sliceBounds, HT.sIx, Option.getD_none, show (1 : Int) > 0 by decide, if_true]
    by_cases h : i < 0
    . simp only [h, if_true] <;> omega
    . simp only [h, if_false] <;> omega
theorem slicePick_cut (its : List Value) (lo hi : Option Int) : slicePick its.toArray lo hi none = ((its.drop (HT.sIx its.length 0 lo)).take (HT.sIx its.length its.length hi - HT.sIx its.length 0 lo)).toArray := by
 obtain ⟨h1, h2, h3⟩ := slice_bounds lo hi its.toArray.size
 unfold slicePick
 rw [h1, h2, h3]
 simp only [sliceRange_one, pick_run, size_toArray] <;> rfl
def rSlL (K : Frag) : V -> Option Int -> Option Int -> Hp -> VK -> Prop := fun x lo hi H Q => ∃ a xs, x = .ref a /\ SqL K H a xs /\ ∀ p, H p = none -> Q (.ref p) (upd H p (.lst (cutV xs lo hi)))
theorem sl_list : SlR X (rSlL X.K) := by
 intro pins s σ H x v vl vu lo hi sl Q I rx hs pl pu h
 obtain ⟨a, xs, rfl, hx, q⟩ := h
 cases rx
 obtain ⟨its, r, ht, hz⟩ := I.list hx
 have hlen := r.length
 refine ⟨"list", _, slot_list_getitem.lookup, ht.isList.typeIs, ?_⟩
 refine wpAny_getItem_list_slice ht.isList hs pl pu .none (by simp) ?_ (by rw [size_toArray] <;> omega)
 rw [slicePick_cut, <- hlen]
 refine ⟨.ref s.heap.objs.size, _, I.laid (t' := s.toks) (o := .lst (cutV xs lo hi)) (fun b ob q => get?_push_of_some _ q) (Nat.le_refl _) ?_, rfl, q _ (I.hok.fresh (Nat.le_refl _))⟩
 exact ⟨Nat.le_trans (cutV_length xs lo hi) hz, _, 0, (r.drop (HT.sIx xs.length 0 lo)).take (HT.sIx xs.length xs.length hi - HT.sIx xs.length 0 lo), get?_push_size _ rfl⟩
def flatV : V -> Bool
 | .non => true
 | .bl _ => true
 | .int _ => true
 | .str _ => true
 | _ => false
theorem call_len_seq : CallR X (.builtin "len") (fun xs H Q => ∃ p ys, xs = [.ref p] /\ (SqL X.K H p ys \/ SqT X.K H p ys) /\ Q (.int ys.length) H) := by
 intro pins s σ H xs us Q I r h
 obtain ⟨p, ys, rfl, hq, q⟩ := h
 obtain ⟨u, rfl, rx⟩ := vals1 r
 cases rx
 have hn := line63
 rcases hq with hq | hq
 . obtain ⟨its, r', pl, hz⟩ := I.list hq
   have hlen := r'.length
   exact Calls.call_len_list pl.isList (by simp only [size_toArray] <;> omega) ⟨.int ys.length, H, I.tok _, ⟨s.toks + 1, by rw [size_toArray, hlen]⟩, q⟩
 . obtain ⟨its, r', pl, hz⟩ := I.tuple hq
   have hlen := r'.length
   exact len_tuple pl (by simp only [size_toArray] <;> omega) ⟨.int ys.length, H, I.tok _, ⟨s.toks + 1, by rw [size_toArray, hlen]⟩, q⟩
theorem call_list_of : CallR X (.type "list") (fun xs H Q => ∃ p ys, xs = [.ref p] /\ (SqL X.K H p ys \/ SqT X.K H p ys) /\ ∀ l, H l = none -> Q (.ref l) (upd H l (.lst ys))) := by
 intro pins s σ H xs us Q I r h
 obtain ⟨p, ys, rfl, hq, q⟩ := h
 obtain ⟨u, rfl, rx⟩ := vals1 r
 cases rx
 have fin : ∀ (its : List Value), Vals ys its -> ys.length <= sizeLine -> ∀ (h' : Heap) (c' : Nat), (∀ b o', s.heap.get? b = some o' -> h'.get? b = some o') ->
  h'.get? s.heap.objs.size = some { cls := .type "list", dict := none, data := .seq its.toArray c', slots := #[] } -> EP X pins σ Q (.ref s.heap.objs.size) { s with heap := h' } := fun its r' hz h' c' kp e =>
  ⟨.ref s.heap.objs.size, _, I.laid (t' := s.toks) kp (Nat.le_refl _) (show ObjOk X.prog X.w _ h' _ (.lst ys) from ⟨hz, its, c', r', e⟩), rfl, q _ (I.hok.fresh (Nat.le_refl _))⟩
 rcases hq with hq | hq
 . obtain ⟨its, r', pl, hz⟩ := I.list hq
   have hlen := r'.length
   obtain ⟨o, ho, hc, n, hd⟩ := pl.isList
   exact call_list_seq p (.inl rfl) ho hc hd (fun h' c' kp e => fin its r' hz h' c' kp e) (by simp only [size_toArray] <;> omega)
 . obtain ⟨its, r', pl, hz⟩ := I.tuple hq
   have hlen := r'.length
   obtain ⟨o, ho, hc, n, hd⟩ := pl
   exact call_list_seq p (.inr rfl) ho hc hd (fun h' c' kp e => fin its r' hz h' c' kp e) (by simp only [size_toArray] <;> omega)
theorem call_tuple_of : CallR X (.type "tuple") (fun xs H Q => ∃ p ys, xs = [.ref p] /\ ((SqL X.K H p ys /\ ∀ l, H l = none -> Q (.ref l) (upd H l (.tup ys))) \/ (SqT X.K H p ys /\ Q (.ref p) H))) := by
 intro pins s σ H xs us Q I r h
 obtain ⟨p, ys, rfl, h⟩ := h
 obtain ⟨u, rfl, rx⟩ := vals1 r
 cases rx
 rcases h with ⟨hq, q⟩ | ⟨hq, q⟩
 . obtain ⟨its, r', pl, hz⟩ := I.list hq
   have hlen := r'.length
   refine call_tuple_list pl.isList (fun h' kp => ?_) (by simp only [size_toArray] <;> omega)
   have I1 : Inv X pins σ H { s with heap := h' } := I.kept (t' := s.toks) kp
   have I2 : Inv X pins σ (upd H h'.objs.size (.tup ys)) { s with heap := h'.push { cls := .type "tuple", data := .seq its.toArray } } :=
    I1.laid (t' := s.toks) (fun b o e => get?_push_of_some _ e) (Nat.le_refl _) (show ObjOk X.prog X.w _ _ _ (.tup ys) from ⟨hz, its, r', IsTup.new _ _⟩)
   exact ⟨.ref h'.objs.size, _, I2, rfl, q _ (I1.hok.fresh (Nat.le_refl _))⟩
 . obtain ⟨its, r', pl, hz⟩ := I.tuple hq
   exact call_tuple_same pl ⟨.ref p, H, I, rfl, q⟩
def tyV (K : Frag) (T : String) (x : V) (H : Hp) : Prop := match x with
 | .str _ => T = "str"
 | .int _ => T = "int"
 | .ref p => (T = "list" /\ ∃ xs, SqL K H p xs) \/ (T = "tuple" /\ ∃ o, K.lookup p = some o /\ o.cls = .type "tuple" /\ o.dict = none) \/
  (T = "dict" /\ ((∃ kvs, H p = some (.dK kvs)) \/ ∃ kvs, H p = some (.dT kvs))) \/ (T = "set" /\ ∃ S n, H p = some (.set S n))
 | _ => False
theorem tyV_is {pins : List (Addr × Obj)} {σ : St} {H : Hp} {s : Shared} {T : String} {x : V} {v : Value} (I : Inv X pins σ H s) (r : RelV x v) (ty : tyV X.K T x H) :
 s.TypeIs v T /\ ∀ a, v = .ref a -> ∃ ob, s.heap.get? a = some ob /\ ob.dict = none := by
 cases x with
 | str z =>
  obtain ⟨t, rfl⟩ := r
  cases (show T = "str" from ty)
  exact ⟨typeIs_str s z t, fun _ e => nomatch e⟩
 | int i =>
  obtain ⟨t, rfl⟩ := r
  cases (show T = "int" from ty)
  exact ⟨typeIs_int s i t, fun _ e => nomatch e⟩
 | ref p =>
  cases r
  rcases ty with ⟨rfl, xs, hq⟩ | ⟨rfl, o, hk, hc, hd⟩ | ⟨rfl, hk⟩ | ⟨rfl, S, n, hk⟩
  . obtain ⟨its, _, pl, _⟩ := I.list hq
    refine ⟨pl.isList.typeIs, fun a e => ?_⟩
    cases e
    obtain ⟨o, n, e, c, hd, _⟩ := pl
    exact ⟨o, e, hd⟩
  . refine ⟨⟨o, I.kIn p o hk, hc⟩, fun a e => ?_⟩
    cases e
    exact ⟨o, I.kIn _ o hk, hd⟩
  . have z : ∃ o, s.heap.get? p = some o /\ o.ExactDict := by
     rcases hk with ⟨kvs, hk⟩ | ⟨kvs, hk⟩
     . obtain ⟨_, _, _, _, o, _, _, e, ex, _⟩ := I.hok p _ hk
       exact ⟨o, e, ex⟩
     . obtain ⟨_, _, _, _, o, _, _, e, ex, _⟩ := I.hok p _ hk
       exact ⟨o, e, ex⟩
    obtain ⟨o, e, ex⟩ := z
    refine ⟨⟨o, e, ex.1⟩, fun a e2 => ?_⟩
    cases e2
    exact ⟨o, e, ex.2.1⟩
  . obtain ⟨o, _, _, _, e, ex, _⟩ := I.hok p _ hk
    refine ⟨⟨o, e, ex.1⟩, fun a e2 => ?_⟩
    cases e2
    exact ⟨o, e, ex.2.1⟩
 | _ => exact False.elim ty
def tBM (K : Frag) (T : String) (r : V -> List V -> Hp -> VK -> Prop) (to : TE) (t : TA) : TE := fun σ H Q => to σ H fun x H1 => tyV K T x H1 /\ t σ H1 fun xs H2 => r x xs H2 Q
variable {o e : Expr} {es : List Expr} {to : TE} {t : TA} {name : Str} {apos cpos : Pos} {T id : String} {r : V -> List V -> Hp -> VK -> Prop}
theorem pe_bm (pa : PlainAttrs T) (slot : Slot T name id) (hty : typeOf (.builtin id) = pure (.type "method_descriptor")) (hm : MtR X id r) (ho : PE X o to) (ha : PA X (e :: es) t)
 (hbase : attributeBase o name X.env (eval o X.env) = eval o X.env := by rfl)
 (hfew : ((backTo cpos (starEach (e :: es) X.env)).all (fun x => !x.1) && (backToKw cpos (keywordEach [] X.env)).all (fun x => x.1.isSome)
  && decide ((e :: es).length + ([] : List Keyword).length + (if ([] : List Keyword).isEmpty then 0 else 1) < 30)) = true := by rfl)
 (hline : (apos.endLine == cpos.line) = true := by rfl) (hs : starEach (e :: es) X.env = (false, eval e X.env) :: starEach es X.env := by rfl) (hplain : (backTo cpos (starEach es X.env)).any (·.1) = false := by rfl) :
 PE X (.Call (.Attribute o name apos) (e :: es) [] cpos) (tBM X.K T r to t) := by
 intro pins s σ H Q I h
 refine wpAny_Call_method_late hbase hfew hline rfl (thn (ho pins s σ H _ I h) fun v s1 ⟨x, H1, I1, r1, ty, q1⟩ => ?_)
 obtain ⟨h1, h2⟩ := tyV_is I1 r1 ty
 refine ⟨T, id, pa, slot, hty, h1, h2, ?_⟩
 have hA := ha cpos pins s1 σ H1 _ I1 q1
 rw [hs] at hA ⊢
 refine Calls.callWith_builtin (by show (false || (backTo cpos (starEach es X.env)).any (·.1)) = false; rw [hplain] <;> rfl) (Calls.evalArgs_plain ?_)
 exact thn hA fun us s2 ⟨vs, H2, I2, r2, q2⟩ => hm pins s2 σ H2 x vs v us Q I2 r1 r2 q2
end
def MtM (X : Cx) (id : String) (r : V -> List V -> Hp -> VK -> Prop) : Prop :=
 ∀ (pins : List (Addr × Obj)) (s : Shared) (σ : St) (H : Hp) (x : V) (xs : List V) (v : Value) (us : List Value) (Q : VK), Inv X pins σ H s -> RelV x v -> Vals xs us -> r x xs H Q ->
  wpAny (model X.prog X.w) X.A (call (.builtin id) (v :: us)) (EP X pins σ Q) X.xe s
theorem Vals.one : ∀ {x : V} {us : List Value}, Vals [x] us -> ∃ u, us = [u] /\ RelV x u
 | _, _, .cons r .nil => ⟨_, rfl, r⟩
section
variable {X : Cx} {pins : List (Addr × Obj)} {σ : St} {H : Hp} {s : Shared} {l b : Addr} {xs ys zs : List V}
theorem Inv.lset {its its' : List Value} {n : Nat} {f : Array Value -> Array Value} {t' : Nat} (I : Inv X pins σ H s) (hH : H l = some (.lst xs))
 (e : s.heap.get? l = some { cls := .type "list", data := .seq its.toArray n }) (hf : f its.toArray = its'.toArray) (hv : Vals ys its') (hz : ys.length <= sizeLine) :
 Inv X pins σ (upd H l (.lst ys)) { s with heap := s.heap.update l (Obj.mapSeq f), toks := t' } := by
 have q := PySem.IsL.update e f
 rw [hf] at q
 refine I.write (x := l) (e := l) (by rw [hH]; exact trivial) (.inl rfl) (fun b' u hb hu => (Heap.get?_update_other s.heap (Obj.mapSeq f) (Ne.symm hb)).trans hu) ⟨_, q⟩ ?_
 exact ⟨hz, its', _, hv, q⟩
theorem Inv.lnew {its : List Value} {t' : Nat} (I : Inv X pins σ H s) (hv : Vals ys its) (hz : ys.length <= sizeLine) :
 Inv X pins σ (upd H s.heap.objs.size (.lst ys)) { s with heap := s.heap.push { cls := .type "list", data := .seq its.toArray }, toks := t' } :=
 I.laid (fun _ _ q => get?_push_of_some _ q) (Nat.le_refl _) ⟨hz, its, 0, hv, get?_push_size _ rfl⟩
theorem Inv.fresh (I : Inv X pins σ H s) : H s.heap.objs.size = none := I.hok.fresh (Nat.le_refl _)
theorem Inv.lstM (I : Inv X pins σ H s) (hH : H l = some (.lst xs)) : xs.length <= sizeLine /\ ∃ (its : List Value) (n : Nat), Vals xs its /\ xs.length = its.length /\ s.heap.get? l = some { cls := .type "list", data := .seq its.toArray n } := by
 obtain ⟨z, its, n, r, e⟩ := I.hok l _ hH
 exact ⟨z, its, n, r, r.length, e⟩
end
section
variable {X : Cx}
def rAppend : V -> List V -> Hp -> VK -> Prop := fun x vs H Q => ∃ l xs y, x = .ref l /\ vs = [y] /\ H l = some (.lst xs) /\ xs.length < sizeLine /\ Q .non (upd H l (.lst (xs ++ [y])))
theorem mt_append : MtM X "list.append" rAppend := by
 intro pins s σ H x vs v us Q I rx rv h
 obtain ⟨l, xs, y, rfl, rfl, hH, hz, q⟩ := h
 cases rx
 obtain ⟨u, rfl, ru⟩ := rv.one
 obtain ⟨z, its, n, r, hl, e⟩ := I.lstM hH
 refine call_meets F.slot_list_append ⟨_, e, rfl⟩ F.entry_list_append (F.args_list_append_2 _ _) (PySem.list_append l its.toArray n u (by rw [size_toArray]; omega)) ⟨e, ?_⟩
 refine ⟨.non, _, I.lset (its' := its ++ [u]) hH e (by simp) (r.append (.cons ru .nil)) ?_, rfl, q⟩
 rw [List.length_append, List.length_singleton]
 omega
end
end L2
namespace Att
open PySem PySem.W PySem.Calls PyProof.Rows
theorem ints_of_wellAll {P : Params} {h : Heap} : ∀ (ns : List Int) (vs : List Value), WellAll P h vs (ns.map WData.int) -> IntsAre vs ns := by
 intro ns
 induction ns with
 | nil =>
  intro vs w
  rw [map_nil] at w
  cases w
  exact .nil
 | cons n ns ih =>
  intro vs w
  rw [map_cons] at w
  cases w with
  | cons a b =>
   cases a
   exact .cons _ _ (ih _ b)
theorem script_of {l : OpenLaw} {n : Nat} (hn : l.most = some n) {P : Params} {h : Heap} {args : List WData} {vals : List Value}
 (hpre : l.row.toRowW.claim.pre args = true) (hwl : WellAll P h vals args) :
 ∃ a vs ns, vals = [Value.ref a] /\ args = [WData.list (ns.map WData.int)] /\ h.get? a = some { cls := .type "list", data := .seq vs.toArray } /\ IntsAre vs ns /\ ns.length <= n := by
 have hsh : WShape.hasAll [] args [.list .int] = true := (pre_splitW hpre).1
 have hc : l.pre.holds [] { args := args } = true := (pre_splitW hpre).2
 obtain ⟨d, r, rfl, h1, h2⟩ := hasAllW_cons hsh
 obtain rfl := hasAllW_nil h2
 obtain ⟨xs, rfl, h3⟩ := hasW_list h1
 obtain ⟨ns, rfl⟩ := items_int h3
 have hlen : ns.length <= n := by
  unfold OpenLaw.pre at hc
  have h4 : (WTm.not (.lt (.lit (.int (n : Int))) (.len (.arg 0)))).holds [] { args := [.list (ns.map .int)] } = true := by
   have h4 := (holds_andW hc).1
   rw [hn] at h4
   exact h4
  have h5 := condW_of h4 (w_not (w_lt w_lit (w_len_list (w_arg rfl))))
  rw [length_map] at h5
  refine Nat.le_of_not_lt fun q => ?_
  have q' : (n : Int) < ((ns.length : Nat) : Int) := by omega
  first
   | (rw [decide_eq_true q'] at h5; exact absurd h5 (by decide))
   | (simp at h5; omega)
 cases hwl with
 | cons w1 w2 =>
  cases w2
  cases w1 with
  | list ho hall => exact ⟨_, _, ns, rfl, rfl, ho, ints_of_wellAll ns _ hall, hlen⟩
theorem post_true (l : OpenLaw) (args : List WData) : l.row.toRowW.claim.post args (.bool true) args = true :=
 postW_of (r := l.row.toRowW) (X := (true == true))
  (show WShape.has [] (.bool true) .bool = true by first | rfl | decide | simp [WShape.has, WShape.arms, WShape.armsAll])
  (show (WTm.eq .res (.lit (.bool true))).value [] { args := args, res := some (.bool true), after := args } = some (.bool (true == true)) from w_eq_bool (w_res rfl) w_lit) rfl
theorem attach_call {l : OpenLaw} {n : Nat} {q : Program} {loose : List Str} {XP : (Str -> Option Value) -> Heap -> Prop} {YP : World -> Heap -> Prop} {d : DefRec}
 (hn : l.most = some n) (hdf : d.params.defaults = [])
 (call : ∀ (w : World) (s₀ s₁ : Shared) (mg mb : Str -> Option Value) (fa : Addr) (o : Obj) (pm cd doc : Value) (a : Addr) (vs : List Value) (ns : List Int),
  Ground q loose [] XP w s₀ mg mb s₁.heap -> YP w s₁.heap ->
  s₁.heap.get? fa = some o -> o.data = .func (docDef d.name d.params d.body d.scope pm cd doc) -> s₁.heap.CodeRec cd d.name -> mg d.name = some (.ref fa) ->
  s₁.heap.get? a = some { cls := .type "list", data := .seq vs.toArray } -> IntsAre vs ns -> ns.length <= n -> s₁.gens = #[] ->
  codeAny (model l.prog w) callerA (.call (.ref fa) ⟨[.ref a], []⟩) (fun r s' => r = .ok (.ret (.bool true)) /\ OldK s₁.heap s'.heap /\ s'.os = s₁.os /\ AllBare s'.gens) s₁) :
 WalkO q loose XP YP l.row.toRowW d [] (fun f vs => PySem.call f vs) := by
 intro w s₀ s₁ mg mb G Y fa o pm cd doc dV kV ho hd hcd hD hmg hg args vals as hpre hlay hrd hwl hlo
 obtain rfl : dV = .none := Dflts.none hD hdf
 obtain rfl : kV = .none := Dflts.noKw hD
 obtain ⟨a, vs, ns, rfl, rfl, hobj, hints, hlen⟩ := script_of hn hpre hwl
 refine enter_call (codeAny_mono (call w s₀ s₁ mg mb fa o pm cd doc a vs ns G Y ho (fd_plain hd) hcd hmg hobj hints hlen hg) fun r s' hq => ?_)
 obtain ⟨rfl, h2, h3, h4⟩ := hq
 exact ⟨.inl ⟨.bool true, .bool true, [], rfl, fun _ => rfl, .bool true, post_true l _, fun _ => ⟨List.Pairwise.nil, fun _ hm => (nomatch hm)⟩⟩, h2, h3, h4⟩
end Att
namespace L2
open PySem PySem.Spec PyProof.Rows
theorem vals_ints : ∀ {vs : List Value} {ns : List Int}, IntsAre vs ns -> Vals (ns.map V.int) vs
 | _, _, .nil => .nil
 | _, _, .cons n t h => .cons ⟨t, rfl⟩ (vals_ints h)
def Only (H : Hp) : Prop := ∀ b, H b = none \/ ∃ o xs, H b = some (.frz o (.lst xs))
def defArgs (s : Stmt) : Arguments := match s with
 | .FunctionDef _ a _ _ _ _ _ _ _ _ => a
 | _ => { posonlyargs := [], args := [], vararg := none, kwonlyargs := [], kw_defaults := [], kwarg := none, defaults := [] }
def defBody (s : Stmt) : List Stmt := match s with
 | .FunctionDef _ _ b _ _ _ _ _ _ _ => b
 | _ => []
def defScope (s : Stmt) : Scope := match s with
 | .FunctionDef _ _ _ _ _ _ sc _ _ _ => sc
 | _ => { kind := .function, names := [], isGenerator := false, isCoroutine := false }
abbrev CX0 : CXT := fun _ _ _ _ _ _ => False
abbrev E0 : XK := fun _ _ _ => False
theorem pass0 {X : Cx} : Passes CX0 X E0 := fun _ _ _ _ _ _ _ h => h.elim
structure Fun (K : Frag) (x qual : Str) (st : Stmt) (f : Addr) (fd : FuncData) : Prop where
 ex : ∃ (oc : Value) (od : Option Addr) (kV doc pm : Value) (an : Option Addr) (cdv ct : Value) (osl : Array (Option Value)),
  fd = PySem.W.fnOf x qual (defArgs st) (defBody st) (defScope st) .none kV doc pm an cdv ct /\ K.lookup f = some ⟨oc, od, .func fd, osl⟩ /\ PySem.W.codeIn K cdv qual = true
 kp : keepIn K (.ref f) = true
section
variable {P : Program} {w : World} {K : Frag} {mg : Str -> Option Value} {base : Heap}
theorem Fun.ok {x qual : Str} {st : Stmt} {f : Addr} {fd : FuncData} {N ps : List Str} {k : Nat} {sp : Sp} (F : Fun K x qual st f fd) (S : FnScope N ps (defScope st)) (len : ∀ vs H Q E, sp vs H Q E -> vs.length = ps.length)
 (hbody : ∀ (cdv : Value) (A : Around) (outer : List Env) (s : Shared) (H : Hp) (vs : List V) (Q : VK) (E : XK), Room k (A.deeper (envOfC qual (defScope st) s.heap.objs.size f cdv)) -> sp vs H Q E ->
  ∃ t, PSs (cxOf CX0 P w K mg base N qual (defScope st) f cdv A outer s H E).nox (defBody st) t /\ t { nx := fun _ H' => Q .non H', rt := Q } (start N vs) H) : FnOk P w K mg base CX0 (k + 1) f fd ps sp := by
 obtain ⟨oc, od, kV, doc, pm, an, cdv, ct, osl, rfl, lk, hcd⟩ := F.ex
 refine fn_of lk hcd S len fun A outer s H vs Q E hr hsp => ?_
 obtain ⟨t, h, q⟩ := hbody cdv A outer s H vs Q E hr hsp
 exact ⟨t, h.nox, q⟩
theorem Fun.binds {x qual : Str} {st : Stmt} {f : Addr} {fd : FuncData} {ps : List Str} (F : Fun K x qual st f fd)
 (h : ∀ (kV doc pm : Value) (an : Option Addr) (cdv ct : Value) (us : List Value), us.length = ps.length -> bindArgs (PySem.W.fnOf x qual (defArgs st) (defBody st) (defScope st) .none kV doc pm an cdv ct) ⟨us, []⟩ = pure (ps.zip us)) : Binds K fd ps [] := by
 obtain ⟨oc, od, kV, doc, pm, an, cdv, ct, osl, rfl, lk, hcd⟩ := F.ex
 exact .all (h kV doc pm an cdv ct)
theorem fun_mk {x qual : Str} {st : Stmt} {f : Addr} {oc : Value} {od an : Option Addr} {osl : Array (Option Value)} {kV doc pm cdv ct : Value} (l : K.lookup f = some ⟨oc, od, .func (PySem.W.fnOf x qual (defArgs st) (defBody st) (defScope st) .none kV doc pm an cdv ct), osl⟩)
 (c : PySem.W.codeIn K cdv qual = true) (k : keepIn K (.ref f) = true) : Fun K x qual st f (PySem.W.fnOf x qual (defArgs st) (defBody st) (defScope st) .none kV doc pm an cdv ct) := ⟨⟨oc, od, kV, doc, pm, an, cdv, ct, osl, rfl, l, c⟩, k⟩
end
theorem small1000 {n : Nat} (h : n <= 1000) : n < sizeLine := Nat.lt_of_le_of_lt h (by decide)
theorem iteF {A B : Prop} (h : B) : if false = true then A else B := by
 rw [if_neg Bool.false_ne_true]
 exact h
theorem iteT {A B : Prop} (h : A) : if true = true then A else B := by
 rw [if_pos rfl]
 exact h
def Same (H H' : Hp) : Prop := ∀ b o, H b = some o -> H' b = some o
theorem Same.refl (H : Hp) : Same H H := fun _ _ h => h
theorem Same.trans {H H1 H2 : Hp} (a : Same H H1) (b : Same H1 H2) : Same H H2 := fun c o h => b c o (a c o h)
theorem Same.free {H H' : Hp} (e : Same H H') {l : Addr} (h : H' l = Option.none) : H l = Option.none := by
 cases q : H l with
 | none => rfl
 | some o =>
  rw [e l o q] at h
  cases h
theorem Same.seq {K : Frag} {H H' : Hp} {a : Addr} {xs : List V} (e : Same H H') (h : SqL K H a xs) : SqL K H' a xs := by
 rcases h with (h | ⟨o, h⟩) | h
 . exact .inl (.inl (e _ _ h))
 . exact .inl (.inr ⟨o, e _ _ h⟩)
 . exact .inr h
end L2
set_option autoImplicit false
set_option maxHeartbeats 4000000
namespace Y
open PySem
theorem el13 {α : Sort _} {B C D : α → Prop} {R : Prop} (h : ∃ a, B a /\ C a /\ D a) (f : ∀ a, B a → C a → D a → R) : R := by
 obtain ⟨a, b, c, d⟩ := h
 exact f a b c d
theorem el33 {α β γ : Sort _} {B C D : α → β → γ → Prop} {R : Prop} (h : ∃ a b c, B a b c /\ C a b c /\ D a b c) (f : ∀ a b c, B a b c → C a b c → D a b c → R) : R := by
 obtain ⟨a, b, c, x, y, z⟩ := h
 exact f a b c x y z
namespace Tb
def blk (m : Nat) (h : Int) : Nat -> Nat × Nat
 | 0 => (SetTable.bits h % (m + 1), SetTable.bits h)
 | k + 1 => SetTable.leap m (blk m h k).1 (blk m h k).2
def adv (m : Nat) (p : SetTable.Probe) : SetTable.Probe := if p.more > 0 then { p with j := p.j + 1, more := p.more - 1 } else
 { p with j := (SetTable.leap m p.i p.perturb).1, more := SetTable.runEnd m (SetTable.leap m p.i p.perturb).1 - (SetTable.leap m p.i p.perturb).1, i := (SetTable.leap m p.i p.perturb).1, perturb := (SetTable.leap m p.i p.perturb).2 }
def top (m i q : Nat) : SetTable.Probe := { j := i, more := SetTable.runEnd m i - i, i := i, perturb := q, dummy := none }
def sq (m : Nat) (h : Int) : Nat -> SetTable.Probe
 | 0 => top m (SetTable.bits h % (m + 1)) (SetTable.bits h)
 | n + 1 => adv m (sq m h n)
def js (m : Nat) (h : Int) (n : Nat) : Nat := (sq m h n).j
theorem run_le (m i : Nat) : SetTable.runEnd m i - i <= 9 := by unfold SetTable.runEnd; split <;> omega
theorem run_in {m i : Nat} (h : i <= m) : SetTable.runEnd m i <= m := by unfold SetTable.runEnd; split <;> omega
theorem run_ge (m i : Nat) : i <= SetTable.runEnd m i := by unfold SetTable.runEnd; split <;> omega
theorem sq_run {m : Nat} {h : Int} {n i q : Nat} (e : sq m h n = top m i q) : ∀ r, r <= SetTable.runEnd m i - i -> sq m h (n + r) = { j := i + r, more := SetTable.runEnd m i - i - r, i := i, perturb := q, dummy := none }
 | 0, _ => by rw [Nat.add_zero, e]; rfl
 | r + 1, hr => by
  rw [<- Nat.add_assoc]
  show adv m (sq m h (n + r)) = _
  rw [sq_run e r (by omega)]
  unfold adv
  rw [if_pos (by show SetTable.runEnd m i - i - r > 0; omega)]
  show (_ : SetTable.Probe) = _
  congr 1
theorem sq_next {m : Nat} {h : Int} {n i q : Nat} (e : sq m h n = top m i q) : sq m h (n + (SetTable.runEnd m i - i) + 1) = top m (SetTable.leap m i q).1 (SetTable.leap m i q).2 := by
 show adv m (sq m h (n + (SetTable.runEnd m i - i))) = _
 rw [sq_run e _ (Nat.le_refl _)]
 unfold adv
 rw [if_neg (by show ¬ SetTable.runEnd m i - i - (SetTable.runEnd m i - i) > 0; omega)]
 rfl
def bs (m : Nat) (h : Int) : Nat -> Nat
 | 0 => 0
 | k + 1 => bs m h k + (SetTable.runEnd m (blk m h k).1 - (blk m h k).1) + 1
theorem sq_bs (m : Nat) (h : Int) : ∀ k, sq m h (bs m h k) = top m (blk m h k).1 (blk m h k).2
 | 0 => rfl
 | k + 1 => sq_next (sq_bs m h k)
theorem bs_le (m : Nat) (h : Int) : ∀ k, bs m h k <= 10 * k
 | 0 => by simp [bs]
 | k + 1 => by
  have := bs_le m h k
  have := run_le m (blk m h k).1
  unfold bs; omega
theorem js_bs (m : Nat) (h : Int) (k r : Nat) (hr : r <= SetTable.runEnd m (blk m h k).1 - (blk m h k).1) : js m h (bs m h k + r) = (blk m h k).1 + r := by
 unfold js
 rw [sq_run (sq_bs m h k) r hr]
theorem js_top (m : Nat) (h : Int) (k : Nat) : js m h (bs m h k) = (blk m h k).1 := js_bs m h k 0 (Nat.zero_le _)
theorem blk_le (m : Nat) (h : Int) (k : Nat) : (blk m h k).1 <= m := by
 cases k with
 | zero => exact Nat.le_of_lt_succ (Nat.mod_lt (SetTable.bits h) (Nat.succ_pos m))
 | succ k => exact Nat.le_of_lt_succ (Nat.mod_lt ((blk m h k).1 * 5 + 1 + (blk m h k).2 / 32) (Nat.succ_pos m))
theorem in_blk (m : Nat) (h : Int) : ∀ n, ∃ k r, n = bs m h k + r /\ r <= SetTable.runEnd m (blk m h k).1 - (blk m h k).1
 | 0 => ⟨0, 0, rfl, Nat.zero_le _⟩
 | n + 1 => by
  obtain ⟨k, r, e, hr⟩ := in_blk m h n
  by_cases q : r = SetTable.runEnd m (blk m h k).1 - (blk m h k).1
  . exact ⟨k + 1, 0, by unfold bs; omega, Nat.zero_le _⟩
  . exact ⟨k, r + 1, by omega, by omega⟩
theorem js_le (m : Nat) (h : Int) (n : Nat) : js m h n <= m := by
 obtain ⟨k, r, rfl, hr⟩ := in_blk m h n
 rw [js_bs m h k r hr]
 have := run_in (blk_le m h k)
 have := run_ge m (blk m h k).1
 omega
theorem bits_lt (h : Int) : SetTable.bits h < 2 ^ 64 := by
 unfold SetTable.bits
 have := Int.emod_lt_of_pos h (show (0 : Int) < 2 ^ 64 by decide)
 have := Int.emod_nonneg h (show (2 ^ 64 : Int) ≠ 0 by decide)
 omega
theorem blk_snd (m : Nat) (h : Int) : ∀ k, (blk m h k).2 = SetTable.bits h / 32 ^ k
 | 0 => by simp [blk]
 | k + 1 => by
  show (blk m h k).2 / 32 = _
  rw [blk_snd m h k, Nat.div_div_eq_div_mul, Nat.pow_succ]
def lcg (m : Nat) : Nat -> Nat -> Nat
 | 0, i => i
 | r + 1, i => (lcg m r i * 5 + 1) % (m + 1)
theorem lcg_add (m i : Nat) (b : Nat) : ∀ a, lcg m (a + b) i = lcg m a (lcg m b i)
 | 0 => by rw [Nat.zero_add]; rfl
 | a + 1 => by
  rw [show a + 1 + b = a + b + 1 by omega]
  show (lcg m (a + b) i * 5 + 1) % (m + 1) = (lcg m a (lcg m b i) * 5 + 1) % (m + 1)
  rw [lcg_add m i b a]
theorem blk_lcg (m : Nat) (h : Int) : ∀ r, (blk m h (13 + r)).1 = lcg m r (blk m h 13).1
 | 0 => rfl
 | r + 1 => by
  show ((blk m h (13 + r)).1 * 5 + 1 + (blk m h (13 + r)).2 / 32) % (m + 1) = (lcg m r (blk m h 13).1 * 5 + 1) % (m + 1)
  rw [blk_lcg m h r, blk_snd]
  have : SetTable.bits h / 32 ^ (13 + r) = 0 := Nat.div_eq_of_lt (Nat.lt_of_lt_of_le (bits_lt h) (Nat.le_trans (by decide : 2 ^ 64 <= 32 ^ 13) (Nat.pow_le_pow_right (by decide) (Nat.le_add_right 13 r))))
  rw [this]
def Mk (m : Nat) : Prop := m = 7 \/ m = 31 \/ m = 127
def orb (m : Nat) : Bool := (List.range (m + 1)).all (fun j => (List.range (m + 1)).any fun r => lcg m r 0 == j) && lcg m (m + 1) 0 == 0
theorem orb_ok {m : Nat} (h : Mk m) : orb m = true := by
 rcases h with rfl | rfl | rfl <;> decide +kernel
theorem lcg_all {m : Nat} (hm : Mk m) {i j : Nat} (hi : i <= m) (hj : j <= m) : ∃ r, r <= m /\ lcg m r i = j := by
 have o := orb_ok hm
 unfold orb at o
 rw [Bool.and_eq_true, List.all_eq_true] at o
 obtain ⟨o1, o2⟩ := o
 have get : ∀ j, j <= m -> ∃ r, r <= m /\ lcg m r 0 = j := fun j hj => by
  have := o1 j (List.mem_range.mpr (by omega))
  rw [any_eq_true] at this
  obtain ⟨r, hr, e⟩ := this
  exact ⟨r, by have := List.mem_range.mp hr; omega, by simpa using e⟩
 obtain ⟨a, ha, ea⟩ := get i hi
 obtain ⟨b, hb, eb⟩ := get j hj
 by_cases q : a <= b
 . refine ⟨b - a, by omega, ?_⟩
   rw [<- ea, <- lcg_add, show b - a + a = b by omega, eb]
 . refine ⟨b + (m + 1 - a), by omega, ?_⟩
   rw [<- ea, <- lcg_add, show b + (m + 1 - a) + a = b + (m + 1) by omega, lcg_add, show lcg m (m + 1) 0 = 0 by simpa using o2, eb]
theorem all_blks {m : Nat} (hm : Mk m) (h : Int) {j : Nat} (hj : j <= m) : ∃ k, k <= m + 13 /\ (blk m h k).1 = j := by
 obtain ⟨r, hr, e⟩ := lcg_all hm (blk_le m h 13) hj
 exact ⟨13 + r, by omega, by rw [blk_lcg, e]⟩
theorem all_js {m : Nat} (hm : Mk m) (h : Int) {j : Nat} (hj : j <= m) : ∃ n, n <= 10 * (m + 13) /\ js m h n = j := by
 obtain ⟨k, hk, e⟩ := all_blks hm h hj
 exact ⟨bs m h k, Nat.le_trans (bs_le m h k) (by omega), by rw [js_top, e]⟩
end Tb
end Y
namespace Y
open PySem
namespace Tb
def Up (xs : List Nat) : Prop := xs.Pairwise (· < ·)
theorem up_get {xs : Array Nat} (u : Up xs.toList) {a b : Nat} (h : a < b) (hb : b < xs.size) : xs.getD a 0 < xs.getD b 0 := by
 have hl : xs.toList.length = xs.size := Array.length_toList
 have := (List.pairwise_iff_getElem.mp u) a b (by omega) (by omega) h
 simpa [Array.getD, hb, (by omega : a < xs.size)] using this
theorem below_go {xs : Array Nat} {j : Nat} (u : Up xs.toList) : ∀ (f lo hi : Nat), hi - lo <= f -> lo <= hi -> hi <= xs.size -> (∀ a, a < lo -> xs.getD a 0 < j) -> (∀ a, hi <= a -> a < xs.size -> j <= xs.getD a 0) ->
 (∀ a, a < SetTable.below.go xs j f lo hi -> xs.getD a 0 < j) /\ (∀ a, SetTable.below.go xs j f lo hi <= a -> a < xs.size -> j <= xs.getD a 0) /\ SetTable.below.go xs j f lo hi <= xs.size
 | 0, lo, hi, h1, h2, h3, h4, h5 => by
  have : lo = hi := by omega
  subst this
  unfold SetTable.below.go
  exact ⟨h4, h5, h3⟩
 | f + 1, lo, hi, h1, h2, h3, h4, h5 => by
  unfold SetTable.below.go
  by_cases q : lo < hi
  . rw [if_pos q]
    have hm : (lo + hi) / 2 < hi := by omega
    have hm2 : lo <= (lo + hi) / 2 := by omega
    have e : xs.getD ((lo + hi) / 2) j = xs.getD ((lo + hi) / 2) 0 := by simp [Array.getD, (by omega : (lo + hi) / 2 < xs.size)]
    dsimp only
    rw [e]
    by_cases z : xs.getD ((lo + hi) / 2) 0 < j
    . rw [if_pos z]
      refine below_go u f _ hi (by omega) (by omega) h3 (fun a ha => ?_) h5
      by_cases w : a = (lo + hi) / 2
      . rw [w]; exact z
      . exact Nat.lt_trans (up_get u (by omega : a < (lo + hi) / 2) (by omega)) z
    . rw [if_neg z]
      refine below_go u f lo _ (by omega) (by omega) (by omega) h4 fun a ha hs => ?_
      by_cases w : a = (lo + hi) / 2
      . rw [w]; omega
      . have := up_get u (by omega : (lo + hi) / 2 < a) hs; omega
  . rw [if_neg q]
    have : lo = hi := by omega
    subst this
    exact ⟨h4, h5, h3⟩
theorem below_ok {xs : Array Nat} (u : Up xs.toList) (j : Nat) : (∀ a, a < SetTable.below xs j -> xs.getD a 0 < j) /\ (∀ a, SetTable.below xs j <= a -> a < xs.size -> j <= xs.getD a 0) /\ SetTable.below xs j <= xs.size :=
 below_go u xs.size 0 xs.size (by omega) (Nat.zero_le _) (Nat.le_refl _) (fun a h => absurd h (by omega)) fun a h1 h2 => absurd h1 (by omega)
theorem below_at {xs : Array Nat} (u : Up xs.toList) {i j : Nat} (e : xs[i]? = some j) : SetTable.below xs j = i := by
 obtain ⟨b1, b2, b3⟩ := below_ok u j
 have hi : i < xs.size := (Array.getElem?_eq_some_iff.mp e).1
 have ei : xs.getD i 0 = j := by rw [Array.getD_eq_getD_getElem?, e]; rfl
 rcases Nat.lt_trichotomy (SetTable.below xs j) i with h | h | h
 . have a := b2 _ (Nat.le_refl _) (by omega)
   have b := up_get u h hi
   omega
 . exact h
 . have := b1 i h; omega
theorem slot_at {t : SetTable} (u : Up t.place.toList) {i j : Nat} (e : t.place[i]? = some j) : t.slot j = .live i := by
 unfold SetTable.slot
 dsimp only
 rw [below_at u e, e]
 simp
theorem slot_no {t : SetTable} (d : t.dummies = #[]) {j : Nat} (h : j ∉ t.place.toList) : t.slot j = .empty := by
 unfold SetTable.slot
 dsimp only
 have n : (t.place[SetTable.below t.place j]? == some j) = false := by
  cases q : t.place[SetTable.below t.place j]? == some j with
  | false => rfl
  | true =>
   have e : t.place[SetTable.below t.place j]? = some j := by simpa using q
   exact absurd (mem_of_getElem? (by rw [Array.getElem?_toList]; exact e)) h
 rw [n, d]
 rfl
structure Tab (t : SetTable) (es : Array (Int × Value)) : Prop where
 mks : Mk t.mask
 dum : t.dummies = #[]
 len : t.place.size = es.size
 up : Up t.place.toList
 le : ∀ j ∈ t.place.toList, j <= t.mask
 reach : ∀ (i j : Nat) (e : Int × Value), t.place[i]? = some j -> es[i]? = some e -> ∃ n, js t.mask e.1 n = j /\ ∀ r, r < n -> js t.mask e.1 r ∈ t.place.toList
structure First (t : SetTable) (h : Int) (N : Nat) : Prop where
 no : js t.mask h N ∉ t.place.toList
 all : ∀ r, r < N -> js t.mask h r ∈ t.place.toList
theorem first_of (P : Nat -> Prop) [DecidablePred P] : ∀ n, P n -> ∃ N, N <= n /\ P N /\ ∀ r, r < N -> ¬ P r
 | 0, h => ⟨0, Nat.le_refl _, h, fun r hr => absurd hr (by omega)⟩
 | n + 1, h => by
  by_cases q : ∃ m, m <= n /\ P m
  . obtain ⟨m, hm, pm⟩ := q
    clear h
    have : ∀ k, k <= n -> P k -> ∃ N, N <= k /\ P N /\ ∀ r, r < N -> ¬ P r := fun k hk pk => by
     induction k using Nat.strongRecOn with
     | _ k ih =>
      by_cases z : ∃ r, r < k /\ P r
      . obtain ⟨r, hr, pr⟩ := z
        obtain ⟨N, a, b, c⟩ := ih r hr (by omega) pr
        exact ⟨N, by omega, b, c⟩
      . exact ⟨k, Nat.le_refl _, pk, fun r hr p => z ⟨r, hr, p⟩⟩
    obtain ⟨N, a, b, c⟩ := this m hm pm
    exact ⟨N, by omega, b, c⟩
  . exact ⟨n + 1, Nat.le_refl _, h, fun r hr p => q ⟨r, by omega, p⟩⟩
theorem gap {xs : List Nat} {m : Nat} (hl : xs.length <= m) : ∃ j, j <= m /\ j ∉ xs := by
 cases q : (List.range (m + 1)).find? fun j => decide (j ∉ xs) with
 | some j =>
  have a := List.mem_of_find?_eq_some q
  have b := List.find?_some q
  exact ⟨j, by have := List.mem_range.mp a; omega, by simpa using b⟩
 | none =>
  rw [List.find?_eq_none] at q
  have sub : ∀ j ∈ List.range (m + 1), j ∈ xs := fun j hj => by simpa using q j hj
  have := (List.nodup_range (n := m + 1)).length_le_of_subset sub
  simp at this
  omega
theorem first_ok {t : SetTable} {es : Array (Int × Value)} (T : Tab t es) (hs : es.size <= t.mask) (h : Int) : ∃ N, N <= 10 * (t.mask + 13) /\ First t h N := by
 obtain ⟨j, hj, nj⟩ := gap (xs := t.place.toList) (m := t.mask) (by rw [Array.length_toList, T.len]; exact hs)
 obtain ⟨n, hn, e⟩ := all_js T.mks h hj
 obtain ⟨N, a, b, c⟩ := first_of (fun n => js t.mask h n ∉ t.place.toList) n (by rw [e]; exact nj)
 exact ⟨N, by omega, b, fun r hr => Classical.byContradiction fun z => c r hr z⟩
theorem tab_put {t : SetTable} {es : Array (Int × Value)} (T : Tab t es) {h : Int} {x : Value} {N : Nat} (F : First t h N) :
 Tab (t.put (js t.mask h N)).1 (SetTable.insertAt es (t.put (js t.mask h N)).2 (h, x)) := by
 generalize hj : js t.mask h N = j at F
 have nj : j ∉ t.place.toList := by rw [<- hj]; exact F.no
 have hle : j <= t.mask := by rw [<- hj]; exact js_le _ _ _
 obtain ⟨b1, b2, b3⟩ := below_ok T.up j
 have pl : (t.put j).1.place.toList = t.place.toList.take (SetTable.below t.place j) ++ j :: t.place.toList.drop (SetTable.below t.place j) := SetTable.toList_insertAt ..
 have el : (SetTable.insertAt es (t.put j).2 (h, x)).toList = es.toList.take (SetTable.below t.place j) ++ (h, x) :: es.toList.drop (SetTable.below t.place j) := SetTable.toList_insertAt ..
 generalize SetTable.below t.place j = p at b1 b2 b3 pl el
 have hpl : t.place.toList.length = t.place.size := Array.length_toList
 have hel : es.toList.length = es.size := Array.length_toList
 have len := T.len
 have mem : ∀ k, k ∈ (t.put j).1.place.toList ↔ k ∈ t.place.toList \/ k = j := fun k => by
  rw [pl, mem_append, mem_cons]
  conv => rhs; rw [<- take_append_drop p t.place.toList, mem_append]
  constructor
  . rintro (a | a | a)
    . exact .inl (.inl a)
    . exact .inr a
    . exact .inl (.inr a)
  . rintro ((a | a) | a)
    . exact .inl a
    . exact .inr (.inr a)
    . exact .inr (.inl a)
 refine ⟨T.mks, ?_, ?_, ?_, ?_, ?_⟩
 . show (if SetTable.has t.dummies j = true then _ else _) = _
   rw [T.dum]
   rfl
 . have a := congrArg List.length pl
   have b := congrArg List.length el
   simp at a b
   omega
 . unfold Up
   rw [pl, List.pairwise_append, List.pairwise_cons]
   have u := T.up
   unfold Up at u
   have getL : ∀ (i : Nat) (hi : i < t.place.toList.length), t.place.toList[i] = t.place.getD i 0 := fun i hi => by
    have hi2 : i < t.place.size := by omega
    simp [Array.getD, hi2]
   have lo : ∀ a ∈ t.place.toList.take p, a < j := fun a ha => by
    obtain ⟨i, hi, rfl⟩ := List.mem_iff_getElem.mp ha
    rw [length_take] at hi
    rw [List.getElem_take, getL _ (by omega)]
    exact b1 i (by omega)
   have hi : ∀ a ∈ t.place.toList.drop p, j < a := fun a ha => by
    have na : a ≠ j := fun z => nj (z ▸ List.mem_of_mem_drop ha)
    obtain ⟨i, hi, rfl⟩ := List.mem_iff_getElem.mp ha
    rw [length_drop] at hi
    rw [List.getElem_drop, getL _ (by omega)] at na ⊢
    have := b2 (p + i) (by omega) (by omega)
    omega
   refine ⟨u.sublist (List.take_sublist ..), ⟨hi, u.sublist (List.drop_sublist ..)⟩, fun a ha b hb => ?_⟩
   rcases mem_cons.mp hb with rfl | hb
   . exact lo a ha
   . exact Nat.lt_trans (lo a ha) (hi b hb)
 . intro k hk
   rcases (mem k).mp hk with a | a
   . exact T.le k a
   . rw [a]; exact hle
 . intro i k e hi he
   rw [<- Array.getElem?_toList, pl] at hi
   rw [<- Array.getElem?_toList, el] at he
   have old : ∀ i, t.place[i]? = some k -> es[i]? = some e -> ∃ n, js t.mask e.1 n = k /\ ∀ r, r < n -> js t.mask e.1 r ∈ (t.put j).1.place.toList := fun i a b => by
    obtain ⟨n, e1, e2⟩ := T.reach i k e a b
    exact ⟨n, e1, fun r hr => (mem _).mpr (.inl (e2 r hr))⟩
   have l1 : (t.place.toList.take p).length = p := by rw [length_take]; omega
   have l2 : (es.toList.take p).length = p := by rw [length_take]; omega
   rcases Nat.lt_trichotomy i p with q | q | q
   . rw [getElem?_append_left (by omega), List.getElem?_take_of_lt q, Array.getElem?_toList] at hi he
     exact old i hi he
   . subst q
     rw [getElem?_append_right (by omega), l1] at hi
     rw [getElem?_append_right (by omega), l2] at he
     simp at hi he
     subst hi he
     exact ⟨N, hj, fun r hr => (mem _).mpr (.inl (F.all r hr))⟩
   . obtain ⟨d, rfl⟩ : ∃ d, i = p + (d + 1) := ⟨i - p - 1, by omega⟩
     rw [getElem?_append_right (by omega), l1, show p + (d + 1) - p = d + 1 by omega, List.getElem?_cons_succ, List.getElem?_drop, Array.getElem?_toList] at hi
     rw [getElem?_append_right (by omega), l2, show p + (d + 1) - p = d + 1 by omega, List.getElem?_cons_succ, List.getElem?_drop, Array.getElem?_toList] at he
     exact old (p + d) hi he
end Tb
end Y
namespace Y
open PySem
namespace Tb
structure Own (m : Nat) (hs : List Int) (ow : Array (Option Nat)) : Prop where
 size : ow.size = m + 1
 lt : ∀ j k : Nat, ow[j]? = some (some k) -> k < hs.length
 one : ∀ k : Nat, k < hs.length -> ∃ j : Nat, ow[j]? = some (some k)
 inj : ∀ i j k : Nat, ow[i]? = some (some k) -> ow[j]? = some (some k) -> i = j
 reach : ∀ j k : Nat, ow[j]? = some (some k) -> ∃ n, js m (hs.getD k 0) n = j /\ ∀ r, r < n -> ∃ k' : Nat, ow[js m (hs.getD k 0) r]? = some (some k')
theorem own_nil (m : Nat) : Own m [] (Array.replicate (m + 1) none) := by
 have no : ∀ j k : Nat, ¬ (Array.replicate (m + 1) (none : Option Nat))[j]? = some (some k) := fun j k h => by
  rw [Array.getElem?_replicate] at h
  split at h <;> cases h
 exact ⟨by simp, fun j k h => absurd h (no j k), fun k h => absurd h (by simp), fun i j k h => absurd h (no i k), fun j k h => absurd h (no j k)⟩
theorem own_gap {m : Nat} {hs : List Int} {ow : Array (Option Nat)} (O : Own m hs ow) (hl : hs.length <= m) : ∃ j : Nat, j <= m /\ ow[j]? = some none := by
 refine Classical.byContradiction fun z => ?_
 have all : ∀ j : Nat, j <= m -> ∃ k : Nat, ow[j]? = some (some k) := fun j hj => by
  have hz := O.size
  have e : ow[j]? = some (ow[j]'(by omega)) := Array.getElem?_eq_getElem (by omega)
  cases q : ow[j]'(by omega) with
  | none => exact absurd ⟨j, hj, by rw [e, q]⟩ z
  | some k => exact ⟨k, by rw [e, q]⟩
 have nd : ((List.range (m + 1)).map fun j => ((ow[j]?).getD none).getD 0).Nodup := by
  rw [List.nodup_iff_pairwise_ne, List.pairwise_map]
  refine List.Pairwise.imp_of_mem ?_ (List.nodup_iff_pairwise_ne.mp List.nodup_range)
  intro a b ha hb ne h
  obtain ⟨ka, ea⟩ := all a (by have := List.mem_range.mp ha; omega)
  obtain ⟨kb, eb⟩ := all b (by have := List.mem_range.mp hb; omega)
  rw [ea, eb] at h
  have h : ka = kb := h
  subst h
  exact ne (O.inj a b ka ea eb)
 have sub : ∀ k ∈ (List.range (m + 1)).map fun j => ((ow[j]?).getD none).getD 0, k ∈ List.range hs.length := fun k hk => by
  obtain ⟨j, hj, rfl⟩ := mem_map.mp hk
  obtain ⟨k, e⟩ := all j (by have := List.mem_range.mp hj; omega)
  rw [e]
  exact List.mem_range.mpr (O.lt j k e)
 have := nd.length_le_of_subset sub
 simp at this
 omega
theorem free_go {m : Nat} {h : Int} {ow : Array (Option Nat)} (hz : ow.size = m + 1) : ∀ (f k : Nat), (∀ r, r < bs m h k -> ∃ k' : Nat, ow[js m h r]? = some (some k')) -> (∃ c, k <= c /\ c < k + f /\ ow[(blk m h c).1]? = some none) ->
 ∃ N, SetTable.layClean.free m ow f (blk m h k).1 (blk m h k).2 = some (js m h N) /\ ow[js m h N]? = some none /\ ∀ r, r < N -> ∃ k' : Nat, ow[js m h r]? = some (some k')
 | 0, k, _, ⟨c, h1, h2, _⟩ => absurd h2 (by omega)
 | f + 1, k, hb, ⟨c, h1, h2, h3⟩ => by
  have hi := blk_le m h k
  have re := run_in hi
  have rg := run_ge m (blk m h k).1
  have inb : ∀ r, r <= SetTable.runEnd m (blk m h k).1 - (blk m h k).1 -> (blk m h k).1 + r < ow.size := fun r hr => by omega
  unfold SetTable.layClean.free
  cases q : (List.range (SetTable.runEnd m (blk m h k).1 + 1 - (blk m h k).1)).find? fun r => (ow.getD ((blk m h k).1 + r) (some 0)).isNone with
  | some r =>
   rw [List.find?_range_eq_some] at q
   obtain ⟨q1, q2, q3⟩ := q
   have hr : r <= SetTable.runEnd m (blk m h k).1 - (blk m h k).1 := by have := List.mem_range.mp q2; omega
   have e := js_bs m h k r hr
   refine ⟨bs m h k + r, by rw [e], ?_, fun r' hr' => ?_⟩
   . rw [e, Array.getElem?_eq_getElem (inb r hr)]
     have : ow.getD ((blk m h k).1 + r) (some 0) = ow[(blk m h k).1 + r]'(inb r hr) := by simp [Array.getD, inb r hr]
     rw [this] at q1
     rw [Option.isNone_iff_eq_none.mp q1]
   . by_cases z : r' < bs m h k
     . exact hb r' z
     . obtain ⟨d, rfl⟩ : ∃ d, r' = bs m h k + d := ⟨r' - bs m h k, by omega⟩
       have hd : d <= SetTable.runEnd m (blk m h k).1 - (blk m h k).1 := by omega
       rw [js_bs m h k d hd, Array.getElem?_eq_getElem (inb d hd)]
       have := q3 d (by omega)
       have e2 : ow.getD ((blk m h k).1 + d) (some 0) = ow[(blk m h k).1 + d]'(inb d hd) := by simp [Array.getD, inb d hd]
       rw [e2] at this
       cases w : ow[(blk m h k).1 + d]'(inb d hd) with
       | none => rw [w] at this; simp at this
       | some k' => exact ⟨k', rfl⟩
  | none =>
   rw [List.find?_eq_none] at q
   have live : ∀ d, d <= SetTable.runEnd m (blk m h k).1 - (blk m h k).1 -> ∃ k' : Nat, ow[(blk m h k).1 + d]? = some (some k') := fun d hd => by
    have := q d (List.mem_range.mpr (by omega))
    have e2 : ow.getD ((blk m h k).1 + d) (some 0) = ow[(blk m h k).1 + d]'(inb d hd) := by simp [Array.getD, inb d hd]
    rw [e2] at this
    rw [Array.getElem?_eq_getElem (inb d hd)]
    cases w : ow[(blk m h k).1 + d]'(inb d hd) with
    | none => rw [w] at this; simp at this
    | some k' => exact ⟨k', rfl⟩
   have nk : c ≠ k := fun z => by
    subst z
    obtain ⟨k', e⟩ := live 0 (Nat.zero_le _)
    rw [Nat.add_zero, h3] at e
    cases e
   refine free_go hz f (k + 1) (fun r hr => ?_) ⟨c, by omega, by omega, h3⟩
   by_cases z : r < bs m h k
   . exact hb r z
   . unfold bs at hr
     obtain ⟨d, rfl⟩ : ∃ d, r = bs m h k + d := ⟨r - bs m h k, by omega⟩
     rw [js_bs m h k d (by omega)]
     exact live d (by omega)
theorem free_ok {m : Nat} (hm : Mk m) {hs : List Int} {ow : Array (Option Nat)} (O : Own m hs ow) (hl : hs.length <= m) (h : Int) : ∃ N, SetTable.layClean.free m ow (SetTable.turns m) (SetTable.bits h % (m + 1)) (SetTable.bits h) = some (js m h N) /\ ow[js m h N]? = some none /\ ∀ r, r < N -> ∃ k' : Nat, ow[js m h r]? = some (some k') := by
 obtain ⟨j, hj, e⟩ := own_gap O hl
 obtain ⟨c, hc, ec⟩ := all_blks hm h hj
 exact free_go O.size (SetTable.turns m) 0 (fun r hr => absurd hr (by simp [bs])) ⟨c, Nat.zero_le _, by unfold SetTable.turns; omega, by rw [ec]; exact e⟩
theorem own_step {m : Nat} {hs : List Int} {ow : Array (Option Nat)} (O : Own m hs ow) {h : Int} {N : Nat} (h1 : ow[js m h N]? = some none) (h2 : ∀ r, r < N -> ∃ k' : Nat, ow[js m h r]? = some (some k')) :
 Own m (hs ++ [h]) (ow.setIfInBounds (js m h N) (some hs.length)) := by
 have hb : js m h N < ow.size := (Array.getElem?_eq_some_iff.mp h1).1
 have get : ∀ j : Nat, (ow.setIfInBounds (js m h N) (some hs.length))[j]? = if js m h N = j then some (some hs.length) else ow[j]? := fun j => by
  rw [Array.getElem?_setIfInBounds]
  by_cases z : js m h N = j
  . subst z; simp [hb]
  . simp [z]
 have keep : ∀ j : Nat, (∃ k : Nat, ow[j]? = some (some k)) -> ∃ k : Nat, (ow.setIfInBounds (js m h N) (some hs.length))[j]? = some (some k) := fun j ⟨k, e⟩ => by
  rw [get]
  by_cases z : js m h N = j
  . exact ⟨hs.length, by rw [if_pos z]⟩
  . exact ⟨k, by rw [if_neg z]; exact e⟩
 have old : ∀ j k : Nat, (ow.setIfInBounds (js m h N) (some hs.length))[j]? = some (some k) -> (j = js m h N /\ k = hs.length) \/ ow[j]? = some (some k) := fun j k e => by
  rw [get] at e
  by_cases z : js m h N = j
  . rw [if_pos z] at e; cases e; exact .inl ⟨z.symm, rfl⟩
  . rw [if_neg z] at e; exact .inr e
 refine ⟨by rw [Array.size_setIfInBounds, O.size], fun j k e => ?_, fun k hk => ?_, fun i j k a b => ?_, fun j k e => ?_⟩
 . rw [List.length_append]
   rcases old j k e with ⟨_, rfl⟩ | e
   . simp
   . have := O.lt j k e; simp; omega
 . rw [List.length_append, List.length_singleton] at hk
   by_cases z : k = hs.length
   . exact ⟨js m h N, by rw [get, if_pos rfl, z]⟩
   . obtain ⟨j, e⟩ := O.one k (by omega)
     refine ⟨j, ?_⟩
     rw [get, if_neg fun z => ?_]
     . exact e
     . rw [<- z, h1] at e; cases e
 . rcases old i k a with ⟨ha, hk⟩ | ha
   . rcases old j k b with ⟨hb, _⟩ | hb
     . rw [ha, hb]
     . have := O.lt j k hb; omega
   . rcases old j k b with ⟨hb, hk⟩ | hb
     . have := O.lt i k ha; omega
     . exact O.inj i j k ha hb
 . rcases old j k e with ⟨rfl, rfl⟩ | e
   . have g : (hs ++ [h]).getD hs.length 0 = h := by simp
     rw [g]
     exact ⟨N, rfl, fun r hr => keep _ (h2 r hr)⟩
   . have hk := O.lt j k e
     have g : (hs ++ [h]).getD k 0 = hs.getD k 0 := by simp [List.getD_eq_getElem?_getD, getElem?_append_left hk]
     rw [g]
     obtain ⟨n, e1, e2⟩ := O.reach j k e
     exact ⟨n, e1, fun r hr => keep _ (e2 r hr)⟩
end Tb
end Y
namespace Y
open PySem
namespace Tb
def layStep (m : Nat) (acc : Option (Array (Option Nat) × Nat)) (h : Int) : Option (Array (Option Nat) × Nat) := do
 let (owner, k) <- acc
 let j <- SetTable.layClean.free m owner (SetTable.turns m) (SetTable.bits h % (m + 1)) (SetTable.bits h)
 pure (owner.setIfInBounds j (some k), k + 1)
theorem lay_eq (m : Nat) (hs : Array Int) : SetTable.layClean m hs = (hs.toList.foldl (layStep m) (some (Array.replicate (m + 1) none, 0))).map (·.1) := by
 unfold SetTable.layClean
 rw [<- Array.foldl_toList]
 rfl
theorem lay_fold {m : Nat} (hm : Mk m) : ∀ (b a : List Int) (ow : Array (Option Nat)), Own m a ow -> a.length + b.length <= m + 1 -> ∃ ow', b.foldl (layStep m) (some (ow, a.length)) = some (ow', a.length + b.length) /\ Own m (a ++ b) ow'
 | [], a, ow, O, _ => ⟨ow, rfl, by rw [append_nil]; exact O⟩
 | h :: b, a, ow, O, hl => by
  rw [length_cons] at hl
  obtain ⟨N, e1, e2, e3⟩ := free_ok hm O (by omega) h
  have st : layStep m (some (ow, a.length)) h = some (ow.setIfInBounds (js m h N) (some a.length), a.length + 1) := by
   show (do let j <- SetTable.layClean.free m ow (SetTable.turns m) (SetTable.bits h % (m + 1)) (SetTable.bits h); pure (ow.setIfInBounds j (some a.length), a.length + 1)) = _
   rw [e1]
   rfl
  obtain ⟨ow', f1, f2⟩ := lay_fold hm b (a ++ [h]) _ (own_step O e2 e3) (by rw [List.length_append, List.length_singleton]; omega)
  rw [List.length_append, List.length_singleton] at f1
  refine ⟨ow', ?_, by rw [List.append_assoc] at f2; exact f2⟩
  rw [List.foldl_cons, st, f1, length_cons]
  congr 2
  omega
theorem lay_ok {m : Nat} (hm : Mk m) (hs : Array Int) (hl : hs.size <= m + 1) : ∃ ow, SetTable.layClean m hs = some ow /\ Own m hs.toList ow := by
 obtain ⟨ow, e, O⟩ := lay_fold hm hs.toList [] _ (own_nil m) (by rw [Array.length_toList]; simpa using hl)
 refine ⟨ow, ?_, O⟩
 have e : hs.toList.foldl (layStep m) (some (Array.replicate (m + 1) none, 0)) = some (ow, 0 + hs.toList.length) := e
 rw [lay_eq, e]
 rfl
def livL (m : Nat) (ow : Array (Option Nat)) : List (Nat × Nat) := (List.range (m + 1)).filterMap fun j => (ow.getD j none).map (j, ·)
theorem liv_mem {m : Nat} {hs : List Int} {ow : Array (Option Nat)} (O : Own m hs ow) {p : Nat × Nat} : p ∈ livL m ow ↔ ow[p.1]? = some (some p.2) := by
 have hz := O.size
 unfold livL
 rw [List.mem_filterMap]
 constructor
 . rintro ⟨j, hj, e⟩
   have hj2 : j < ow.size := by have := List.mem_range.mp hj; omega
   rw [Option.map_eq_some_iff] at e
   obtain ⟨k, ek, rfl⟩ := e
   rw [Array.getD_eq_getD_getElem?, Array.getElem?_eq_getElem hj2] at ek
   show ow[j]? = some (some k)
   rw [Array.getElem?_eq_getElem hj2]
   exact congrArg some ek
 . intro e
   have hb : p.1 < ow.size := (Array.getElem?_eq_some_iff.mp e).1
   exact ⟨p.1, List.mem_range.mpr (by omega), by rw [Array.getD_eq_getD_getElem?, e]; rfl⟩
theorem liv_up (m : Nat) (ow : Array (Option Nat)) : (livL m ow).Pairwise fun p q => p.1 < q.1 := by
 unfold livL
 rw [List.pairwise_filterMap]
 refine List.pairwise_lt_range.imp fun {a b} h x hx y hy => ?_
 rw [Option.map_eq_some_iff] at hx hy
 obtain ⟨_, _, rfl⟩ := hx
 obtain ⟨_, _, rfl⟩ := hy
 exact h
theorem liv_perm {m : Nat} {hs : List Int} {ow : Array (Option Nat)} (O : Own m hs ow) : ((livL m ow).map (·.2)).Perm (List.range hs.length) := by
 refine (List.perm_ext_iff_of_nodup ?_ List.nodup_range).mpr fun k => ?_
 . rw [List.nodup_iff_pairwise_ne, List.pairwise_map]
   refine (liv_up m ow).imp_of_mem fun {p q} hp hq h z => ?_
   have a := (liv_mem O).mp hp
   have b := (liv_mem O).mp hq
   rw [<- z] at b
   have := O.inj _ _ _ a b
   omega
 . rw [mem_map, List.mem_range]
   constructor
   . rintro ⟨p, hp, rfl⟩
     exact O.lt _ _ ((liv_mem O).mp hp)
   . intro hk
     obtain ⟨j, e⟩ := O.one k hk
     exact ⟨(j, k), (liv_mem O).mpr e, rfl⟩
theorem fm_get (es : Array (Int × Value)) : ∀ (l : List (Nat × Nat)), (∀ p ∈ l, p.2 < es.size) -> (l.map (·.2)).filterMap (es[·]?) = l.map fun p => es.getD p.2 (0, .none)
 | [], _ => rfl
 | p :: l, h => by
  have hp := h p mem_cons_self
  have ih := fm_get es l fun q hq => h q (mem_cons_of_mem _ hq)
  rw [map_cons, List.filterMap_cons_some (b := es.getD p.2 (0, .none)) (by simp [Array.getD, hp]), map_cons, ih]
theorem relaid_ok {t : SetTable} {es : Array (Int × Value)} {wanted : Nat} (hm : Mk (SetTable.sizeAbove wanted - 1)) (hl : es.size <= SetTable.sizeAbove wanted - 1) :
 ∃ t' order, t.relaid (es.map (·.1)) wanted = some (t', order) /\ t'.mask = SetTable.sizeAbove wanted - 1 /\ t'.led = t.led /\ t'.plain = t.plain /\ (order.filterMap (es[·]?)).size = es.size /\ (order.filterMap (es[·]?)).toList.Perm es.toList /\ Tab t' (order.filterMap (es[·]?)) := by
 generalize hmm : SetTable.sizeAbove wanted - 1 = m at hm hl
 obtain ⟨ow, e, O⟩ := lay_ok hm (es.map (·.1)) (by rw [Array.size_map]; omega)
 have hlen : (es.map (·.1)).toList.length = es.size := by simp
 have pm := liv_perm O
 rw [hlen] at pm
 have ord : ∀ k ∈ (livL m ow).map (·.2), k < es.size := fun k hk => by simpa using pm.mem_iff.mp hk
 have fm : (((livL m ow).map (·.2)).toArray.filterMap (es[·]?)).toList = ((livL m ow).map (·.2)).filterMap (es[·]?) := by rw [Array.toList_filterMap]
 have pe : (((livL m ow).map (·.2)).filterMap (es[·]?)).Perm es.toList := by
  have := pm.filterMap (es[·]?)
  rwa [PySem.filterMap_getElem?_range] at this
 have get := fm_get es
 have gl := get (livL m ow) fun p hp => ord p.2 (mem_map.mpr ⟨p, hp, rfl⟩)
 refine ⟨{ mask := m, place := ((livL m ow).map (·.1)).toArray, dummies := #[], finger := t.finger, led := t.led, moves := t.movedTo m, plain := t.plain }, ((livL m ow).map (·.2)).toArray, ?_, rfl, rfl, rfl, ?_, ?_, ?_⟩
 . unfold SetTable.relaid SetTable.laid
   rw [hmm, e]
   rfl
 . rw [<- Array.length_toList, fm, pe.length_eq, Array.length_toList]
 . rw [fm]; exact pe
 . refine ⟨hm, rfl, ?_, ?_, ?_, ?_⟩
   . show ((livL m ow).map (·.1)).toArray.size = _
     rw [<- Array.length_toList (xs := Array.filterMap _ _), fm, gl]
     simp
   . show (((livL m ow).map (·.1)).toArray.toList).Pairwise _
     rw [List.toList_toArray, List.pairwise_map]
     exact liv_up m ow
   . intro j hj
     rw [List.toList_toArray] at hj
     obtain ⟨p, hp, rfl⟩ := mem_map.mp hj
     have := (Array.getElem?_eq_some_iff.mp ((liv_mem O).mp hp)).1
     have := O.size
     show p.1 <= m
     omega
   . intro i j x hi hx
     rw [List.getElem?_toArray, getElem?_map] at hi
     rw [<- Array.getElem?_toList, fm, gl, getElem?_map] at hx
     cases q : (livL m ow)[i]? with
     | none => rw [q] at hi; cases hi
     | some p =>
      rw [q] at hi hx
      have hi : p.1 = j := by simpa using hi
      have hx : es.getD p.2 (0, .none) = x := by simpa using hx
      have hp := mem_of_getElem? q
      have ho := (liv_mem O).mp hp
      obtain ⟨n, e1, e2⟩ := O.reach _ _ ho
      have hh : (es.map (·.1)).toList.getD p.2 0 = x.1 := by
       have hk := ord p.2 (mem_map.mpr ⟨p, hp, rfl⟩)
       rw [<- hx]
       simp [Array.getD, hk, List.getD_eq_getElem?_getD]
      rw [hh] at e1 e2
      refine ⟨n, e1.trans hi, fun r hr => ?_⟩
      obtain ⟨k', e'⟩ := e2 r hr
      show js m x.1 r ∈ ((livL m ow).map (·.1)).toArray.toList
      rw [List.toList_toArray, mem_map]
      exact ⟨(js m x.1 r, k'), (liv_mem O).mpr e', rfl⟩
end Tb
end Y
namespace L2
open PySem PySem.Spec PyProof.Rows
section
variable {κ : Type} [DecidableEq κ]
def valV (kvs : List (κ × V)) (k : κ) : Option V := (kvs.find? fun kv => decide (kv.1 = k)).map (·.2)
def putK (kvs : List (κ × V)) (k : κ) (v : V) : List (κ × V) :=
 if (kvs.any fun kv => decide (kv.1 = k)) = true then kvs.map (fun kv => if kv.1 = k then (kv.1, v) else kv) else kvs ++ [(k, v)]
theorem valV_pos {p : κ × V} {r : List (κ × V)} {k : κ} (e : p.1 = k) : valV (p :: r) k = some p.2 := by simp [valV, find?_cons, e]
theorem valV_neg {p : κ × V} {r : List (κ × V)} {k : κ} (e : ¬ p.1 = k) : valV (p :: r) k = valV r k := by simp [valV, find?_cons, e]
theorem valV_any (k : κ) : ∀ kvs : List (κ × V), (kvs.any fun kv => decide (kv.1 = k)) = (valV kvs k).isSome
 | [] => rfl
 | p :: r => by
  rw [List.any_cons]
  by_cases e : p.1 = k
  . simp only [valV_pos e, decide_eq_true e, Bool.true_or, Option.isSome_some]
  . rw [valV_neg e, decide_eq_false e, Bool.false_or]; exact valV_any k r
theorem length_putK (kvs : List (κ × V)) (k : κ) (v : V) : (putK kvs k v).length <= kvs.length + 1 := by
 unfold putK
 split
 . rw [length_map]; omega
 . rw [List.length_append, length_cons, List.length_nil]; omega
theorem putK_new {kvs : List (κ × V)} {k : κ} (v : V) (h : valV kvs k = none) : putK kvs k v = kvs ++ [(k, v)] := by
 unfold putK
 rw [valV_any, h]
 exact if_neg (by decide)
theorem RelO.isSome_eq {o : Option V} {u : Option Value} (r : RelO o u) : o.isSome = u.isSome := by
 cases o with
 | none => cases u with
  | none => rfl
  | some _ => exact (show False from r).elim
 | some _ => cases u with
  | none => exact (show False from r).elim
  | some _ => rfl
theorem KV.val {kvs : List (κ × V)} {vs : List (κ × Value)} (r : KV kvs vs) (k : κ) : RelO (valV kvs k) (valueAt vs k) := by
 unfold KV at r
 induction r with
 | nil => exact True.intro
 | @cons p q ps qs h t ih =>
  obtain ⟨h1, h2⟩ := h
  by_cases e : p.1 = k
  . have e' : q.1 = k := h1.symm.trans e
    have b : valueAt (q :: qs) k = some q.2 := by simp [valueAt, find?_cons, e']
    rw [valV_pos e, b]; exact h2
  . have e' : ¬ q.1 = k := fun z => e (h1.trans z)
    have b : valueAt (q :: qs) k = valueAt qs k := by simp [valueAt, find?_cons, e']
    rw [valV_neg e, b]; exact ih
theorem KV.any {kvs : List (κ × V)} {vs : List (κ × Value)} (r : KV kvs vs) (k : κ) : (kvs.any fun kv => decide (kv.1 = k)) = vs.any fun kv => decide (kv.1 = k) := by
 unfold KV at r
 induction r with
 | nil => rfl
 | cons h t ih => rw [List.any_cons, List.any_cons, ih, h.1]
theorem KV.repl {kvs : List (κ × V)} {vs : List (κ × Value)} (r : KV kvs vs) (k : κ) {y : V} {u : Value} (ry : RelV y u) :
 KV (kvs.map fun kv => if kv.1 = k then (kv.1, y) else kv) (vs.map fun kv => if kv.1 = k then (kv.1, u) else kv) := by
 unfold KV at r ⊢
 induction r with
 | nil => exact .nil
 | @cons p q ps qs h t ih =>
  rw [map_cons, map_cons]
  refine .cons ?_ ih
  obtain ⟨h1, h2⟩ := h
  by_cases e : p.1 = k
  . rw [if_pos e, if_pos (h1.symm.trans e)]; exact ⟨h1, ry⟩
  . rw [if_neg e, if_neg (fun z => e (h1.trans z))]; exact ⟨h1, h2⟩
theorem KV.put {kvs : List (κ × V)} {vs : List (κ × Value)} (r : KV kvs vs) (k : κ) {y : V} {u : Value} (ry : RelV y u) : KV (putK kvs k y) (stored vs k u) := by
 unfold putK stored
 rw [r.any k]
 by_cases e : (vs.any fun kv => decide (kv.1 = k)) = true
 . rw [if_pos e, if_pos e]; exact r.repl k ry
 . rw [if_neg e, if_neg e]; exact Paired.snoc r ⟨rfl, ry⟩
theorem KV.length {kvs : List (κ × V)} {vs : List (κ × Value)} (r : KV kvs vs) : kvs.length = vs.length := Paired.length r
end
theorem kV_is {P : Program} {w : World} {k : Key} {u : Value} (r : RelV (kV k) u) : (mixKind P w).is k u = true := by
 cases k with
 | inl i => obtain ⟨t, e⟩ := (show ∃ t, u = Value.int i t from r); subst e; exact mixKind_int P w i t
 | inr x => obtain ⟨t, e⟩ := (show ∃ t, u = Value.str x t from r); subst e; exact mixKind_str P w x t
theorem kV_inj {a b : Key} (e : kV a = kV b) : a = b := by
 cases a with
 | inl i => cases b with
  | inl j => have e' : V.int i = V.int j := e; injection e' with e'; rw [e']
  | inr y => exact nomatch (show V.int i = V.str y from e)
 | inr x => cases b with
  | inl j => exact nomatch (show V.str x = V.int j from e)
  | inr y => have e' : V.str x = V.str y := e; injection e' with e'; rw [e']
theorem kVs_inj : ∀ {a b : List Key}, a.map kV = b.map kV -> a = b
 | [], [], _ => rfl
 | [], _ :: _, e => by simp at e
 | _ :: _, [], e => by simp at e
 | x :: xs, y :: ys, e => by
  rw [map_cons, map_cons] at e
  injection e with e1 e2
  rw [kV_inj e1, kVs_inj e2]
theorem items_are {P : Program} {w : World} : ∀ {ks : List Key} {us : List Value}, Vals (ks.map kV) us -> ItemsAre (mixKind P w) ks us
 | [], _, r => by rw [map_nil] at r; cases r; exact .nil
 | k :: ks, _, r => by
  rw [map_cons] at r
  cases r with
  | cons h t => exact .cons (kV_is h) (items_are t)
abbrev KT (H : Hp) : List (List Key × V) -> List (List Key × Addr × Value) -> Prop := Paired fun p q => p.1 = q.1 /\ H q.2.1 = some (.tup (p.1.map kV)) /\ RelV p.2 q.2.2
theorem KT.val {H : Hp} {kvs : List (List Key × V)} {xs : List (List Key × Addr × Value)} (r : KT H kvs xs) (k : List Key) : RelO (valV kvs k) ((atKey xs k).map (·.2)) := by
 induction r with
 | nil => exact True.intro
 | @cons p q ps qs h t ih =>
  obtain ⟨h1, _, h2⟩ := h
  by_cases e : p.1 = k
  . have e' : q.1 = k := h1.symm.trans e
    have b : atKey (q :: qs) k = some q.2 := by simp [atKey, find?_cons, e']
    rw [valV_pos e, b]; exact h2
  . have e' : ¬ q.1 = k := fun z => e (h1.trans z)
    have b : atKey (q :: qs) k = atKey qs k := by simp [atKey, find?_cons, e']
    rw [valV_neg e, b]; exact ih
theorem KT.repl {H : Hp} {kvs : List (List Key × V)} {xs : List (List Key × Addr × Value)} (r : KT H kvs xs) (k : List Key) {y : V} {u : Value} (ry : RelV y u) :
 KT H (kvs.map fun kv => if kv.1 = k then (kv.1, y) else kv) (xs.map (putAt k u)) := by
 induction r with
 | nil => exact .nil
 | @cons p q ps qs h t ih =>
  rw [map_cons, map_cons]
  refine .cons ?_ ih
  obtain ⟨h1, h2, h3⟩ := h
  unfold putAt
  by_cases e : p.1 = k
  . rw [if_pos e, if_pos (h1.symm.trans e)]; exact ⟨h1, h2, ry⟩
  . rw [if_neg e, if_neg (fun z => e (h1.trans z))]; exact ⟨h1, h2, h3⟩
theorem KT.put {H : Hp} {kvs : List (List Key × V)} {xs : List (List Key × Addr × Value)} (r : KT H kvs xs) (k : List Key) {b : Addr} {y : V} {u : Value} (hb : H b = some (.tup (k.map kV))) (ry : RelV y u) :
 KT H (putK kvs k y) (storedH xs k b u) := by
 have e : (kvs.any fun kv => decide (kv.1 = k)) = (atKey xs k).isSome := by
  rw [valV_any, (r.val k).isSome_eq, Option.isSome_map]
 unfold putK storedH
 rw [e]
 by_cases q : (atKey xs k).isSome = true
 . rw [if_pos q, if_pos q]; exact r.repl k ry
 . rw [if_neg q, if_neg q]; exact Paired.snoc r ⟨rfl, hb, ry⟩
theorem KT.keeps {H H' : Hp} {kvs : List (List Key × V)} {xs : List (List Key × Addr × Value)} (r : KT H kvs xs) (ht : ∀ b ys, H b = some (.tup ys) -> H' b = some (.tup ys)) : KT H' kvs xs :=
 Paired.mapP r fun _ _ z => ⟨z.1, ht _ _ z.2.1, z.2.2⟩
section
variable {P : Program} {w : World} {H : Hp} {h : Heap} {a : Addr}
theorem rd_of {u : HO} (ok : HOk P w H h) (e : Rd H a u) : ObjOk P w H h a u := e.ok ok
theorem dk_rd {kvs : List (Key × V)} (ok : HOk P w H h) (e : Rd H a (.dK kvs)) : kvs.length <= sizeLine /\ (a == sysModules) = false /\ ∃ vs, KV kvs vs /\ h.DictOf (mixKind P w) a vs :=
 show ObjOk P w H h a (.dK kvs) from rd_of ok e
theorem dk_of {kvs : List (Key × V)} (ok : HOk P w H h) (e : H a = some (.dK kvs)) : kvs.length <= sizeLine /\ (a == sysModules) = false /\ ∃ vs, KV kvs vs /\ h.DictOf (mixKind P w) a vs := dk_rd ok (.inl e)
theorem key_of {ks : List Key} (ok : HOk P w H h) (e : H a = some (.tup (ks.map kV))) : (tupleKind (mixKind P w)).is h ks a := by
 obtain ⟨_, its, r, o, h1, h2, n, h3⟩ := (show ObjOk P w H h a (.tup (ks.map kV)) from ok a _ e)
 exact ⟨o, its.toArray, n, h1, h2, h3, by simpa using items_are r⟩
theorem dt_rd {kvs : List (List Key × V)} (ok : HOk P w H h) (e : Rd H a (.dT kvs)) : kvs.length <= sizeLine /\ (a == sysModules) = false /\
 ∃ xs, KT H kvs xs /\ h.DictOfH (tupleKind (mixKind P w)) a xs := by
 obtain ⟨z, y, xs, r, o, es, ep, h1, h2, h3, h4, h5⟩ := (show ObjOk P w H h a (.dT kvs) from rd_of ok e)
 refine ⟨z, y, xs, r, o, es, ep, h1, h2, h3, h4, fun x hx => ?_, h5⟩
 have all : ∀ {l : List (List Key × V)} {m : List (List Key × Addr × Value)}, KT H l m -> ∀ x ∈ m, (tupleKind (mixKind P w)).is h x.1 x.2.1 := by
  intro l m q
  induction q with
  | nil => intro x hx; exact nomatch hx
  | @cons p q ps qs hq t ih =>
   intro x hx
   rcases mem_cons.mp hx with e | hx
   . subst e
     exact key_of ok (by rw [<- hq.1]; exact hq.2.1)
   . exact ih x hx
 exact all r x hx
theorem dt_of {kvs : List (List Key × V)} (ok : HOk P w H h) (e : H a = some (.dT kvs)) : kvs.length <= sizeLine /\ (a == sysModules) = false /\
 ∃ xs, KT H kvs xs /\ h.DictOfH (tupleKind (mixKind P w)) a xs := dt_rd ok (.inl e)
end
def DGet (H : Hp) (a : Addr) (y : V) (r : Option V) : Prop :=
 (∃ kvs k, Rd H a (.dK kvs) /\ y = kV k /\ r = valV kvs k) \/ ∃ kvs k b, Rd H a (.dT kvs) /\ y = .ref b /\ H b = some (.tup (k.map kV)) /\ r = valV kvs k
def DPut (H : Hp) (a : Addr) (y v : V) (H' : Hp) : Prop :=
 (∃ kvs k, H a = some (.dK kvs) /\ y = kV k /\ kvs.length < sizeLine /\ H' = upd H a (.dK (putK kvs k v))) \/
 ∃ kvs k b, H a = some (.dT kvs) /\ y = .ref b /\ H b = some (.tup (k.map kV)) /\ kvs.length < sizeLine /\ H' = upd H a (.dT (putK kvs k v))
theorem DGet.k {H : Hp} {a : Addr} {kvs : List (Key × V)} {k : Key} (e : H a = some (.dK kvs)) : DGet H a (kV k) (valV kvs k) := .inl ⟨kvs, k, .inl e, rfl, rfl⟩
theorem DGet.t {H : Hp} {a b : Addr} {kvs : List (List Key × V)} {k : List Key} (e : H a = some (.dT kvs)) (eb : H b = some (.tup (k.map kV))) : DGet H a (.ref b) (valV kvs k) := .inr ⟨kvs, k, b, .inl e, rfl, eb, rfl⟩
theorem DPut.k {H : Hp} {a : Addr} {kvs : List (Key × V)} {k : Key} {v : V} (e : H a = some (.dK kvs)) (hl : kvs.length < sizeLine) : DPut H a (kV k) v (upd H a (.dK (putK kvs k v))) := .inl ⟨kvs, k, e, rfl, hl, rfl⟩
theorem DPut.t {H : Hp} {a b : Addr} {kvs : List (List Key × V)} {k : List Key} {v : V} (e : H a = some (.dT kvs)) (eb : H b = some (.tup (k.map kV))) (hl : kvs.length < sizeLine) :
 DPut H a (.ref b) v (upd H a (.dT (putK kvs k v))) := .inr ⟨kvs, k, b, e, rfl, eb, hl, rfl⟩
section
variable {X : Cx} {pins : List (Addr × Obj)} {σ : St} {H : Hp} {s : Shared} {a : Addr} {y v : V} {u r : Value} {o : Option V} {A : Around} {E : Value -> Shared -> Prop}
theorem Inv.big (I : Inv X pins σ H s) : sysModules < s.heap.objs.size := by
 have h : mainGlobals < s.heap.objs.size := (I.mod.glob.keeps I.bk).lt
 exact Nat.lt_trans (by decide) h
theorem d_getItem {Q : Value -> Shared -> Prop} (hu : A.units + 1 < cLine) (I : Inv X pins σ H s) (g : DGet H a y (some v)) (ry : RelV y u) (h : ∀ w' s', Inv X pins σ H s' -> RelV v w' -> Q w' s') :
 wpAny (model X.prog X.w) A (getItem (.ref a) u) Q E s := by
 rcases g with ⟨kvs, k, e, ey, l⟩ | ⟨kvs, k, b, e, ey, eb, l⟩
 . subst ey
   obtain ⟨z, hd, vs, rel, dd⟩ := dk_rd I.hok e
   obtain ⟨w', hw, rw'⟩ := RelO.some_of (v := v) (o := valueAt vs k) (by rw [l]; exact rel.val k)
   exact wpAny_getItem_of (kV_is ry) dd.mapOf hw (h w' _ (I.tok _) rw')
 . subst ey
   cases (show u = Value.ref b from ry)
   obtain ⟨z, hd, xs, rel, dd⟩ := dt_rd I.hok e
   obtain ⟨w', hw, rw'⟩ := RelO.some_of (v := v) (o := (atKey xs k).map (·.2)) (by rw [l]; exact rel.val k)
   obtain ⟨p, hp, hp2⟩ := Option.map_eq_some_iff.mp hw
   refine wpAny_getItem_heap (tupleKind_room_in1 hu) (key_of I.hok eb) dd hp ?_
   rw [hp2]
   exact h w' _ (I.tok _) rw'
theorem d_notIn {Q : Value -> Shared -> Prop} (hu : A.units + 1 < cLine) (I : Inv X pins σ H s) (g : DGet H a y o) (ry : RelV y u) (h : ∀ s', Inv X pins σ H s' -> Q (.bool (!o.isSome)) s') :
 wpAny (model X.prog X.w) A (compareOp .NotIn u (.ref a)) Q E s := by
 rcases g with ⟨kvs, k, e, ey, l⟩ | ⟨kvs, k, b, e, ey, eb, l⟩
 . subst ey
   obtain ⟨z, hd, vs, rel, dd⟩ := dk_rd I.hok e
   refine wpAny_notIn_of (kV_is ry) hd dd.mapOf ?_
   rw [<- (rel.val k).isSome_eq, <- l]
   exact h _ (I.tok _)
 . subst ey
   cases (show u = Value.ref b from ry)
   obtain ⟨z, hd, xs, rel, dd⟩ := dt_rd I.hok e
   refine wpAny_notIn_heap (tupleKind_room_in1 hu) (key_of I.hok eb) hd dd ?_
   have q := (rel.val k).isSome_eq
   rw [Option.isSome_map] at q
   rw [<- q, <- l]
   exact h _ (I.tok _)
theorem d_write {h' : Heap} {t' : Nat} {ob : HO} (I : Inv X pins σ H s) (mu : Mut (H a)) (hs : Heap.SameBut a s.heap h') (he : ∃ q, h'.get? a = some q) (new : ObjOk X.prog X.w (upd H a ob) h' a ob) :
 Inv X pins σ (upd H a ob) { s with heap := h', toks := t' } :=
 I.write (x := a) (e := a) mu (.inl rfl) (fun b q hb z => (hs.2 b hb).trans z) he new
theorem dk_new {P : Program} {w : World} {H' : Hp} {h' : Heap} {kvs : List (Key × V)} {vs : List (Key × Value)} (z : kvs.length <= sizeLine) (hd : (a == sysModules) = false) (rel : KV kvs vs) (dd : h'.DictOf (mixKind P w) a vs) :
 ObjOk P w H' h' a (.dK kvs) := ⟨z, hd, vs, rel, dd⟩
theorem d_setItem {H' : Hp} {Q : Unit -> Shared -> Prop} (hu : A.units + 1 < cLine) (I : Inv X pins σ H s) (g : DPut H a y v H') (ry : RelV y u) (rv : RelV v r) (h : ∀ s', Inv X pins σ H' s' -> Q () s') :
 wpAny (model X.prog X.w) A (setItem (.ref a) u r) Q E s := by
 rcases g with ⟨kvs, k, e, ey, l, eH⟩ | ⟨kvs, k, b, e, ey, eb, l, eH⟩
 . subst ey eH
   obtain ⟨z, hd, vs, rel, dd⟩ := dk_of I.hok e
   have hz : vs.length <= sizeLine := by rw [<- rel.length]; exact z
   have hl : (putK kvs k v).length <= sizeLine := by have := length_putK kvs k v; omega
   refine wpAny_setItem_pairs (hsz := hz) (kV_is ry) dd fun h' dd' hs => h _ ?_
   have he : ∃ q, h'.get? a = some q := let ⟨q, _, _, hq, _⟩ := dd'; ⟨q, hq⟩
   exact d_write I (by rw [e]; exact True.intro) hs he (dk_new hl hd (rel.put k rv) dd')
 . subst ey eH
   cases (show u = Value.ref b from ry)
   obtain ⟨z, hd, xs, rel, dd⟩ := dt_of I.hok e
   have hz : xs.length <= sizeLine := by rw [<- Paired.length rel]; exact z
   have hl : (putK kvs k v).length <= sizeLine := by have := length_putK kvs k v; omega
   refine wpAny_setItem_heap (hsz := hz) (tupleKind_room_in1 hu) (key_of I.hok eb) dd fun h' dd' hs => h _ ?_
   obtain ⟨q, es, ep, hq, h2, h3, h4, _, h5⟩ := dd'
   refine d_write I (by rw [e]; exact True.intro) hs ⟨q, hq⟩ ⟨hl, hd, _, (rel.put k eb rv).keeps fun c ys ec => ?_, q, es, ep, hq, h2, h3, h4, h5⟩
   rw [upd_ne (ne_of ec e (fun z => nomatch z))]
   exact ec
end
def NoSl (i : Expr) : Prop := ∀ ov iv, subscripted i false ov iv = operate [ov, iv] (getItem ov iv)
theorem subD_of {prog : Program} {w : World} {A : Around} {E : Value -> Shared -> Prop} {s : Shared} {env : Env} {value slice : Expr} {pos : Pos} {T id : String} {Q : Value -> Shared -> Prop}
 (hl : typeLookup (.type T) "__getitem__" = pure (some (.builtin id))) (hs : NoSl slice)
 (h : wpAny (model prog w) A (eval value env) (fun o s₁ => wpAny (model prog w) A (eval slice env) (fun i s₂ => s₂.TypeIs o T /\ wpAny (model prog w) A (getItem o i) Q E s₂) E s₁) E s) :
 wpAny (model prog w) A (eval (.Subscript value slice pos) env) Q E s := by
 refine Subscript_ (wpAny_mono h (fun o s₁ h₁ => wpAny_mono h₁ (fun i s₂ h₂ => ?_) fun _ _ x => x) fun _ _ x => x)
 obtain ⟨hT, h₂⟩ := h₂
 unfold subscriptTail
 refine wpAny_bind ?_
 rw [getitemInPython_of_ne hT.not_modules]
 refine wpAny_bind (wpAny_specialOf hT hl ?_)
 have fin : wpAny (model prog w) A (subscripted slice false o i) (fun r s₃ => wpAny (model prog w) A (letTemporaryGo value o r >>= fun _ => pure r) Q E s₃) E s₂ := by
  rw [hs o i]
  exact wpAny_operating (wpAny_mono h₂ (fun r s₃ h₃ => wpAny_bind (wpAny_letTemporaryGo (wpAny_pure h₃))) fun _ _ x => x)
 first
  | exact wpAny_pure (wpAny_bind fin)
  | exact wpAny_bind (wpAny_pure (wpAny_bind fin))
  | exact wpAny_bind fin
theorem dict_typeIs {X : Cx} {pins : List (Addr × Obj)} {σ : St} {H : Hp} {s : Shared} {a : Addr} {y : V} {o : Option V} (I : Inv X pins σ H s) (g : DGet H a y o) : s.TypeIs (.ref a) "dict" := by
 rcases g with ⟨kvs, k, e, _, _⟩ | ⟨kvs, k, b, e, _, _, _⟩
 . obtain ⟨_, _, vs, _, dd⟩ := dk_rd I.hok e
   exact dd.typeIs
 . obtain ⟨_, _, xs, _, dd⟩ := dt_rd I.hok e
   exact dd.typeIs
def tDGet (td ty : TE) : TE := fun σ H Q => td σ H fun x H1 => ty σ H1 fun y H2 => ∃ a v, x = .ref a /\ DGet H2 a y (some v) /\ Q v H2
def tDNotIn (ty td : TE) : TE := fun σ H Q => ty σ H fun y H1 => td σ H1 fun x H2 => ∃ a o, x = .ref a /\ DGet H2 a y o /\ Q (.bl (!o.isSome)) H2
def sDPut (td ty tv : TE) : TS := fun D σ H => tv σ H fun v H1 => td σ H1 fun x H2 => ty σ H2 fun y H3 => ∃ a H4, x = .ref a /\ DPut H3 a y v H4 /\ D.nx σ H4
section
variable {X : Cx} {o i e value : Expr} {pos pos' tpos : Pos} {td ty tv : TE}
theorem pe_dget (hu : X.A.units + 1 < cLine) (ho : PE X o td) (hi : PE X i ty) (hs : NoSl i) : PE X (.Subscript o i pos) (tDGet td ty) := by
 intro pins s σ H Q I h
 refine subD_of PySem.F.slot_dict_getitem.lookup hs (thn (ho pins s σ H _ I h) fun u s1 ⟨x, H1, I1, rx, q1⟩ => thn (hi pins s1 σ H1 _ I1 q1) fun iv s2 ⟨y, H2, I2, ry, a, v, ex, g, q2⟩ => ?_)
 subst ex
 obtain rfl : u = Value.ref a := rx
 exact ⟨dict_typeIs I2 g, d_getItem hu I2 g ry fun w' s3 I3 rw' => ⟨v, H2, I3, rw', q2⟩⟩
theorem pc_dnotin (hu : X.A.units + 1 < cLine) (hi : PE X i ty) (ho : PE X o td) : PC X .NotIn i o (tDNotIn ty td) := by
 intro pins s σ H Q I h
 refine thn (hi pins s σ H _ I h) fun iv s1 ⟨y, H1, I1, ry, q1⟩ => thn (ho pins s1 σ H1 _ I1 q1) fun u s2 ⟨x, H2, I2, rx, a, ov, ex, g, q2⟩ => ?_
 subst ex
 obtain rfl : u = Value.ref a := rx
 exact d_notIn hu I2 g ry fun s3 I3 => ⟨.bl (!ov.isSome), H2, I3, rfl, q2⟩
theorem ps_dput (hu : X.A.units + 1 < cLine) (ho : PE X o td) (hi : PE X i ty) (hv : PE X value tv) (hs : swapsWith value (some (.Subscript o i pos')) pos.line X.env = pure false) :
 PS X (.Assign [.Subscript o i pos'] value pos) (sDPut td ty tv) := by
 intro pins s σ H D I h
 refine wpAny_Assign_Subscript (thn (hv pins s σ H _ I h) fun r s1 ⟨v, H1, I1, rv, q1⟩ => thn (ho pins s1 σ H1 _ I1 q1) fun u s2 ⟨x, H2, I2, rx, q2⟩ => thn (hi pins s2 σ H2 _ I2 q2) fun iv s3 ⟨y, H3, I3, ry, a, H4, ex, g, q3⟩ => ?_) hs
 subst ex
 obtain rfl : u = Value.ref a := rx
 exact d_setItem hu I3 g ry rv fun s4 I4 => ⟨σ, H4, I4, q3⟩
end
theorem dt_empty {P : Program} {w : World} {H : Hp} (h : Heap) (hb : sysModules < h.objs.size) : ObjOk P w H (h.push { cls := .type "dict", data := .dict #[] }) h.objs.size (.dT []) :=
 ⟨Nat.zero_le _, beq_eq_false_iff_ne.mpr (Ne.symm (Nat.ne_of_lt hb)), [], .nil, _, #[], 0, get?_push_size _ rfl, ⟨rfl, rfl, rfl⟩, rfl, rfl, List.nodup_nil⟩
def tDNewT : TE := fun _ H Q => ∀ p, H p = none -> Q (.ref p) (upd H p (.dT []))
section
variable {X : Cx} {pos : Pos}
theorem pe_dnewT : PE X (.Dict [] [] pos) tDNewT := fun pins s σ H Q I h =>
 wpAny_Dict_empty ⟨.ref s.heap.objs.size, _, I.laid (a := s.heap.objs.size) (o := .dT []) (t' := s.toks) (fun _ _ q => get?_push_of_some _ q) (Nat.le_refl _) (dt_empty s.heap I.big), rfl, h _ (I.hok.fresh (Nat.le_refl _))⟩
end
end L2
namespace Y.DEq
open PySem PySem.SeqAt PySem.MeetsSeq PySem.AutoSeq1
abbrev dob (dd : Option Addr) (es : Array DictEntry) (n : Nat) (sl : Array (Option Value)) : Obj := ⟨.type "dict", dd, .dict es n, sl⟩
abbrev lob (T : String) (dd : Option Addr) (xs : Array Value) (n : Nat) (sl : Array (Option Value)) : Obj := ⟨.type T, dd, .seq xs n, sl⟩
section
variable (l b : Addr) (es : Array DictEntry) (xs : Array Value) (n m : Nat) (dd de : Option Addr) (sl sm : Array (Option Value)) (q : Bool) (i : Int) (z : Str) (t : Tok)
theorem dict_none : Meets (Builtin.«dict.__eq__» ⟨[.ref l, .none], []⟩) (fun _ R s => s.heap.get? l = some (dob dd es n sl) /\ R (.ok (.ret .notImplemented)) s) :=
 .of_wp fun prog w A R s h => by
  obtain ⟨hp, g, d, tk, os⟩ := s
  obtain ⟨hl, h⟩ := h
  have f1 := F.sub_NoneType_dict
  wp_walk using wpAny_loadPart' hl
  exact ⟨_, rfl, h⟩
theorem dict_bool : Meets (Builtin.«dict.__eq__» ⟨[.ref l, .bool q], []⟩) (fun _ R s => s.heap.get? l = some (dob dd es n sl) /\ R (.ok (.ret .notImplemented)) s) :=
 .of_wp fun prog w A R s h => by
  obtain ⟨hp, g, d, tk, os⟩ := s
  obtain ⟨hl, h⟩ := h
  have f1 := F.sub_bool_dict
  wp_walk using wpAny_loadPart' hl
  exact ⟨_, rfl, h⟩
theorem dict_int : Meets (Builtin.«dict.__eq__» ⟨[.ref l, .int i t], []⟩) (fun _ R s => s.heap.get? l = some (dob dd es n sl) /\ R (.ok (.ret .notImplemented)) s) :=
 .of_wp fun prog w A R s h => by
  obtain ⟨hp, g, d, tk, os⟩ := s
  obtain ⟨hl, h⟩ := h
  have f1 := F.sub_int_dict
  wp_walk using wpAny_loadPart' hl
  exact ⟨_, rfl, h⟩
theorem dict_str : Meets (Builtin.«dict.__eq__» ⟨[.ref l, .str z t], []⟩) (fun _ R s => s.heap.get? l = some (dob dd es n sl) /\ R (.ok (.ret .notImplemented)) s) :=
 .of_wp fun prog w A R s h => by
  obtain ⟨hp, g, d, tk, os⟩ := s
  obtain ⟨hl, h⟩ := h
  have f1 := F.sub_str_dict
  wp_walk using wpAny_loadPart' hl
  exact ⟨_, rfl, h⟩
theorem dict_list : Meets (Builtin.«dict.__eq__» ⟨[.ref l, .ref b], []⟩) (fun _ R s => s.heap.get? l = some (dob dd es n sl) /\ s.heap.get? b = some (lob "list" de xs m sm) /\ R (.ok (.ret .notImplemented)) s) :=
 .of_wp fun prog w A R s h => by
  obtain ⟨hp, g, d, tk, os⟩ := s
  obtain ⟨hl, hb, h⟩ := h
  have f1 := F.sub_list_dict
  wp_walk using wpAny_loadPart' hl, wpAny_loadPart' hb
  exact ⟨_, rfl, h⟩
theorem list_dict : Meets (Builtin.«list.__eq__» ⟨[.ref b, .ref l], []⟩) (fun _ R s => s.heap.get? l = some (dob dd es n sl) /\ s.heap.get? b = some (lob "list" de xs m sm) /\ R (.ok (.ret .notImplemented)) s) :=
 .of_wp fun prog w A R s h => by
  obtain ⟨hp, g, d, tk, os⟩ := s
  obtain ⟨hl, hb, h⟩ := h
  have f1 := F.sub_dict_list
  wp_walk using wpAny_loadPart' hl, wpAny_loadPart' hb
  exact ⟨_, rfl, h⟩
theorem dict_tuple : Meets (Builtin.«dict.__eq__» ⟨[.ref l, .ref b], []⟩) (fun _ R s => s.heap.get? l = some (dob dd es n sl) /\ s.heap.get? b = some (lob "tuple" de xs m sm) /\ R (.ok (.ret .notImplemented)) s) :=
 .of_wp fun prog w A R s h => by
  obtain ⟨hp, g, d, tk, os⟩ := s
  obtain ⟨hl, hb, h⟩ := h
  have f1 := F.sub_tuple_dict
  wp_walk using wpAny_loadPart' hl, wpAny_loadPart' hb
  exact ⟨_, rfl, h⟩
theorem tuple_dict : Meets (Builtin.«tuple.__eq__» ⟨[.ref b, .ref l], []⟩) (fun _ R s => s.heap.get? l = some (dob dd es n sl) /\ s.heap.get? b = some (lob "tuple" de xs m sm) /\ R (.ok (.ret .notImplemented)) s) :=
 .of_wp fun prog w A R s h => by
  obtain ⟨hp, g, d, tk, os⟩ := s
  obtain ⟨hl, hb, h⟩ := h
  have f1 := F.sub_dict_tuple
  wp_walk using wpAny_loadPart' hl, wpAny_loadPart' hb
  exact ⟨_, rfl, h⟩
theorem bool_dict : Meets (Builtin.«int.__eq__» ⟨[.bool q, .ref l], []⟩) (fun _ R s => s.heap.get? l = some (dob dd es n sl) /\ R (.ok (.ret .notImplemented)) s) :=
 .of_wp fun prog w A R s h => by
  obtain ⟨hp, g, d, tk, os⟩ := s
  obtain ⟨hl, h⟩ := h
  wp_walk using wpAny_loadPart' hl, wpAny_load hl
  exact ⟨_, rfl, h⟩
theorem int_dict : Meets (Builtin.«int.__eq__» ⟨[.int i t, .ref l], []⟩) (fun _ R s => s.heap.get? l = some (dob dd es n sl) /\ R (.ok (.ret .notImplemented)) s) :=
 .of_wp fun prog w A R s h => by
  obtain ⟨hp, g, d, tk, os⟩ := s
  obtain ⟨hl, h⟩ := h
  wp_walk using wpAny_loadPart' hl, wpAny_load hl
  exact ⟨_, rfl, h⟩
theorem str_dict : Meets (Builtin.«str.__eq__» ⟨[.str z t, .ref l], []⟩) (fun _ R s => s.heap.get? l = some (dob dd es n sl) /\ R (.ok (.ret .notImplemented)) s) :=
 .of_wp fun prog w A R s h => by
  obtain ⟨hp, g, d, tk, os⟩ := s
  obtain ⟨hl, h⟩ := h
  wp_walk using wpAny_loadPart' hl, wpAny_load hl
  exact ⟨_, rfl, h⟩
end
def IsDct (h : Heap) (a : Addr) : Prop := ∃ dd es n sl, h.get? a = some (dob dd es n sl)
section
variable {A : Around} {s : Shared} {l b : Addr}
theorem rc_none  (hl : IsDct s.heap l) (hu : A.units < cLine) : RcAt A s (.none) (.ref l) false := fun prog w E Q h => by
 obtain ⟨dd, es, n, sl, ho⟩ := hl
 refine rc_eq_decline_or (k := false) (Ta := "NoneType") (rfl) ⟨_, ho, rfl⟩ (by decide) F.sub_dict_NoneType F.slot_NoneType_eq F.slot_dict_eq_refl (fun _ hq => ?_) (fun _ hq => ?_) (fun _ hq => wpAny_of_eq (rfl : isSame (.none) (.ref l) = pure false) hq) (.inr hu) h
 . exact call_gives F.slot_NoneType_eq rfl F.entry_NoneType_eq (F.args_NoneType_eq_2 _ _) (NoneType___eq___none_ref_0 l) hq
 . exact call_meets F.slot_dict_eq_refl ⟨_, ho, rfl⟩ F.entry_dict_eq (F.args_dict_eq_2 _ _) (dict_none l es n dd sl) ⟨ho, hq⟩
theorem at_none  (hl : IsDct s.heap l) (hu : A.units < cLine) : EqAt A s (.none) (.ref l) false := fun prog w E Q h => by
 unfold eqBool
 refine wpAny_holding (wpAny_ite_split (fun hab => absurd (eq_of_beq hab) nofun) fun _ => ?_)
 exact wpAny_bind (rc_none  hl hu prog w E _ (wpAny_truthy_bool h))
theorem rc_bool (q : Bool) (hl : IsDct s.heap l) (hu : A.units < cLine) : RcAt A s (.bool q) (.ref l) false := fun prog w E Q h => by
 obtain ⟨dd, es, n, sl, ho⟩ := hl
 refine rc_eq_decline_or (k := false) (Ta := "bool") (rfl) ⟨_, ho, rfl⟩ (by decide) F.sub_dict_bool F.slot_bool_eq F.slot_dict_eq_refl (fun _ hq => ?_) (fun _ hq => ?_) (fun _ hq => wpAny_of_eq (rfl : isSame (.bool q) (.ref l) = pure false) hq) (.inr hu) h
 . exact call_meets F.slot_bool_eq rfl F.entry_int_eq (F.args_int_eq_2 _ _) (bool_dict l es n dd sl q) ⟨ho, hq⟩
 . exact call_meets F.slot_dict_eq_refl ⟨_, ho, rfl⟩ F.entry_dict_eq (F.args_dict_eq_2 _ _) (dict_bool l es n dd sl q) ⟨ho, hq⟩
theorem at_bool (q : Bool) (hl : IsDct s.heap l) (hu : A.units < cLine) : EqAt A s (.bool q) (.ref l) false := fun prog w E Q h => by
 unfold eqBool
 refine wpAny_holding (wpAny_ite_split (fun hab => absurd (eq_of_beq hab) nofun) fun _ => ?_)
 exact wpAny_bind (rc_bool q hl hu prog w E _ (wpAny_truthy_bool h))
theorem rc_int (i : Int) (t : Tok) (hl : IsDct s.heap l) (hu : A.units < cLine) : RcAt A s (.int i t) (.ref l) false := fun prog w E Q h => by
 obtain ⟨dd, es, n, sl, ho⟩ := hl
 refine rc_eq_decline_or (k := false) (Ta := "int") (typeIs_int s i t) ⟨_, ho, rfl⟩ (by decide) F.sub_dict_int F.slot_int_eq F.slot_dict_eq_refl (fun _ hq => ?_) (fun _ hq => ?_) (fun _ hq => wpAny_of_eq (rfl : isSame (.int i t) (.ref l) = pure false) hq) (.inr hu) h
 . exact call_meets F.slot_int_eq (typeIs_int s i t) F.entry_int_eq (F.args_int_eq_2 _ _) (int_dict l es n dd sl i t) ⟨ho, hq⟩
 . exact call_meets F.slot_dict_eq_refl ⟨_, ho, rfl⟩ F.entry_dict_eq (F.args_dict_eq_2 _ _) (dict_int l es n dd sl i t) ⟨ho, hq⟩
theorem at_int (i : Int) (t : Tok) (hl : IsDct s.heap l) (hu : A.units < cLine) : EqAt A s (.int i t) (.ref l) false := fun prog w E Q h => by
 unfold eqBool
 refine wpAny_holding (wpAny_ite_split (fun hab => absurd (eq_of_beq hab) nofun) fun _ => ?_)
 exact wpAny_bind (rc_int i t hl hu prog w E _ (wpAny_truthy_bool h))
theorem rc_str (z : Str) (t : Tok) (hl : IsDct s.heap l) (hu : A.units < cLine) : RcAt A s (.str z t) (.ref l) false := fun prog w E Q h => by
 obtain ⟨dd, es, n, sl, ho⟩ := hl
 refine rc_eq_decline_or (k := false) (Ta := "str") (typeIs_str s z t) ⟨_, ho, rfl⟩ (by decide) F.sub_dict_str F.slot_str_eq F.slot_dict_eq_refl (fun _ hq => ?_) (fun _ hq => ?_) (fun _ hq => wpAny_of_eq (rfl : isSame (.str z t) (.ref l) = pure false) hq) (.inr hu) h
 . exact call_meets F.slot_str_eq (typeIs_str s z t) F.entry_str_eq (F.args_str_eq_2 _ _) (str_dict l es n dd sl z t) ⟨ho, hq⟩
 . exact call_meets F.slot_dict_eq_refl ⟨_, ho, rfl⟩ F.entry_dict_eq (F.args_dict_eq_2 _ _) (dict_str l es n dd sl z t) ⟨ho, hq⟩
theorem at_str (z : Str) (t : Tok) (hl : IsDct s.heap l) (hu : A.units < cLine) : EqAt A s (.str z t) (.ref l) false := fun prog w E Q h => by
 unfold eqBool
 refine wpAny_holding (wpAny_ite_split (fun hab => absurd (eq_of_beq hab) nofun) fun _ => ?_)
 exact wpAny_bind (rc_str z t hl hu prog w E _ (wpAny_truthy_bool h))
theorem ne_list {xs : Array Value} (hb : s.heap.IsList b xs) (hl : IsDct s.heap l) : b ≠ l := fun e => by
 subst e
 obtain ⟨o, ho, hc, _⟩ := hb
 obtain ⟨dd, es, n, sl, ho2⟩ := hl
 rw [ho] at ho2
 cases ho2
 exact absurd hc (by simp)
theorem rc_list {xs : Array Value} (hb : s.heap.IsList b xs) (hl : IsDct s.heap l) (hu : A.units < cLine) : RcAt A s (.ref b) (.ref l) false := fun prog w E Q h => by
 have hne := ne_list hb hl
 obtain ⟨dd, es, n, sl, ho⟩ := hl
 obtain ⟨⟨cls, de, data, sm⟩, hb1, hc, m, hd⟩ := id hb
 simp only at hc hd
 subst hc hd
 refine rc_eq_decline_or (k := false) (Ta := "list") ⟨_, hb1, rfl⟩ ⟨_, ho, rfl⟩ (by decide) F.sub_dict_list F.slot_list_eq F.slot_dict_eq_refl (fun _ hq => ?_) (fun _ hq => ?_) (fun _ hq => wpAny_isSame_ref_other hne hb1 ho (by simp) hq) (.inr hu) h
 . exact call_meets F.slot_list_eq ⟨_, hb1, rfl⟩ F.entry_list_eq (F.args_list_eq_2 _ _) (list_dict l b es xs n m dd de sl sm) ⟨ho, hb1, hq⟩
 . exact call_meets F.slot_dict_eq_refl ⟨_, ho, rfl⟩ F.entry_dict_eq (F.args_dict_eq_2 _ _) (dict_list l b es xs n m dd de sl sm) ⟨ho, hb1, hq⟩
theorem at_list {xs : Array Value} (hb : s.heap.IsList b xs) (hl : IsDct s.heap l) (hu : A.units < cLine) : EqAt A s (.ref b) (.ref l) false := .of_refs (ne_list hb hl) (rc_list hb hl hu)
theorem ne_tuple {xs : Array Value} (hb : s.heap.IsTuple b xs) (hl : IsDct s.heap l) : b ≠ l := fun e => by
 subst e
 obtain ⟨o, ho, hc, _⟩ := hb
 obtain ⟨dd, es, n, sl, ho2⟩ := hl
 rw [ho] at ho2
 cases ho2
 exact absurd hc (by simp)
theorem rc_tuple {xs : Array Value} (hb : s.heap.IsTuple b xs) (hl : IsDct s.heap l) (hu : A.units < cLine) : RcAt A s (.ref b) (.ref l) false := fun prog w E Q h => by
 have hne := ne_tuple hb hl
 obtain ⟨dd, es, n, sl, ho⟩ := hl
 obtain ⟨⟨cls, de, data, sm⟩, hb1, hc, m, hd⟩ := id hb
 simp only at hc hd
 subst hc hd
 refine rc_eq_decline_or (k := false) (Ta := "tuple") ⟨_, hb1, rfl⟩ ⟨_, ho, rfl⟩ (by decide) F.sub_dict_tuple F.slot_tuple_eq F.slot_dict_eq_refl (fun _ hq => ?_) (fun _ hq => ?_) (fun _ hq => wpAny_isSame_ref_other' hne hb1 ho (by simp) hq) (.inr hu) h
 . exact call_meets F.slot_tuple_eq ⟨_, hb1, rfl⟩ F.entry_tuple_eq (F.args_tuple_eq_2 _ _) (tuple_dict l b es xs n m dd de sl sm) ⟨ho, hb1, hq⟩
 . exact call_meets F.slot_dict_eq_refl ⟨_, ho, rfl⟩ F.entry_dict_eq (F.args_dict_eq_2 _ _) (dict_tuple l b es xs n m dd de sl sm) ⟨ho, hb1, hq⟩
theorem at_tuple {xs : Array Value} (hb : s.heap.IsTuple b xs) (hl : IsDct s.heap l) (hu : A.units < cLine) : EqAt A s (.ref b) (.ref l) false := .of_refs (ne_tuple hb hl) (rc_tuple hb hl hu)
end
end Y.DEq
namespace Y
open PySem PySem.Spec PyProof.Rows L2
abbrev St := L2.St
class Tabs where
 T : List (Addr × Str)
variable [Tabs]
def isT : HO -> Bool
 | .tbl _ => true
 | _ => false
def recO (c : Addr) (q : Str) : HO := .ext fun h => h.CodeRec (.ref c) q
def TabsOk (H : Hp) : Prop := ∀ P ∈ Tabs.T, ∃ ps, H P.1 = some (.tbl ps) /\ TriplesOk ps.toList /\ ∀ pos cv, codeAmong pos ps.toList = some cv -> ∃ c, cv = .ref c /\ H c = some (recO c P.2)
structure Same (H H' : Hp) : Prop where
 get : ∀ b o, H b = some o -> isT o = false -> H' b = some o
 tbl : ∀ b ps, H b = some (.tbl ps) -> ∃ ps', H' b = some (.tbl ps')
 tabs : TabsOk H -> TabsOk H'
theorem Same.at {H H' : Hp} (s : Same H H') {b : Addr} {o : HO} (h : H b = some o) (n : isT o = false := by rfl) : H' b = some o := s.get b o h n
theorem Same.refl (H : Hp) : Same H H := ⟨fun _ _ h _ => h, fun _ ps h => ⟨ps, h⟩, fun t => t⟩
theorem Same.trans {H H1 H2 : Hp} (a : Same H H1) (b : Same H1 H2) : Same H H2 :=
 ⟨fun c o h n => b.get c o (a.get c o h n) n, fun c ps h => let ⟨ps', e⟩ := a.tbl c ps h; b.tbl c ps' e, fun t => b.tabs (a.tabs t)⟩
theorem Same.free {H H' : Hp} (e : Same H H') {l : Addr} (h : H' l = Option.none) : H l = Option.none := by
 cases q : H l with
 | none => rfl
 | some o =>
  cases n : isT o with
  | false => rw [e.get l o q n] at h; cases h
  | true =>
   cases o with
   | tbl ps => obtain ⟨ps', z⟩ := e.tbl l ps q; rw [z] at h; cases h
   | _ => cases n
theorem Same.seq {K : Frag} {H H' : Hp} {a : Addr} {xs : List V} (e : Same H H') (h : SqL K H a xs) : SqL K H' a xs := by
 rcases h with (h | ⟨o, h⟩) | h
 . exact .inl (.inl (e.at h))
 . exact .inl (.inr ⟨o, e.at h⟩)
 . exact .inr h
inductive DO where
 | k (kvs : List (Key × V))
 | t (kvs : List (List Key × V))
def DO.ho : DO -> HO
 | .k kvs => .dK kvs
 | .t kvs => .dT kvs
inductive MO where
 | l (xs : List V)
 | d (o : DO)
 | i (C dx : Addr) (fs : List (Str × V))
def MO.ho : MO -> HO
 | .l xs => .lst xs
 | .d o => o.ho
 | .i C dx fs => .ins C dx fs
theorem MO.nt (o : MO) : isT o.ho = false := by
 rcases o with xs | (kvs | kvs) | _ <;> rfl
theorem DO.inj {o o' : DO} (h : o.ho = o'.ho) : o = o' := by
 cases o <;> cases o' <;> cases h <;> rfl
theorem MO.ntup (o : MO) {xs : List V} (h : o.ho = .tup xs) : False := by
 rcases o with xs | (kvs | kvs) | _ <;> cases h
theorem MO.nfrz (o : MO) {b : Obj} {u : HO} (h : o.ho = .frz b u) : False := by
 rcases o with xs | (kvs | kvs) | _ <;> cases h
theorem TabsOk.upd {H : Hp} {p : Addr} {o : HO} (h : H p = none \/ ∃ xs : MO, H p = some xs.ho) (t : TabsOk H) : TabsOk (upd H p o) := fun P hP => by
 obtain ⟨ps, e, tr, k⟩ := t P hP
 have ne : ∀ {b : Addr} {u : HO}, H b = some u -> (∀ xs : MO, u ≠ xs.ho) -> b ≠ p := fun {b u} q n z => by
  rcases h with h | ⟨xs, h⟩
  . rw [z, h] at q; cases q
  . rw [z, h] at q; exact n xs (Option.some.inj q).symm
 refine ⟨ps, by rw [upd_ne (ne e (by intro xs z; rcases xs with xs | (kvs | kvs) | _ <;> cases z))]; exact e, tr, fun pos cv q => ?_⟩
 obtain ⟨c, rfl, hc⟩ := k pos cv q
 exact ⟨c, rfl, by rw [upd_ne (ne hc (by intro xs z; rcases xs with xs | (kvs | kvs) | _ <;> cases z))]; exact hc⟩
theorem Same.writeM {H H' : Hp} {l : Addr} {xs : MO} {o : HO} (s : Same H H') (h : H l = none) (h' : H' l = some xs.ho) : Same H (upd H' l o) :=
 ⟨fun b u e n => by rw [upd_ne (ne_of_none e h)]; exact s.get b u e n, fun b ps e => by rw [upd_ne (ne_of_none e h)]; exact s.tbl b ps e, fun t => (s.tabs t).upd (.inr ⟨xs, h'⟩)⟩
theorem Same.write {H H' : Hp} {l : Addr} {xs : List V} {o : HO} (s : Same H H') (h : H l = none) (h' : H' l = some (.lst xs)) : Same H (upd H' l o) := s.writeM (xs := .l xs) h h'
inductive Sh where
 | k (ks : List Key)
 | t (ks : List (List Key))
 | o (C : Addr) (fs : List Str)
def Sh.at (H : Hp) (a : Addr) (xs : List V) : Sh -> Prop
 | .k ks => ks.length = xs.length /\ H a = some (.dK (ks.zip xs))
 | .t ks => ks.length = xs.length /\ H a = some (.dT (ks.zip xs))
 | .o C fs => fs.length = xs.length /\ ∃ dx, H a = some (.ins C dx (fs.zip xs))
theorem Sh.mo {H : Hp} {a : Addr} {xs : List V} {s : Sh} (h : s.at H a xs) : ∃ m : MO, H a = some m.ho /\ ∀ H' : Hp, H' a = some m.ho -> s.at H' a xs := by
 cases s with
 | k ks => exact ⟨.d (.k _), h.2, fun H' e => ⟨h.1, e⟩⟩
 | t ks => exact ⟨.d (.t _), h.2, fun H' e => ⟨h.1, e⟩⟩
 | o C fs =>
  obtain ⟨h1, dx, h2⟩ := h
  exact ⟨.i C dx _, h2, fun H' e => ⟨h1, dx, e⟩⟩
inductive D where
 | non
 | bl (b : Bool)
 | int (i : Int)
 | str (x : Str)
 | lst (ds : List D)
 | tup (ds : List D)
 | dct (o : DO)
 | ktup (ks : List Key)
 | agg (s : Sh) (ds : List D)
def kD : Key -> D
 | .inl i => .int i
 | .inr x => .str x
structure Zone where
 m : Bool
 S : Addr -> Prop
def RO (K : Frag) (H : Hp) (a : Addr) (xs : List V) : Prop :=
 (∃ o, H a = some (.frz o (.lst xs))) \/
  ∃ (o : Obj) (its : Array Value) (n : Nat), K.lookup a = some o /\ o.cls = .type "list" /\ o.dict = none /\ o.data = .seq its n /\ its.size <= sizeLine /\ Vals xs its.toList
def LstAt (K : Frag) (H : Hp) (Z : Zone) (a : Addr) (xs : List V) : Prop := (H a = some (.lst xs) /\ Z.S a) \/ (Z.m = false /\ RO K H a xs)
theorem LstAt.sq {K : Frag} {H : Hp} {Z : Zone} {a : Addr} {xs : List V} (h : LstAt K H Z a xs) : SqL K H a xs := by
 rcases h with ⟨h, _⟩ | ⟨_, h | h⟩
 . exact .inl (.inl h)
 . exact .inl (.inr h)
 . exact .inr h
def KTup (K : Frag) (a : Addr) (ks : List Key) : Prop := ∃ (o : Obj) (its : Array Value) (n : Nat), K.lookup a = some o /\ o.cls = .type "tuple" /\ o.data = .seq its n /\ its.size <= sizeLine /\ Vals (ks.map kV) its.toList
mutual
def In (K : Frag) (H : Hp) (Z : Zone) : D -> V -> Prop
 | .non, v => v = .non
 | .bl b, v => v = .bl b
 | .int i, v => v = .int i
 | .str x, v => v = .str x
 | .lst ds, v => ∃ a xs, v = .ref a /\ LstAt K H Z a xs /\ Ins K H Z ds xs
 | .tup ds, v => ∃ a xs, v = .ref a /\ H a = some (.tup xs) /\ Ins K H Z ds xs
 | .dct o, v => ∃ a, v = .ref a /\ H a = some o.ho /\ Z.S a
 | .ktup ks, v => ∃ a, v = .ref a /\ KTup K a ks
 | .agg _ _, _ => False
def Ins (K : Frag) (H : Hp) (Z : Zone) : List D -> List V -> Prop
 | [], xs => xs = []
 | d :: ds, xs => ∃ v vs, xs = v :: vs /\ In K H Z d v /\ Ins K H Z ds vs
end
structure Carry (K : Frag) (H : Hp) (Z : Zone) (H' : Hp) (Z' : Zone) : Prop where
 l : ∀ a (xs : MO), H a = some xs.ho -> Z.S a -> H' a = some xs.ho /\ Z'.S a
 r : Z.m = false -> Z'.m = false /\ ∀ a xs, RO K H a xs -> RO K H' a xs
 t : ∀ a (xs : List V), H a = some (.tup xs) -> H' a = some (.tup xs)
section
variable {K : Frag} {H H' H2 : Hp} {Z Z' Z2 : Zone}
theorem LstAt.carry {a : Addr} {xs : List V} (c : Carry K H Z H' Z') (h : LstAt K H Z a xs) : LstAt K H' Z' a xs := by
 rcases h with ⟨h, s⟩ | ⟨m, h⟩
 . exact .inl (c.l a (.l xs) h s)
 . exact .inr ⟨(c.r m).1, (c.r m).2 a xs h⟩
mutual
theorem In.carry (c : Carry K H Z H' Z') : ∀ {d : D} {v : V}, In K H Z d v -> In K H' Z' d v
 | .non, _, h => by unfold In at h ⊢; exact h
 | .bl _, _, h => by unfold In at h ⊢; exact h
 | .int _, _, h => by unfold In at h ⊢; exact h
 | .str _, _, h => by unfold In at h ⊢; exact h
 | .lst ds, v, h => by
  unfold In at h ⊢
  obtain ⟨a, xs, e, l, i⟩ := h
  exact ⟨a, xs, e, l.carry c, Ins.carry c i⟩
 | .tup ds, v, h => by
  unfold In at h ⊢
  obtain ⟨a, xs, e, l, i⟩ := h
  exact ⟨a, xs, e, c.t a xs l, Ins.carry c i⟩
 | .dct o, v, h => by
  unfold In at h ⊢
  obtain ⟨a, e, l, i⟩ := h
  exact ⟨a, e, c.l a (.d o) l i⟩
 | .ktup ks, v, h => by unfold In at h ⊢; exact h
 | .agg _ _, v, h => by unfold In at h; exact h.elim
theorem Ins.carry (c : Carry K H Z H' Z') : ∀ {ds : List D} {vs : List V}, Ins K H Z ds vs -> Ins K H' Z' ds vs
 | [], _, h => by unfold Ins at h ⊢; exact h
 | d :: ds, vs, h => by
  unfold Ins at h ⊢
  obtain ⟨v, r, e, i, j⟩ := h
  exact ⟨v, r, e, In.carry c i, Ins.carry c j⟩
end
theorem RO.same {a : Addr} {xs : List V} (s : Same H H') (h : RO K H a xs) : RO K H' a xs := by
 rcases h with ⟨o, h⟩ | h
 . exact .inl ⟨o, s.at h⟩
 . exact .inr h
theorem Carry.of (s : Same H H') (hS : ∀ a (xs : MO), H a = some xs.ho -> Z.S a -> Z'.S a) (hm : Z.m = false -> Z'.m = false) : Carry K H Z H' Z' :=
 ⟨fun a xs h z => ⟨s.at h xs.nt, hS a xs h z⟩, fun m => ⟨hm m, fun a xs h => h.same s⟩, fun a xs h => s.at h⟩
theorem Carry.same (s : Same H H') : Carry K H Z H' Z := .of s (fun _ _ _ z => z) fun m => m
theorem In.same {d : D} {v : V} (s : Same H H') (h : In K H Z d v) : In K H' Z d v := h.carry (.same s)
theorem Ins.same {ds : List D} {vs : List V} (s : Same H H') (h : Ins K H Z ds vs) : Ins K H' Z ds vs := h.carry (.same s)
theorem Carry.writeM {l : Addr} {xs : MO} {o : HO} (h : H l = some xs.ho) (n : ¬ Z.S l) : Carry K H Z (upd H l o) Z := by
 refine ⟨fun a zs e z => ⟨?_, z⟩, fun m => ⟨m, fun a zs e => ?_⟩, fun a zs e => ?_⟩
 . have : a ≠ l := by rintro rfl; exact n z
   rw [upd_ne this]; exact e
 . rcases e with ⟨o, e⟩ | e
   . refine .inl ⟨o, ?_⟩
     rw [upd_ne (ne_of e h (by intro q; exact xs.nfrz q.symm))]; exact e
   . exact .inr e
 . rw [upd_ne (ne_of e h (by intro q; exact xs.ntup q.symm))]; exact e
theorem Carry.write {l : Addr} {xs ys : List V} (h : H l = some (.lst xs)) (n : ¬ Z.S l) : Carry K H Z (upd H l (.lst ys)) Z := Carry.writeM (xs := .l xs) h n
mutual
def D.flat : D -> Bool
 | .lst _ => false
 | .dct _ => false
 | .agg _ _ => false
 | .tup ds => flats ds
 | _ => true
def flats : List D -> Bool
 | [] => true
 | d :: ds => D.flat d && flats ds
end
mutual
theorem In.flat (s : ∀ a (xs : List V), H a = some (.tup xs) -> H' a = some (.tup xs)) : ∀ {d : D} {v : V}, D.flat d = true -> In K H Z d v -> In K H' Z' d v
 | .non, _, _, h => by unfold In at h ⊢; exact h
 | .bl _, _, _, h => by unfold In at h ⊢; exact h
 | .int _, _, _, h => by unfold In at h ⊢; exact h
 | .str _, _, _, h => by unfold In at h ⊢; exact h
 | .lst ds, v, f, h => by unfold D.flat at f; cases f
 | .dct o, v, f, h => by unfold D.flat at f; cases f
 | .agg _ _, v, f, h => by unfold D.flat at f; cases f
 | .ktup ks, v, f, h => by unfold In at h ⊢; exact h
 | .tup ds, v, f, h => by
  unfold D.flat at f
  unfold In at h ⊢
  obtain ⟨a, xs, e, l, i⟩ := h
  exact ⟨a, xs, e, s a xs l, Ins.flat s f i⟩
theorem Ins.flat (s : ∀ a (xs : List V), H a = some (.tup xs) -> H' a = some (.tup xs)) : ∀ {ds : List D} {vs : List V}, flats ds = true -> Ins K H Z ds vs -> Ins K H' Z' ds vs
 | [], _, _, h => by unfold Ins at h ⊢; exact h
 | d :: ds, vs, f, h => by
  unfold flats at f
  rw [Bool.and_eq_true] at f
  unfold Ins at h ⊢
  obtain ⟨v, r, e, i, j⟩ := h
  exact ⟨v, r, e, In.flat s f.1 i, Ins.flat s f.2 j⟩
end
theorem In.flat' {d : D} {v : V} (f : d.flat = true) (h : In K H Z d v) : In K H Z' d v := In.flat (fun _ _ e => e) f h
theorem Ins.flat' {ds : List D} {vs : List V} (f : flats ds = true) (h : Ins K H Z ds vs) : Ins K H Z' ds vs := Ins.flat (fun _ _ e => e) f h
theorem in_non {v : V} : In K H Z .non v ↔ v = .non := by unfold In; exact Iff.rfl
theorem in_bl {b : Bool} {v : V} : In K H Z (.bl b) v ↔ v = .bl b := by unfold In; exact Iff.rfl
theorem in_int {i : Int} {v : V} : In K H Z (.int i) v ↔ v = .int i := by unfold In; exact Iff.rfl
theorem in_str {x : Str} {v : V} : In K H Z (.str x) v ↔ v = .str x := by unfold In; exact Iff.rfl
theorem in_lst {ds : List D} {v : V} : In K H Z (.lst ds) v ↔ ∃ a xs, v = .ref a /\ LstAt K H Z a xs /\ Ins K H Z ds xs := by unfold In; exact Iff.rfl
theorem in_tup {ds : List D} {v : V} : In K H Z (.tup ds) v ↔ ∃ a xs, v = .ref a /\ H a = some (.tup xs) /\ Ins K H Z ds xs := by unfold In; exact Iff.rfl
theorem in_tupS {ds : List D} {v : V} (h : In K H Z (.tup ds) v) : ∃ a xs, v = .ref a /\ SqT K H a xs /\ Ins K H Z ds xs :=
 let ⟨a, xs, e, l, i⟩ := in_tup.mp h
 ⟨a, xs, e, .inl (.inl l), i⟩
theorem in_ktup {ks : List Key} {v : V} : In K H Z (.ktup ks) v ↔ ∃ a, v = .ref a /\ KTup K a ks := by unfold In; exact Iff.rfl
theorem in_agg {s : Sh} {ds : List D} {v : V} : ¬ In K H Z (.agg s ds) v := fun h => by unfold In at h; exact h
theorem KTup.sq {a : Addr} {ks : List Key} (h : KTup K a ks) : SqT K H a (ks.map kV) := by
 obtain ⟨o, its, n, h1, h2, h3, h4, h5⟩ := h
 exact .inr ⟨o, its, n, h1, h2, h3, h4, h5⟩
theorem in_dct {o : DO} {v : V} : In K H Z (.dct o) v ↔ ∃ a, v = .ref a /\ H a = some o.ho /\ Z.S a := by unfold In; exact Iff.rfl
theorem ins_nil {vs : List V} : Ins K H Z [] vs ↔ vs = [] := by unfold Ins; exact Iff.rfl
theorem ins_cons {d : D} {ds : List D} {vs : List V} : Ins K H Z (d :: ds) vs ↔ ∃ v r, vs = v :: r /\ In K H Z d v /\ Ins K H Z ds r := by
 constructor
 . intro h; unfold Ins at h; exact h
 . intro h; unfold Ins; exact h
theorem Ins.length : ∀ {ds : List D} {vs : List V}, Ins K H Z ds vs -> ds.length = vs.length
 | [], _, h => by rw [ins_nil.mp h]; rfl
 | d :: ds, _, h => by
  obtain ⟨v, r, rfl, _, j⟩ := ins_cons.mp h
  rw [length_cons, length_cons, Ins.length j]
theorem Ins.get : ∀ {ds : List D} {vs : List V} {i : Nat} {d : D}, Ins K H Z ds vs -> ds[i]? = some d -> ∃ v, vs[i]? = some v /\ In K H Z d v
 | [], _, _, _, _, e => by simp at e
 | d :: ds, _, 0, _, h, e => by
  obtain ⟨v, r, rfl, a, _⟩ := ins_cons.mp h
  simp at e; subst e
  exact ⟨v, rfl, a⟩
 | d :: ds, _, i + 1, d', h, e => by
  obtain ⟨v, r, rfl, _, j⟩ := ins_cons.mp h
  obtain ⟨w, h1, h2⟩ := Ins.get (i := i) (d := d') j (by simpa using e)
  exact ⟨w, by simpa using h1, h2⟩
theorem Ins.append : ∀ {ds es : List D} {vs ws : List V}, Ins K H Z ds vs -> Ins K H Z es ws -> Ins K H Z (ds ++ es) (vs ++ ws)
 | [], _, _, _, h, k => by rw [ins_nil.mp h]; exact k
 | d :: ds, _, _, _, h, k => by
  obtain ⟨v, r, rfl, a, j⟩ := ins_cons.mp h
  exact ins_cons.mpr ⟨v, r ++ _, rfl, a, Ins.append j k⟩
theorem Ins.one {d : D} {v : V} (h : In K H Z d v) : Ins K H Z [d] [v] := ins_cons.mpr ⟨v, [], rfl, h, ins_nil.mpr rfl⟩
theorem Ins.drop : ∀ {ds : List D} {vs : List V} (n : Nat), Ins K H Z ds vs -> Ins K H Z (ds.drop n) (vs.drop n)
 | _, _, 0, h => h
 | [], _, _ + 1, h => by rw [ins_nil.mp h]; exact ins_nil.mpr (by simp)
 | _ :: _, _, n + 1, h => by
  obtain ⟨v, r, rfl, _, j⟩ := ins_cons.mp h
  exact Ins.drop n j
theorem Ins.take : ∀ {ds : List D} {vs : List V} (n : Nat), Ins K H Z ds vs -> Ins K H Z (ds.take n) (vs.take n)
 | _, _, 0, h => by rw [List.take_zero, List.take_zero]; exact ins_nil.mpr rfl
 | [], _, _ + 1, h => by rw [ins_nil.mp h]; exact ins_nil.mpr (by simp)
 | _ :: _, _, n + 1, h => by
  obtain ⟨v, r, rfl, a, j⟩ := ins_cons.mp h
  exact ins_cons.mpr ⟨v, r.take n, rfl, a, Ins.take n j⟩
theorem Ins.of_get : ∀ {ds : List D} {vs : List V}, ds.length = vs.length -> (∀ (i : Nat) d v, ds[i]? = some d -> vs[i]? = some v -> In K H Z d v) -> Ins K H Z ds vs
 | [], [], _, _ => ins_nil.mpr rfl
 | d :: ds, v :: vs, e, h => ins_cons.mpr ⟨v, vs, rfl, h 0 d v rfl rfl, Ins.of_get (by simpa using e) fun i d' v' a b => h (i + 1) d' v' (by simpa using a) (by simpa using b)⟩
 | [], _ :: _, e, _ => by simp at e
 | _ :: _, [], e, _ => by simp at e
theorem ins_ints : ∀ (ns : List Int), Ins K H Z (ns.map D.int) (ns.map V.int)
 | [] => ins_nil.mpr rfl
 | n :: ns => ins_cons.mpr ⟨_, _, rfl, in_int.mpr rfl, ins_ints ns⟩
theorem ins_strs : ∀ (ns : List Str), Ins K H Z (ns.map D.str) (ns.map V.str)
 | [] => ins_nil.mpr rfl
 | n :: ns => ins_cons.mpr ⟨_, _, rfl, in_str.mpr rfl, ins_strs ns⟩
theorem ins_strs_inv : ∀ {ns : List Str} {vs : List V}, Ins K H Z (ns.map D.str) vs -> vs = ns.map V.str
 | [], _, h => ins_nil.mp h
 | n :: ns, _, h => by
  obtain ⟨v, r, rfl, a, j⟩ := ins_cons.mp h
  rw [in_str.mp a, ins_strs_inv j]; rfl
theorem in_kV (k : Key) : In K H Z (kD k) (kV k) := by
 cases k with
 | inl i => exact in_int.mpr rfl
 | inr x => exact in_str.mpr rfl
theorem ins_kV : ∀ (ks : List Key), Ins K H Z (ks.map kD) (ks.map kV)
 | [] => ins_nil.mpr rfl
 | k :: ks => ins_cons.mpr ⟨_, _, rfl, in_kV k, ins_kV ks⟩
theorem flats_strs : ∀ (ns : List Str), flats (ns.map D.str) = true
 | [] => by simp [flats]
 | n :: ns => by simp [flats, D.flat, flats_strs ns]
theorem flats_all : ∀ {ds : List D}, (∀ d ∈ ds, d.flat = true) -> flats ds = true
 | [], _ => by simp [flats]
 | d :: ds, h => by
  have h1 := h d mem_cons_self
  have h2 : flats ds = true := flats_all fun e he => h e (mem_cons_of_mem _ he)
  simp [flats, h1, h2]
theorem flats_mem : ∀ {ds : List D}, flats ds = true -> ∀ d ∈ ds, d.flat = true
 | [], _, d, hd => by simp at hd
 | e :: ds, h, d, hd => by
  simp [flats] at h
  rcases mem_cons.mp hd with rfl | hd
  . exact h.1
  . exact flats_mem h.2 d hd
end
structure Zone.Open (Z : Zone) (H : Hp) : Prop where
 op : ∀ a, H a = none -> Z.S a
 tb : TabsOk H
instance {Z : Zone} {H : Hp} : CoeFun (Z.Open H) (fun _ => ∀ a, H a = none -> Z.S a) := ⟨fun o => o.op⟩
def nw (H : Hp) : Zone := ⟨true, fun a => H a = none⟩
theorem nwF {H : Hp} {C : Prop} (h : (nw H).m = false) : C := Bool.noConfusion (show true = false from h)
def out (m : Bool) (Z : Zone) (H : Hp) : Zone := if m then nw H else Z
def anyZ : Zone := ⟨false, fun _ => True⟩
section
variable {K : Frag} {H H1 H' : Hp} {Z : Zone} {m : Bool}
theorem Zone.Open.same (o : Z.Open H) (s : Same H H') : Z.Open H' := ⟨fun a h => o.op a (s.free h), s.tabs o.tb⟩
theorem anyZ_open (t : TabsOk H) : anyZ.Open H := ⟨fun _ _ => trivial, t⟩
theorem nw_open (t : TabsOk H) (s : Same H H') : (nw H).Open H' := ⟨fun a h => s.free h, s.tabs t⟩
theorem In.up {d : D} {v : V} (o : Z.Open H) (h : In K H' (nw H) d v) : In K H' Z d v := h.carry ⟨fun a xs e z => ⟨e, o a z⟩, fun m => nwF m, fun _ _ e => e⟩
theorem Ins.up {ds : List D} {vs : List V} (o : Z.Open H) (h : Ins K H' (nw H) ds vs) : Ins K H' Z ds vs := h.carry ⟨fun a xs e z => ⟨e, o a z⟩, fun m => nwF m, fun _ _ e => e⟩
theorem In.plain {d : D} {v : V} (o : Z.Open H) (h : In K H' (out m Z H) d v) : In K H' Z d v := by
 cases m
 . exact h
 . exact h.up o
theorem In.later {d : D} {v : V} (s : Same H H1) (h : In K H' (out m Z H1) d v) : In K H' (out m Z H) d v := by
 cases m
 . exact h
 . exact h.carry ⟨fun a xs e z => ⟨e, s.free z⟩, fun m => nwF m, fun _ _ e => e⟩
theorem In.outflat {d : D} {v : V} {Z' : Zone} (f : d.flat = true) (h : In K H' Z' d v) : In K H' (out m Z H) d v := h.flat' f
end
def D.nag : D -> Bool
 | .agg _ _ => false
 | _ => true
mutual
def InT (K : Frag) (H : Hp) (Z : Zone) : D -> V -> Prop
 | .agg s ds, v => ∃ a xs, v = .ref a /\ s.at H a xs /\ Z.S a /\ InTs K H Z ds xs
 | .non, v => In K H Z .non v
 | .bl b, v => In K H Z (.bl b) v
 | .int i, v => In K H Z (.int i) v
 | .str x, v => In K H Z (.str x) v
 | .lst ds, v => In K H Z (.lst ds) v
 | .tup ds, v => In K H Z (.tup ds) v
 | .dct o, v => In K H Z (.dct o) v
 | .ktup ks, v => In K H Z (.ktup ks) v
def InTs (K : Frag) (H : Hp) (Z : Zone) : List D -> List V -> Prop
 | [], xs => xs = []
 | d :: ds, xs => ∃ v vs, xs = v :: vs /\ InT K H Z d v /\ InTs K H Z ds vs
end
section
variable {K : Frag} {H H' : Hp} {Z Z' : Zone}
theorem InT.inn {d : D} {v : V} (h : InT K H Z d v) (n : d.nag = true) : In K H Z d v := by
 cases d <;> first | (unfold InT at h; exact h) | exact Bool.noConfusion (show false = true from n)
theorem In.top {d : D} {v : V} (h : In K H Z d v) : InT K H Z d v := by
 cases d <;> first | exact absurd h in_agg | (unfold InT; exact h)
theorem inT_agg {s : Sh} {ds : List D} {v : V} : InT K H Z (.agg s ds) v ↔ ∃ a xs, v = .ref a /\ s.at H a xs /\ Z.S a /\ InTs K H Z ds xs := by
 constructor
 . intro h; unfold InT at h; exact h
 . intro h; unfold InT; exact h
theorem inTs_nil {vs : List V} : InTs K H Z [] vs ↔ vs = [] := by unfold InTs; exact Iff.rfl
theorem inTs_cons {d : D} {ds : List D} {vs : List V} : InTs K H Z (d :: ds) vs ↔ ∃ v r, vs = v :: r /\ InT K H Z d v /\ InTs K H Z ds r := by
 constructor
 . intro h; unfold InTs at h; exact h
 . intro h; unfold InTs; exact h
mutual
theorem InT.carry (c : Carry K H Z H' Z') : ∀ {d : D} {v : V}, InT K H Z d v -> InT K H' Z' d v
 | .non, _, h => (In.carry c (h.inn rfl)).top
 | .bl _, _, h => (In.carry c (h.inn rfl)).top
 | .int _, _, h => (In.carry c (h.inn rfl)).top
 | .str _, _, h => (In.carry c (h.inn rfl)).top
 | .lst _, _, h => (In.carry c (h.inn rfl)).top
 | .tup _, _, h => (In.carry c (h.inn rfl)).top
 | .dct _, _, h => (In.carry c (h.inn rfl)).top
 | .ktup _, _, h => (In.carry c (h.inn rfl)).top
 | .agg s ds, v, h => by
  obtain ⟨a, xs, e, l, z, i⟩ := inT_agg.mp h
  obtain ⟨m, e1, e2⟩ := Sh.mo l
  obtain ⟨e3, z'⟩ := c.l a m e1 z
  exact inT_agg.mpr ⟨a, xs, e, e2 H' e3, z', InTs.carry c i⟩
theorem InTs.carry (c : Carry K H Z H' Z') : ∀ {ds : List D} {vs : List V}, InTs K H Z ds vs -> InTs K H' Z' ds vs
 | [], _, h => inTs_nil.mpr (inTs_nil.mp h)
 | d :: ds, vs, h => by
  obtain ⟨v, r, e, i, j⟩ := inTs_cons.mp h
  exact inTs_cons.mpr ⟨v, r, e, InT.carry c i, InTs.carry c j⟩
end
theorem InT.same {d : D} {v : V} (s : Same H H') (h : InT K H Z d v) : InT K H' Z d v := h.carry (.same s)
end
def EnvIn (K : Frag) (H : Hp) (Z : Zone) (σ : St) (ρ : List (Option D)) : Prop := ∀ (i : Nat) d, ρ[i]? = some (some d) -> ∃ v, σ[i]? = some (some v) /\ InT K H Z d v
theorem EnvIn.same {K : Frag} {H H' : Hp} {Z : Zone} {σ : St} {ρ : List (Option D)} (s : Same H H') (h : EnvIn K H Z σ ρ) : EnvIn K H' Z σ ρ := fun i d e =>
 let ⟨v, a, b⟩ := h i d e; ⟨v, a, b.same s⟩
def tE (K : Frag) (m : Bool) (ρ : List (Option D)) (d : D) : TE := fun σ H Q => ∃ Z : Zone, Z.Open H /\ EnvIn K H Z σ ρ /\ ∀ v H', Same H H' -> In K H' (out m Z H) d v -> Q v H'
def tB' (K : Frag) (ρ : List (Option D)) (b : Bool) : TT := fun σ H Q => ∃ Z : Zone, Z.Open H /\ EnvIn K H Z σ ρ /\ ∀ H', Same H H' -> Q b H'
def tEA (K : Frag) (ρ : List (Option D)) (ds : List D) : TA := fun σ H Q => ∃ Z : Zone, Z.Open H /\ EnvIn K H Z σ ρ /\ ∀ vs H', Same H H' -> Ins K H' Z ds vs -> Q vs H'
def E (X : Cx) (m : Bool) (ρ : List (Option D)) (e : Expr) (d : D) : Prop := PE X e (tE X.K m ρ d)
def T (X : Cx) (ρ : List (Option D)) (e : Expr) (b : Bool) : Prop := PT X e (tB' X.K ρ b)
def TW (X : Cx) (ρ : List (Option D)) (e : Expr) (b : Bool) : Prop := PW X e (tB' X.K ρ b)
def EA (X : Cx) (ρ : List (Option D)) (es : List Expr) (ds : List D) : Prop := PA X es (tEA X.K ρ ds)
theorem PE.mono {X : Cx} {e : Expr} {t t' : TE} (h : PE X e t) (k : ∀ σ H Q, t' σ H Q -> t σ H Q) : PE X e t' := fun pins s σ H Q I q => h pins s σ H Q I (k σ H Q q)
theorem PT.mono {X : Cx} {e : Expr} {t t' : TT} (h : PT X e t) (k : ∀ σ H Q, t' σ H Q -> t σ H Q) : PT X e t' := fun pins s σ H Q I q => h pins s σ H Q I (k σ H Q q)
theorem PW.mono {X : Cx} {e : Expr} {t t' : TT} (h : PW X e t) (k : ∀ σ H Q, t' σ H Q -> t σ H Q) : PW X e t' := fun wh pins s σ H Q I q => h wh pins s σ H Q I (k σ H Q q)
theorem PA.mono {X : Cx} {es : List Expr} {t t' : TA} (h : PA X es t) (k : ∀ σ H Q, t' σ H Q -> t σ H Q) : PA X es t' := fun pos pins s σ H Q I q => h pos pins s σ H Q I (k σ H Q q)
section
variable {X : Cx} {ρ : List (Option D)} {m m1 m2 m3 : Bool} {a b c e : Expr} {es : List Expr} {d d1 d2 d3 : D} {pos : Pos}
theorem E.mode (h : E X true ρ e d) : E X m ρ e d := by
 cases m
 . refine PE.mono h fun σ H Q z0 => el13 z0 fun Z oz en k => ⟨Z, oz, en, fun v H' s i => k v H' s (i.up oz)⟩
 . exact h
theorem E.plainM (h : E X m ρ e d) : E X false ρ e d := by
 cases m
 . exact h
 . exact E.mode h
theorem E.flat (h : E X m1 ρ e d) (f : d.flat = true) : E X m ρ e d :=
 PE.mono h fun σ H Q z0 => el13 z0 fun Z oz en k => ⟨Z, oz, en, fun v H' s i => k v H' s (i.flat' f)⟩
theorem E.cast {d' : D} (h : E X m ρ e d) (q : d = d') : E X m ρ e d' := q ▸ h
theorem e_var (i : Nat) {x : Str} {d : D} (hr : ρ[i]? = some (some d) := by rfl) (hN : X.N[i]? = some x := by rfl)
 (hv : Vis X.env.scope x := by first | exact Or.inl rfl | exact Or.inr (Or.inl rfl) | exact Or.inr (Or.inr rfl)) (hd : (x == ("__debug__" : Str)) = false := by decide)
 (hcd : (x == ("__classdict__" : Str)) = false := by decide) (hn : d.nag = true := by rfl) : E X false ρ (.Name x pos) d :=
 PE.mono (pe_var hN hv hd hcd) fun σ H Q z0 => el13 z0 fun Z oz en k => by
  obtain ⟨v, e, i⟩ := en i d hr
  exact ⟨v, e, k v H (Same.refl H) (i.inn hn)⟩
theorem e_int {i : Int} {j : Nat} : E X true ρ (.Constant (.int i) j pos) (.int i) := PE.mono pe_int fun σ H Q z0 => el13 z0 fun Z oz en k => k _ _ (Same.refl H) (in_int.mpr rfl)
theorem e_bl {b : Bool} {j : Nat} : E X true ρ (.Constant (.bool b) j pos) (.bl b) := PE.mono pe_bl fun σ H Q z0 => el13 z0 fun Z oz en k => k _ _ (Same.refl H) (in_bl.mpr rfl)
theorem e_str {x : Str} {j : Nat} : E X true ρ (.Constant (.str x) j pos) (.str x) := PE.mono pe_str fun σ H Q z0 => el13 z0 fun Z oz en k => k _ _ (Same.refl H) (in_str.mpr rfl)
theorem ea_nil : EA X ρ [] [] := PA.mono pa_nil fun σ H Q z0 => el13 z0 fun Z oz en k => k [] H (Same.refl H) (ins_nil.mpr rfl)
theorem ea_cons {ds : List D} (ha : E X m1 ρ e d) (hr : EA X ρ es ds) (hs : starEach (e :: es) X.env = (false, eval e X.env) :: starEach es X.env := by rfl) : EA X ρ (e :: es) (d :: ds) :=
 PA.mono (pa_cons ha hr hs) fun σ H Q z0 => el13 z0 fun Z oz en k => ⟨Z, oz, en, fun v H1 s1 i1 => ⟨Z, oz.same s1, en.same s1, fun vs H2 s2 i2 => k (v :: vs) H2 (s1.trans s2) (ins_cons.mpr ⟨v, vs, rfl, (i1.plain oz).same s2, i2⟩)⟩⟩
theorem ea_one (ha : E X m1 ρ e d) (hs : starEach (e :: []) X.env = (false, eval e X.env) :: starEach [] X.env := by rfl) : EA X ρ [e] [d] := ea_cons ha ea_nil hs
def EAF (X : Cx) (ρ : List (Option D)) (es : List Expr) (ds : List D) : Prop := PA X es (fun σ H Q => ∃ Z : Zone, Z.Open H /\ EnvIn X.K H Z σ ρ /\ ∀ vs H', Same H H' -> Ins X.K H' (nw H) ds vs -> Q vs H')
theorem eaf_nil : EAF X ρ [] [] := PA.mono pa_nil fun σ H Q z0 => el13 z0 fun Z oz en k => k [] H (Same.refl H) (ins_nil.mpr rfl)
theorem Ins.later {K : Frag} {H H1 H' : Hp} {ds : List D} {vs : List V} (s : Same H H1) (h : Ins K H' (nw H1) ds vs) : Ins K H' (nw H) ds vs :=
 h.carry ⟨fun a xs e z => ⟨e, s.free z⟩, fun m => nwF m, fun _ _ e => e⟩
theorem eaf_cons {ds : List D} (ha : E X true ρ e d) (hr : EAF X ρ es ds) (hs : starEach (e :: es) X.env = (false, eval e X.env) :: starEach es X.env := by rfl) : EAF X ρ (e :: es) (d :: ds) :=
 PA.mono (pa_cons ha hr hs) fun σ H Q z0 => el13 z0 fun Z oz en k => ⟨Z, oz, en, fun v H1 s1 i1 => ⟨Z, oz.same s1, en.same s1, fun vs H2 s2 i2 => k (v :: vs) H2 (s1.trans s2) (ins_cons.mpr ⟨v, vs, rfl, In.same s2 i1, i2.later s1⟩)⟩⟩
theorem same_new {H : Hp} {p : Addr} {o : HO} (h : H p = none) : Same H (upd H p o) := ⟨fun b u e _ => by rw [upd_ne (ne_of_none e h)]; exact e, fun b ps e => ⟨ps, by rw [upd_ne (ne_of_none e h)]; exact e⟩, fun t => t.upd (.inl h)⟩
theorem e_tup {ds : List D} {x1} (h : EA X ρ es ds) (hz : ds.length <= 1000 := by exact of_decide_eq_true rfl) : E X false ρ (.Tuple es x1 pos) (.tup ds) :=
 PE.mono (pe_tup h) fun σ H Q z0 => el13 z0 fun Z oz en k => ⟨Z, oz, en, fun vs H1 s1 i1 => ⟨by rw [<- i1.length]; exact Nat.le_trans hz (Nat.le_of_lt (small1000 (Nat.le_refl _))), fun p hp =>
  k (.ref p) _ (s1.trans (same_new hp)) (in_tup.mpr ⟨p, vs, rfl, upd_same, i1.same (same_new hp)⟩)⟩⟩
theorem e_lstF {ds : List D} (h : EAF X ρ es ds) (hz : ds.length <= 1000 := by exact of_decide_eq_true rfl) : E X true ρ (.List es pos) (.lst ds) :=
 PE.mono (pe_lst h) fun σ H Q z0 => el13 z0 fun Z oz en k => ⟨Z, oz, en, fun vs H1 s1 i1 => ⟨by rw [<- i1.length]; exact Nat.le_trans hz (Nat.le_of_lt (small1000 (Nat.le_refl _))), fun p hp =>
  k (.ref p) _ (s1.trans (same_new hp)) (in_lst.mpr ⟨p, vs, rfl, .inl ⟨upd_same, s1.free hp⟩, i1.same (same_new hp)⟩)⟩⟩
theorem e_lstN {ds : List D} (h : EA X ρ es ds) (f : flats ds = true := by rfl) (hz : ds.length <= 1000 := by exact of_decide_eq_true rfl) : E X true ρ (.List es pos) (.lst ds) := by
 refine E.mode (PE.mono (pe_lst h) fun σ H Q z0 => el13 z0 fun Z oz en k => ⟨Z, oz, en, fun vs H1 s1 i1 => ⟨by rw [<- i1.length]; exact Nat.le_trans hz (Nat.le_of_lt (small1000 (Nat.le_refl _))), fun p hp =>
  k (.ref p) _ (s1.trans (same_new hp)) (in_lst.mpr ⟨p, vs, rfl, .inl ⟨upd_same, s1.free hp⟩, (i1.same (same_new hp)).flat' f⟩)⟩⟩)
theorem two {ta tb : TE} {σ : St} {H : Hp} {Z : Zone} {R : V -> V -> Hp -> Prop} (oz : Z.Open H) (en : EnvIn X.K H Z σ ρ)
 (h : ∀ x y H', Same H H' -> In X.K H' Z d1 x -> In X.K H' Z d2 y -> R x y H') : tE X.K m1 ρ d1 σ H fun x H1 => tE X.K m2 ρ d2 σ H1 fun y H2 => R x y H2 :=
 ⟨Z, oz, en, fun x H1 s1 i1 => ⟨Z, oz.same s1, en.same s1, fun y H2 s2 i2 => h x y H2 (s1.trans s2) ((i1.plain oz).same s2) (i2.plain (oz.same s1))⟩⟩
theorem e_op {op : Operator} {r : R2} (ho : OpR X (binaryOp op) r) (ha : E X m1 ρ a d1) (hb : E X m2 ρ b d2)
 (h : ∀ x y H Z Q, Z.Open H -> In X.K H Z d1 x -> In X.K H Z d2 y -> (∀ v H', Same H H' -> In X.K H' (out m Z H) d v -> Q v H') -> r x y H Q) : E X m ρ (.BinOp a op b pos) d :=
 PE.mono (pe_op ho ha hb) fun σ H Q z0 => el13 z0 fun Z oz en k => two (ta := tE X.K m1 ρ d1) (tb := tE X.K m2 ρ d2) oz en fun x y H2 s i1 i2 => h x y H2 Z _ (oz.same s) i1 i2 fun v H' s' i => k v H' (s.trans s') (i.later s)
theorem e_cmp {op : CmpOp} {r : R2} (ho : OpR X (compareOp op) r) (ha : E X m1 ρ a d1) (hb : E X m2 ρ b d2)
 (h : ∀ x y H Z Q, Z.Open H -> In X.K H Z d1 x -> In X.K H Z d2 y -> (∀ v H', Same H H' -> In X.K H' (out m Z H) d v -> Q v H') -> r x y H Q) (hm : behindInMarks op b = false) : E X m ρ (.Compare a [op] [b] pos) d :=
 PE.mono (pe_cmpR ho ha hb hm) fun σ H Q z0 => el13 z0 fun Z oz en k => two (ta := tE X.K m1 ρ d1) (tb := tE X.K m2 ρ d2) oz en fun x y H2 s i1 i2 => h x y H2 Z _ (oz.same s) i1 i2 fun v H' s' i => k v H' (s.trans s') (i.later s)
theorem t_cmp {op : CmpOp} {r : R2} {p : Bool} (ho : OpR X (compareOp op) r) (ha : E X m1 ρ a d1) (hb : E X m2 ρ b d2)
 (h : ∀ x y H Z Q, Z.Open H -> In X.K H Z d1 x -> In X.K H Z d2 y -> (∀ H', Same H H' -> Q (.bl p) H') -> r x y H Q) (hm : behindInMarks op b = false) : T X ρ (.Compare a [op] [b] pos) p :=
 PT.mono (pt_cmpR ho ha hb hm) fun σ H Q z0 => el13 z0 fun Z oz en k => two (ta := tE X.K m1 ρ d1) (tb := tE X.K m2 ρ d2) oz en fun x y H2 s i1 i2 => h x y H2 Z _ (oz.same s) i1 i2 fun H' s' => ⟨p, rfl, k H' (s.trans s')⟩
theorem e_add {i j : Int} (ha : E X m1 ρ a (.int i)) (hb : E X m2 ρ b (.int j)) : E X true ρ (.BinOp a .Add b pos) (.int (i + j)) :=
 e_op op_add ha hb fun x y H Z Q _ i1 i2 k => ⟨_, _, in_int.mp i1, in_int.mp i2, k _ _ (Same.refl H) (in_int.mpr rfl)⟩
theorem e_sub {i j : Int} (ha : E X m1 ρ a (.int i)) (hb : E X m2 ρ b (.int j)) : E X true ρ (.BinOp a .Sub b pos) (.int (i - j)) :=
 e_op op_sub ha hb fun x y H Z Q _ i1 i2 k => ⟨_, _, in_int.mp i1, in_int.mp i2, k _ _ (Same.refl H) (in_int.mpr rfl)⟩
theorem e_mul {i j : Int} (ha : E X m1 ρ a (.int i)) (hb : E X m2 ρ b (.int j)) (hc : CMul i j) : E X true ρ (.BinOp a .Mult b pos) (.int (i * j)) :=
 e_op op_mul ha hb fun x y H Z Q _ i1 i2 k => ⟨_, _, in_int.mp i1, in_int.mp i2, hc, k _ _ (Same.refl H) (in_int.mpr rfl)⟩
theorem e_mod {i j : Int} (ha : E X m1 ρ a (.int i)) (hb : E X m2 ρ b (.int j)) (hc : 0 < j) : E X true ρ (.BinOp a .Mod b pos) (.int (i % j)) :=
 e_op op_mod ha hb fun x y H Z Q _ i1 i2 k => ⟨_, _, in_int.mp i1, in_int.mp i2, hc, k _ _ (Same.refl H) (in_int.mpr rfl)⟩
theorem e_fdiv {i j : Int} (ha : E X m1 ρ a (.int i)) (hb : E X m2 ρ b (.int j)) (hc : CDiv i j) : E X true ρ (.BinOp a .FloorDiv b pos) (.int (i / j)) :=
 e_op op_fdiv ha hb fun x y H Z Q _ i1 i2 k => ⟨_, _, in_int.mp i1, in_int.mp i2, hc, k _ _ (Same.refl H) (in_int.mpr rfl)⟩
theorem e_neg {i : Int} (ha : E X m1 ρ a (.int i)) : E X true ρ (.UnaryOp .USub a pos) (.int (-i)) :=
 PE.mono (pe_un un_neg ha) fun σ H Q z0 => el13 z0 fun Z oz en k => ⟨Z, oz, en, fun x H1 s1 i1 => ⟨i, in_int.mp (i1.plain oz), k _ _ s1 (in_int.mpr rfl)⟩⟩
theorem e_addS {x y : Str} (ha : E X m1 ρ a (.str x)) (hb : E X m2 ρ b (.str y)) (hz : x.length + y.length <= sizeLine) : E X true ρ (.BinOp a .Add b pos) (.str (x ++ y)) :=
 e_op op_add_str ha hb fun x y H Z Q _ i1 i2 k => ⟨_, _, in_str.mp i1, in_str.mp i2, hz, k _ _ (Same.refl H) (in_str.mpr rfl)⟩
theorem t_ltI {i j : Int} (ha : E X m1 ρ a (.int i)) (hb : E X m2 ρ b (.int j)) : T X ρ (.Compare a [.Lt] [b] pos) (decide (i < j)) :=
 t_cmp op_lt ha hb (fun x y H Z Q _ i1 i2 k => ⟨_, _, in_int.mp i1, in_int.mp i2, k _ (Same.refl H)⟩) (nomark _)
theorem t_gtI {i j : Int} (ha : E X m1 ρ a (.int i)) (hb : E X m2 ρ b (.int j)) : T X ρ (.Compare a [.Gt] [b] pos) (decide (j < i)) :=
 t_cmp op_gt ha hb (fun x y H Z Q _ i1 i2 k => ⟨_, _, in_int.mp i1, in_int.mp i2, k _ (Same.refl H)⟩) (nomark _)
theorem e_eqI {i j : Int} (ha : E X m1 ρ a (.int i)) (hb : E X m2 ρ b (.int j)) : E X true ρ (.Compare a [.Eq] [b] pos) (.bl (decide (i = j))) :=
 e_cmp op_eq ha hb (fun x y H Z Q _ i1 i2 k => by rw [in_int.mp i1, in_int.mp i2]; exact ⟨rfl, k _ _ (Same.refl H) (in_bl.mpr (by simp))⟩) (nomark _)
theorem t_eqI {i j : Int} (ha : E X m1 ρ a (.int i)) (hb : E X m2 ρ b (.int j)) : T X ρ (.Compare a [.Eq] [b] pos) (decide (i = j)) :=
 t_cmp op_eq ha hb (fun x y H Z Q _ i1 i2 k => by rw [in_int.mp i1, in_int.mp i2]; exact ⟨rfl, by simpa using k _ (Same.refl H)⟩) (nomark _)
theorem t_eqS {i j : Str} (ha : E X m1 ρ a (.str i)) (hb : E X m2 ρ b (.str j)) : T X ρ (.Compare a [.Eq] [b] pos) (decide (i = j)) :=
 t_cmp op_eq ha hb (fun x y H Z Q _ i1 i2 k => by rw [in_str.mp i1, in_str.mp i2]; exact ⟨rfl, by simpa using k _ (Same.refl H)⟩) (nomark _)
theorem e_neS {i j : Str} (ha : E X m1 ρ a (.str i)) (hb : E X m2 ρ b (.str j)) : E X true ρ (.Compare a [.NotEq] [b] pos) (.bl (!decide (i = j))) :=
 e_cmp op_ne ha hb (fun x y H Z Q _ i1 i2 k => by rw [in_str.mp i1, in_str.mp i2]; exact ⟨rfl, k _ _ (Same.refl H) (in_bl.mpr (by simp))⟩) (nomark _)
theorem t_neS {i j : Str} (ha : E X m1 ρ a (.str i)) (hb : E X m2 ρ b (.str j)) : T X ρ (.Compare a [.NotEq] [b] pos) (!decide (i = j)) :=
 t_cmp op_ne ha hb (fun x y H Z Q _ i1 i2 k => by rw [in_str.mp i1, in_str.mp i2]; exact ⟨rfl, by simpa using k _ (Same.refl H)⟩) (nomark _)
theorem tw_and1 {p : Bool} (ha : T X ρ a p) : TW X ρ (.BoolOp .And [a] pos) p := pw_and1 ha
theorem tw_or1 {p : Bool} (ha : T X ρ a p) : TW X ρ (.BoolOp .Or [a] pos) p := pw_or1 ha
theorem tw_and {p q : Bool} {r : List Expr} (ha : T X ρ a p) (hb : p = true -> TW X ρ (.BoolOp .And (b :: r) pos) q) : TW X ρ (.BoolOp .And (a :: b :: r) pos) (p && q) := by
 cases p with
 | true =>
  exact PW.mono (pw_and ha (hb rfl)) fun σ H Q z0 => el13 z0 fun Z oz en k => ⟨Z, oz, en, fun H1 s1 => by
   refine iteT ?_; exact ⟨Z, oz.same s1, en.same s1, fun H2 s2 => k H2 (s1.trans s2)⟩⟩
 | false =>
  exact PW.mono (pw_and (tB' := fun _ _ _ => False) ha (fun wh pins s σ H Q I h => h.elim)) fun σ H Q z0 => el13 z0 fun Z oz en k => ⟨Z, oz, en, fun H1 s1 => by
   refine iteF ?_; exact k H1 s1⟩
theorem tw_or {p q : Bool} {r : List Expr} (ha : T X ρ a p) (hb : p = false -> TW X ρ (.BoolOp .Or (b :: r) pos) q) : TW X ρ (.BoolOp .Or (a :: b :: r) pos) (p || q) := by
 cases p with
 | false =>
  exact PW.mono (pw_or ha (hb rfl)) fun σ H Q z0 => el13 z0 fun Z oz en k => ⟨Z, oz, en, fun H1 s1 => by
   refine iteF ?_; exact ⟨Z, oz.same s1, en.same s1, fun H2 s2 => k H2 (s1.trans s2)⟩⟩
 | true =>
  exact PW.mono (pw_or (tB' := fun _ _ _ => False) ha (fun wh pins s σ H Q I h => h.elim)) fun σ H Q z0 => el13 z0 fun Z oz en k => ⟨Z, oz, en, fun H1 s1 => by
   refine iteT ?_; exact k H1 s1⟩
theorem TW.t {p : Bool} (h : TW X ρ a p) : T X ρ a p := PW.pt h
theorem t_not {p : Bool} (ha : T X ρ a p) : T X ρ (.UnaryOp .Not a pos) (!p) := PT.mono (pt_not ha) fun σ H Q z0 => el13 z0 fun Z oz en k => ⟨Z, oz, en, fun H1 s1 => k H1 s1⟩
theorem t_val {p : Bool} (h : E X m1 ρ e (.bl p)) (he : ∀ whole, isTrue e X.env whole = (do let v <- whole; standAt e.pos; holding [v] (truthy v)) := by intro _; rfl) : T X ρ e p :=
 PT.mono (pt_val h he) fun σ H Q z0 => el13 z0 fun Z oz en k => ⟨Z, oz, en, fun v H1 s1 i1 => ⟨p, in_bl.mp (i1.plain oz), k H1 s1⟩⟩
theorem e_one {op : BoolOp} (h : E X m ρ a d) : E X m ρ (.BoolOp op [a] pos) d := pe_one h
theorem e_and {p : Bool} {q : Bool} {r : List Expr} (ha : E X m1 ρ a (.bl p)) (hb : p = true -> E X m2 ρ (.BoolOp .And (b :: r) pos) (.bl q)) : E X true ρ (.BoolOp .And (a :: b :: r) pos) (.bl (p && q)) := by
 cases p with
 | true =>
  exact PE.mono (pe_and ha (hb rfl)) fun σ H Q z0 => el13 z0 fun Z oz en k => ⟨Z, oz, en, fun v H1 s1 i1 => ⟨true, in_bl.mp (i1.plain oz), by
   refine iteT ?_; exact ⟨Z, oz.same s1, en.same s1, fun w H2 s2 i2 => k w H2 (s1.trans s2) (i2.outflat rfl)⟩⟩⟩
 | false =>
  exact PE.mono (pe_and (tb := fun _ _ _ => False) ha (fun pins s σ H Q I h => h.elim)) fun σ H Q z0 => el13 z0 fun Z oz en k => ⟨Z, oz, en, fun v H1 s1 i1 => ⟨false, in_bl.mp (i1.plain oz), by
   refine iteF ?_; exact k _ H1 s1 (in_bl.mpr rfl)⟩⟩
theorem e_ifExp {p : Bool} (hc : T X ρ c p) (ha : p = true -> E X m ρ a d) (hb : p = false -> E X m ρ b d) : E X m ρ (.IfExp c a b pos) d := by
 cases p with
 | true =>
  exact PE.mono (pe_ifExp (tb := fun _ _ _ => False) hc (ha rfl) (fun pins s σ H Q I h => h.elim)) fun σ H Q z0 => el13 z0 fun Z oz en k => ⟨Z, oz, en, fun H1 s1 => by
   refine iteT ?_; exact ⟨Z, oz.same s1, en.same s1, fun v H2 s2 i2 => k v H2 (s1.trans s2) (i2.later s1)⟩⟩
 | false =>
  exact PE.mono (pe_ifExp (ta := fun _ _ _ => False) hc (fun pins s σ H Q I h => h.elim) (hb rfl)) fun σ H Q z0 => el13 z0 fun Z oz en k => ⟨Z, oz, en, fun H1 s1 => by
   refine iteF ?_; exact ⟨Z, oz.same s1, en.same s1, fun v H2 s2 i2 => k v H2 (s1.trans s2) (i2.later s1)⟩⟩
theorem Ins.atI {K : Frag} {H : Hp} {Z : Zone} {ds : List D} {vs : List V} {i : Int} {d : D} (h : Ins K H Z ds vs) (e : atI ds i = some d) : ∃ v, atI vs i = some v /\ In K H Z d v := by
 unfold L2.atI at e ⊢
 rw [<- h.length]
 cases q : ixN ds.length i with
 | none => rw [q] at e; cases e
 | some j =>
  rw [q] at e
  exact h.get e
theorem e_ixL {ds : List D} {i : Int} (ha : E X m1 ρ a (.lst ds)) (hb : E X m2 ρ b (.int i)) (h : atI ds i = some d) (hs : PlainIx b := by intro _ _; rfl) : E X m1 ρ (.Subscript a b pos) d :=
 PE.mono (pe_ix ix_list ha hb hs) fun σ H Q z0 => el13 z0 fun Z oz en k => ⟨Z, oz, en, fun x H1 s1 i1 => ⟨Z, oz.same s1, en.same s1, fun y H2 s2 i2 => by
  obtain ⟨p, xs, rfl, l, j⟩ := in_lst.mp (In.same s2 i1)
  obtain ⟨v, e, iv⟩ := j.atI h
  exact ⟨p, xs, i, v, rfl, in_int.mp (i2.plain (oz.same s1)), l.sq, e, k v H2 (s1.trans s2) iv⟩⟩⟩
theorem e_ixT {ds : List D} {i : Int} (ha : E X m1 ρ a (.tup ds)) (hb : E X m2 ρ b (.int i)) (h : atI ds i = some d) (hs : PlainIx b := by intro _ _; rfl) : E X m1 ρ (.Subscript a b pos) d :=
 PE.mono (pe_ix ix_tup ha hb hs) fun σ H Q z0 => el13 z0 fun Z oz en k => ⟨Z, oz, en, fun x H1 s1 i1 => ⟨Z, oz.same s1, en.same s1, fun y H2 s2 i2 => by
  obtain ⟨p, xs, rfl, l, j⟩ := in_tupS (In.same s2 i1)
  obtain ⟨v, e, iv⟩ := j.atI h
  exact ⟨p, xs, i, v, rfl, in_int.mp (i2.plain (oz.same s1)), l, e, k v H2 (s1.trans s2) iv⟩⟩⟩
theorem e_ixS {z : Str} {i : Int} {cp : Nat} (ha : E X m1 ρ a (.str z)) (hb : E X m2 ρ b (.int i)) (hz : z.length <= sizeLine) (h : atI z.cps.toList i = some cp) (hs : PlainIx b := by intro _ _; rfl) : E X true ρ (.Subscript a b pos) (.str ⟨#[cp]⟩) :=
 PE.mono (pe_ix ix_str ha hb hs) fun σ H Q z0 => el13 z0 fun Z oz en k => two (ta := tE X.K m1 ρ (.str z)) (tb := tE X.K m2 ρ (.int i)) oz en fun x y H2 s i1 i2 =>
  ⟨z, i, cp, in_str.mp i1, in_int.mp i2, hz, h, k _ H2 s (in_str.mpr rfl)⟩
def EO (X : Cx) (ρ : List (Option D)) (e : Option Expr) (o : Option Int) : Prop := PO X e (fun σ H Q => ∃ Z : Zone, Z.Open H /\ EnvIn X.K H Z σ ρ /\ ∀ H', Same H H' -> Q o H')
theorem PO.mono {e : Option Expr} {t t' : TO} (h : PO X e t) (k : ∀ σ H Q, t' σ H Q -> t σ H Q) : PO X e t' := fun pins s σ H Q I q => h pins s σ H Q I (k σ H Q q)
theorem eo_none : EO X ρ none none := PO.mono po_none fun σ H Q z0 => el13 z0 fun Z oz en k => k H (Same.refl H)
theorem eo_some {i : Int} (h : E X m1 ρ e (.int i)) : EO X ρ (some e) (some i) := PO.mono (po_some h) fun σ H Q z0 => el13 z0 fun Z oz en k => ⟨Z, oz, en, fun v H1 s1 i1 => ⟨i, in_int.mp (i1.plain oz), k H1 s1⟩⟩
def cut {α : Type} (xs : List α) (lo hi : Option Int) : List α := (xs.drop (HT.sIx xs.length 0 lo)).take (HT.sIx xs.length xs.length hi - HT.sIx xs.length 0 lo)
theorem Ins.cut {K : Frag} {H : Hp} {Z : Zone} {ds : List D} {vs : List V} (h : Ins K H Z ds vs) (lo hi : Option Int) : Ins K H Z (cut ds lo hi) (cutV vs lo hi) := by
 unfold Y.cut cutV
 rw [h.length]
 exact (h.drop _).take _
variable {lo hi : Option Expr} {l u : Option Int} {p2 : Pos}
theorem e_slL {ds : List D} (ha : E X m1 ρ a (.lst ds)) (hl : EO X ρ lo l) (hu : EO X ρ hi u) (hm : m = true -> m1 = true \/ flats (cut ds l u) = true := by intro h; first | exact .inl h | cases h) : E X m ρ (.Subscript a (.Slice lo hi none p2) pos) (.lst (cut ds l u)) :=
 PE.mono (pe_slice sl_list ha hl hu) fun σ H Q z0 => el13 z0 fun Z oz en k => ⟨Z, oz, en, fun x H1 s1 i1 => ⟨Z, oz.same s1, en.same s1, fun H2 s2 => ⟨Z, oz.same (s1.trans s2), en.same (s1.trans s2), fun H3 s3 => by
  have s := (s1.trans s2).trans s3
  have i3 : In X.K H3 (out m1 Z H) (.lst ds) x := In.same (s2.trans s3) i1
  obtain ⟨p, xs, rfl, lq, j⟩ := in_lst.mp i3
  refine ⟨p, xs, rfl, lq.sq, fun q hq => k (.ref q) _ (s.trans (same_new hq)) (in_lst.mpr ⟨q, _, rfl, .inl ⟨upd_same, ?_⟩, ?_⟩)⟩
  . cases m
    . exact oz q (s.free hq)
    . exact s.free hq
  . have jc := (j.cut l u).same (same_new (o := .lst (cutV xs l u)) hq)
    cases m
    . cases m1
      . exact jc
      . exact jc.up oz
    . rcases hm rfl with h | h
      . subst h; exact jc
      . exact jc.flat' h⟩⟩⟩
end
end Y
namespace Y
open PySem PySem.Spec PyProof.Rows L2
variable [Tabs]
def clOf (cells : List (Str × Addr)) : List (Str × NameKind) -> List (Str × Addr) -> List (Str × Addr)
 | [], acc => acc
 | (n, k) :: r, acc => if k == .free then clOf cells r ((n, (cells.lookup n).getD 0) :: acc) else clOf cells r acc
theorem clOf_sub {cells : List (Str × Addr)} : ∀ {names : List (Str × NameKind)} {acc : List (Str × Addr)}, (∀ y ∈ names, y.2 = .free -> ∃ c, cells.lookup y.1 = some c) -> (∀ x c, acc.lookup x = some c -> cells.lookup x = some c) ->
 ∀ x c, (clOf cells names acc).lookup x = some c -> cells.lookup x = some c
 | [], _, _, h2, x, c, e => h2 x c e
 | (n, k) :: r, acc, h1, h2, x, c, e => by
  unfold clOf at e
  by_cases hk : (k == NameKind.free) = true
  . rw [if_pos hk] at e
    refine clOf_sub (fun y hy => h1 y (mem_cons_of_mem _ hy)) (fun y c' e' => ?_) x c e
    obtain ⟨c0, e0⟩ := h1 (n, k) mem_cons_self (by simpa using hk)
    rw [lookup_cons] at e'
    cases hy : y == n with
    | true =>
     rw [hy] at e'
     simp at e'
     have : y = n := by simpa using hy
     subst this
     rw [e0] at e' ⊢
     simpa using e'
    | false =>
     rw [hy] at e'
     exact h2 y c' e'
  . rw [if_neg hk] at e
    exact clOf_sub (fun y hy => h1 y (mem_cons_of_mem _ hy)) h2 x c e
theorem clOf_acc {cells : List (Str × Addr)} : ∀ {names : List (Str × NameKind)} {acc : List (Str × Addr)} {x : Str}, (∃ c, acc.lookup x = some c) -> ∃ c, (clOf cells names acc).lookup x = some c
 | [], _, _, h => h
 | (n, k) :: r, acc, x, h => by
  unfold clOf
  by_cases hk : (k == NameKind.free) = true
  . rw [if_pos hk]
    refine clOf_acc ?_
    rw [lookup_cons]
    cases hy : x == n with
    | true => exact ⟨_, rfl⟩
    | false => exact h
  . rw [if_neg hk]; exact clOf_acc h
theorem clOf_has {cells : List (Str × Addr)} : ∀ {names : List (Str × NameKind)} {acc : List (Str × Addr)} {x : Str}, (x, NameKind.free) ∈ names -> ∃ c, (clOf cells names acc).lookup x = some c
 | [], _, _, h => by cases h
 | (n, k) :: r, acc, x, h => by
  unfold clOf
  rcases mem_cons.mp h with e | h
  . cases e
    rw [if_pos (by decide)]
    exact clOf_acc ⟨(cells.lookup n).getD 0, by rw [lookup_cons]; simp⟩
  . by_cases hk : (k == NameKind.free) = true
    . rw [if_pos hk]; exact clOf_has h
    . rw [if_neg hk]; exact clOf_has h
theorem closure_of {scope : Scope} {env : Env} (h : ∀ y ∈ scope.names, y.2 = .free -> ∃ c, env.cells.lookup y.1 = some c) : closureFor scope env = pure (clOf env.cells scope.names []) := by
 have key : ∀ (names : List (Str × NameKind)) (acc : List (Str × Addr)), (∀ y ∈ names, y.2 = .free -> ∃ c, env.cells.lookup y.1 = some c) ->
  (forIn names acc fun (x : Str × NameKind) (cs : List (Str × Addr)) => (match x with
   | (name, kind) => if (kind == NameKind.free) = true then do let a <- cellOf env name; pure (ForInStep.yield ((name, a) :: cs)) else pure (ForInStep.yield cs)) : Sem (List (Str × Addr))) = pure (clOf env.cells names acc) := by
  intro names
  induction names with
  | nil => intro acc _; rfl
  | cons y r ih =>
   intro acc hy
   obtain ⟨n, k⟩ := y
   rw [List.forIn_cons]
   unfold clOf
   by_cases hk : (k == NameKind.free) = true
   . obtain ⟨c, e⟩ := hy (n, k) mem_cons_self (by simpa using hk)
     have e1 : cellOf env n = pure c := by unfold cellOf; rw [e]
     simp only [hk, if_true, e1, pure_bind]
     rw [ih _ fun z hz => hy z (mem_cons_of_mem _ hz), e]
     rfl
   . simp only [hk, if_false, pure_bind]
     exact ih _ fun z hz => hy z (mem_cons_of_mem _ hz)
 unfold closureFor
 have k := key scope.names [] h
 first
  | (simp only [bind_pure]; exact k)
  | (rw [k]; rfl)
  | exact k
theorem lookup_relabel {env : Env} {P : NameKind -> Prop} (hP : P .free -> P .cell) : ∀ {names : List (Str × NameKind)} {x : Str} {k : NameKind}, names.lookup x = some k -> P k ->
 ∃ k', (names.map fun (n, k) => if (k == NameKind.free && env.scope.kind == .function && env.kindOf n == some .cell) then (n, NameKind.cell) else (n, k)).lookup x = some k' /\ P k'
 | [], _, _, h, _ => by simp at h
 | (n, k0) :: r, x, k, h, p => by
  have ih := @lookup_relabel env P hP r x k
  show ∃ k', List.lookup x ((if (k0 == NameKind.free && env.scope.kind == .function && env.kindOf n == some .cell) = true then (n, NameKind.cell) else (n, k0)) :: _) = some k' /\ P k'
  cases hx : x == n with
  | true =>
   simp only [lookup_cons, hx] at h
   have hk : k0 = k := Option.some.inj h
   subst hk
   by_cases hc : (k0 == NameKind.free && env.scope.kind == .function && env.kindOf n == some .cell) = true
   . rw [if_pos hc]; simp only [lookup_cons, hx]
     refine ⟨_, rfl, ?_⟩
     have : k0 = .free := by simp at hc; exact hc.1.1
     subst this
     exact hP p
   . rw [if_neg hc]; simp only [lookup_cons, hx]; exact ⟨_, rfl, p⟩
  | false =>
   simp only [lookup_cons, hx] at h
   by_cases hc : (k0 == NameKind.free && env.scope.kind == .function && env.kindOf n == some .cell) = true
   . rw [if_pos hc]; simp only [lookup_cons, hx]; exact ih h p
   . rw [if_neg hc]; simp only [lookup_cons, hx]; exact ih h p
theorem unlook_relabel {env : Env} : ∀ {names : List (Str × NameKind)} {x : Str} {k' : NameKind}, (names.map fun (n, k) => if (k == NameKind.free && env.scope.kind == .function && env.kindOf n == some .cell) then (n, NameKind.cell) else (n, k)).lookup x = some k' ->
 ∃ k, (x, k) ∈ names /\ (k' = k \/ k = .free)
 | [], _, _, h => by simp at h
 | (n, k0) :: r, x, k', h => by
  have ih := @unlook_relabel env r x k'
  have h' : List.lookup x ((if (k0 == NameKind.free && env.scope.kind == .function && env.kindOf n == some .cell) = true then (n, NameKind.cell) else (n, k0)) :: (r.map fun (n, k) => if (k == NameKind.free && env.scope.kind == .function && env.kindOf n == some .cell) then (n, NameKind.cell) else (n, k))) = some k' := h
  cases hx : x == n with
  | true =>
   have hxn : x = n := by simpa using hx
   subst hxn
   by_cases hc : (k0 == NameKind.free && env.scope.kind == .function && env.kindOf x == some .cell) = true
   . have : k0 = .free := by simp at hc; exact hc.1.1
     exact ⟨k0, mem_cons_self, .inr this⟩
   . rw [if_neg hc] at h'; simp only [lookup_cons, hx] at h'
     cases h'
     exact ⟨k0, mem_cons_self, .inl rfl⟩
  | false =>
   have h2 : List.lookup x (r.map fun (n, k) => if (k == NameKind.free && env.scope.kind == .function && env.kindOf n == some .cell) then (n, NameKind.cell) else (n, k)) = some k' := by
    by_cases hc : (k0 == NameKind.free && env.scope.kind == .function && env.kindOf n == some .cell) = true
    . rw [if_pos hc] at h'; simp only [lookup_cons, hx] at h'; exact h'
    . rw [if_neg hc] at h'; simp only [lookup_cons, hx] at h'; exact h'
   obtain ⟨k, a, b⟩ := ih h2
   exact ⟨k, mem_cons_of_mem _ a, b⟩
def CapOk (X : Cx) : List Str -> List Nat -> Prop
 | [], [] => True
 | y :: ys, j :: js => (X.N[j]? = some y /\ (X.env.scope.names.lookup y = some .cell \/ X.env.scope.names.lookup y = some .free)) /\ CapOk X ys js
 | _, _ => False
theorem CapOk.at {X : Cx} : ∀ {caps : List Str} {js : List Nat}, CapOk X caps js -> ∀ (k : Nat) y j, caps[k]? = some y -> js[k]? = some j -> X.N[j]? = some y /\ (X.env.scope.names.lookup y = some .cell \/ X.env.scope.names.lookup y = some .free)
 | [], _, _, _, _, _, e, _ => by simp at e
 | _ :: _, [], h, _, _, _, _, _ => by exact False.elim h
 | y :: ys, j :: js, h, 0, _, _, e1, e2 => by simp at e1 e2; subst e1 e2; exact h.1
 | y :: ys, j :: js, h, k + 1, y', j', e1, e2 => h.2.at k y' j' (by simpa using e1) (by simpa using e2)
theorem CapOk.len {X : Cx} : ∀ {caps : List Str} {js : List Nat}, CapOk X caps js -> js.length = caps.length
 | [], [], _ => rfl
 | [], _ :: _, h => False.elim h
 | _ :: _, [], h => False.elim h
 | _ :: _, _ :: _, h => by simp [h.2.len]
structure BlkScope (X : Cx) (scope : Scope) (own caps : List Str) (js : List Nat) : Prop where
 kind : scope.kind = .function
 nocell : ∀ y ∈ scope.names, y.2 ≠ .cell
 names : ∀ y ∈ scope.names, y.2 = .local -> scope.names.lookup y.1 = some .local
 nd : (own ++ caps).Nodup
 own : ∀ y ∈ own, scope.names.lookup y = some .local
 capf : ∀ y ∈ caps, (y, NameKind.free) ∈ scope.names /\ scope.names.lookup y = some .free
 capO : CapOk X caps js
 free : ∀ y ∈ scope.names, y.2 = .free -> y.1 ∈ caps
def blk (X : Cx) (N' : List Str) (scope : Scope) (C : Addr) (s : Shared) (H : Hp) (fp : List Addr) : Cx :=
 { X with N := N', s₀ := s, H₀ := H, env := compEnvC scope (clOf X.env.cells scope.names []) C X.env, outer := X.stack, ex := fp, fn := fun _ => false, pn := [], xe := fun _ _ => False }
def capsOf (js : List Nat) (σ : St) : St := js.map fun j => (σ[j]?).join
section
variable {X : Cx} {pins : List (Addr × Obj)} {σ : St} {H H' : Hp} {s : Shared} {scope : Scope} {own caps : List Str} {js : List Nat} {fp : List Addr}
theorem BlkScope.cells (B : BlkScope X scope own caps js) (ok : X.Ok) : ∀ y ∈ scope.names, y.2 = .free -> ∃ c, X.env.cells.lookup y.1 = some c := fun y hy hf => by
 obtain ⟨k, hk⟩ := List.getElem?_of_mem (B.free y hy hf)
 have hj : k < js.length := by rw [B.capO.len]; exact (List.getElem?_eq_some_iff.mp hk).1
 obtain ⟨_, h⟩ := B.capO.at k y.1 js[k] hk (by simp [hj])
 exact ok.has y.1 h
theorem inv_blk (B : BlkScope X scope own caps js) (I : Inv X pins σ H s) (hf : ∀ b ∈ fp, FpOk X pins H b) (ho : ∀ b ∈ fp, b < s.heap.objs.size) {h4 : Heap} {tk : Nat}
 (hn : h4.Ns (s.heap.objs.size + 1) (fun _ => none)) (hk : ∀ b o, s.heap.get? b = some o -> h4.get? b = some o)
 (hl : h4.get? s.heap.objs.size = some { cls := .type "list", data := .seq ([] : List Value).toArray 0 }) :
 Inv (blk X (own ++ caps) scope (s.heap.objs.size + 1) s H fp) [] (own.map (fun _ => none) ++ capsOf js σ) (upd H s.heap.objs.size (.lst [])) { s with heap := h4, toks := tk } := by
 have fresh : H s.heap.objs.size = none := I.hok.fresh (Nat.le_refl _)
 have freshC : H (s.heap.objs.size + 1) = none := I.hok.fresh (Nat.le_succ _)
 have hcl := B.cells I.ok
 have sub := clOf_sub (acc := []) hcl (fun x c e => by simp at e)
 have ok' : (blk X (own ++ caps) scope (s.heap.objs.size + 1) s H fp).Ok := by
  refine ⟨I.ok.mod, B.kind, I.ok.glob, I.ok.blt, Nat.le_succ _, fun x y c h1 h2 => I.ok.inj x y c (sub x c h1) (sub y c h2), fun x hx => ?_, fun x c hx => (nomatch hx), I.ok.hd, I.ok.frames, .inl rfl, fun b hb => ⟨?_, fun x c e => ?_⟩, I.bs, Nat.le_trans I.ok.bsz I.sz, fun b o e hb => ?_, fun b hb hs => ?_, I.stack, I.stkFree⟩
  . have hx' : ∃ k', (scope.names.map fun (n, k) => if (k == NameKind.free && X.env.scope.kind == .function && X.env.kindOf n == some .cell) then (n, NameKind.cell) else (n, k)).lookup x = some k' /\ (k' = .cell \/ k' = .free) := by
     rcases hx with e | e
     . exact ⟨_, e, .inl rfl⟩
     . exact ⟨_, e, .inr rfl⟩
    obtain ⟨k', e, hk'⟩ := hx'
    obtain ⟨k, hm, q⟩ := unlook_relabel e
    have hfree : k = .free := by
     rcases q with q | q
     . subst q
       rcases hk' with z | z
       . exact absurd z (B.nocell _ hm)
       . exact z
     . exact q
    subst hfree
    exact clOf_has hm
  . exact Nat.ne_of_lt (Nat.lt_succ_of_lt (ho b hb))
  . exact (hf b hb).2.2.2.2.1 x c (sub x c e)
  . rcases (hf b hb).2.2.2.1 with z | z
    . exact I.ok.noex b o e z
    . exact absurd (Nat.lt_of_lt_of_le (lt_size e) (Nat.le_trans I.ok.bsz z)) (Nat.lt_irrefl _)
  . rcases mem_cons.mp (I.stkSub b hs) with z | z
    . exact (hf b hb).2.1 z
    . exact (hf b hb).2.2.1 z
 refine ⟨ok', rfl, I.bare, Un.laid hk (Nat.le_refl _) fresh, ⟨_, hn, fun i x v e1 e2 e3 => ?_⟩, fun x c e => ?_, ?_, fun x c e => ?_, fun p hp => absurd (show p ∈ ([] : List (Addr × Obj)) from hp) (by simp), I.hok.laid hk (Nat.le_refl _) ⟨Nat.zero_le _, [], 0, .nil, hl⟩, ?_⟩
 . have e1 : (own ++ caps)[i]? = some x := e1
   have hi : ¬ i < own.length := fun hi => by
    rw [getElem?_append_left (by simpa using hi), getElem?_map] at e2
    cases q : own[i]? with
    | none => rw [q] at e2; cases e2
    | some y => rw [q] at e2; cases e2
   rw [getElem?_append_right (by simpa using hi)] at e2
   rw [getElem?_append_right (by simpa using hi)] at e1
   rw [length_map] at e2
   unfold capsOf at e2
   rw [getElem?_map] at e2
   cases q : js[i - own.length]? with
   | none => rw [q] at e2; cases e2
   | some j =>
    rw [q] at e2
    have e2 : (σ[j]?).join = some v := by simpa using e2
    have e2' : σ[j]? = some (some v) := by
     cases z : σ[j]? with
     | none => rw [z] at e2; cases e2
     | some w => rw [z] at e2; simpa using e2
    obtain ⟨c1, c2⟩ := B.capO.at _ x j e1 q
    obtain ⟨m, _, hl'⟩ := I.loc
    obtain ⟨u, r, lk⟩ := hl' j x v c1 e2' (c2.elim (fun z => .inr (.inl z)) fun z => .inr (.inr z))
    refine ⟨u, r, ?_⟩
    rcases lk with ⟨z, _⟩ | ⟨_, c, ec, cell⟩
    . have z : X.env.scope.names.lookup x = some .local := z
      rcases c2 with c2 | c2 <;> (rw [c2] at z; cases z)
    . have hfr := B.capf x (mem_of_getElem? e1)
      obtain ⟨k', ek, pk⟩ := lookup_relabel (env := X.env) (P := fun k => k = .cell \/ k = .free) (fun _ => .inl rfl) hfr.2 (.inr rfl)
      refine .inr ⟨?_, c, ?_, ?_⟩
      . rcases pk with rfl | rfl
        . exact .inl ek
        . exact .inr ek
      . obtain ⟨c', e'⟩ := clOf_has (cells := X.env.cells) (acc := []) hfr.1
        have := sub x c' e'
        rw [ec] at this
        cases this
        exact e'
      . obtain ⟨oo, ho', hd'⟩ := cell
        exact ⟨oo, hk _ _ ho', hd'⟩
 . obtain ⟨v, oo, ho', hd'⟩ := I.cell x c (sub x c e)
   exact ⟨v, oo, hk _ _ ho', hd'⟩
 . show (upd H s.heap.objs.size (.lst [])) (s.heap.objs.size + 1) = none
   rw [upd_ne (Nat.succ_ne_self _)]; exact freshC
 . obtain ⟨v, oo, ho', hd'⟩ := I.cell x c (sub x c e)
   rw [upd_ne (Nat.ne_of_lt (lt_size ho'))]
   exact I.freeC x c (sub x c e)
 . show _ = (own ++ caps).length
   unfold capsOf
   rw [List.length_append, List.length_append, length_map, length_map, B.capO.len]
theorem inv_back {C : Addr} {σ' : St} {pl : List (Addr × Obj)} {s' : Shared} {h' : Heap} (I : Inv X pins σ H s) (hf : ∀ b ∈ fp, FpOk X pins H b) (I' : Inv (blk X (own ++ caps) scope C s H fp) pl σ' H' s') (hC : s.heap.objs.size <= C) (hs : Heap.SameBut C s'.heap h') :
 Inv X pins σ H' { s' with heap := h' } := by
 have neC : ∀ b o, s.heap.get? b = some o -> b ≠ C := fun b o e => Nat.ne_of_lt (Nat.lt_of_lt_of_le (lt_size e) hC)
 have freeC : H' C = none := I'.free
 have b' : Un (frs X.stack) fp H H' s.heap s'.heap := I'.base
 refine I.call' (s' := { s' with heap := h' }) (ch := fp) I'.os ⟨fun b o e n hb hx => (hs.2 b (neC b o e)).trans (b'.keep b o e n hb hx), fun b o e n hb hx => ?_, b'.free, fun b o e hx => ?_, b'.tups, b'.frzs, b'.tbls⟩ (fun b ob e => ?_) I'.bare fun b hb => ?_
 . obtain ⟨sl, e1⟩ := b'.slot b o e n hb hx
   exact ⟨sl, (hs.2 b (neC b o e)).trans e1⟩
 . obtain ⟨o', e1⟩ := b'.there b o e hx
   exact ⟨o', (hs.2 b (neC b o e)).trans e1⟩
 . refine (I'.hok b ob e).stay (fun c w' hc q => (hs.2 c ?_).trans q) (fun _ q => q) fun _ _ q => q
   rintro rfl
   rcases hc with rfl | hc
   . rw [freeC] at e; cases e
   . rw [freeC] at hc; cases hc
 . exact ⟨(hf b hb).2.2.2.1, (hf b hb).2.1, (hf b hb).2.2.2.2.1, (hf b hb).2.2.2.2.2⟩
end
theorem sure {α : Type} {M : Model} {A : Around} {m : Sem α} {P Q : α -> Shared -> Prop} {E : Value -> Shared -> Prop} {s : Shared} (h : wpAny M A m P (fun _ _ => False) s) (k : ∀ a s, P a s -> Q a s) : wpAny M A m Q E s := wpAny_mono h k fun _ _ f => f.elim
def PTs (X : Cx) (ifs : List Expr) (t : TT) : Prop := ∀ (pins : List (Addr × Obj)) (s : Shared) (σ : St) (H : Hp) (Q : Bool -> Hp -> Prop), Inv X pins σ H s -> t σ H Q ->
 wpAny (model X.prog X.w) X.A (forIn ifs true fun c r => if r = true then do let ok <- isTrue c X.env (eval c X.env); pure (ForInStep.yield ok) else pure (ForInStep.yield r)) (TP X pins σ Q) X.xe s
theorem pts_nil {X : Cx} : PTs X [] (fun _ H Q => Q true H) := fun pins s σ H Q I h => wpAny_tests_nil ⟨H, I, h⟩
theorem pts_one {X : Cx} {c : Expr} {t : TT} (h : PT X c t) : PTs X [c] t := fun pins s σ H Q I q => wpAny_tests_one (h pins s σ H Q I q)
def tComp (wi : TI) (n : Nat) (js : List Nat) (g : TG) (tc : Nat -> TT) (te : Nat -> TE) : TE := fun σ H Q => wi σ H fun J H1 => ∀ l, H1 l = none ->
 ∃ W : Nat -> Nat -> List V -> Hp -> Prop, (∃ m, W 0 m [] (upd H1 l (.lst []))) /\ ∀ i m xs H ow, ow.length = n -> W i m xs H -> H l = some (.lst xs) /\
  ((J.stop i H /\ Q (.ref l) H) \/ (J.go i H /\ ∀ x H', J.yld i H x H' -> g x (ow ++ capsOf js σ) H' fun σ2 H2 => (∃ ow', ow'.length = n /\ σ2 = ow' ++ capsOf js σ) /\
   tc i σ2 H2 fun b H3 => if b = true then te i σ2 H3 fun y H4 => H4 l = some (.lst xs) /\ xs.length < sizeLine /\ ∃ m', m' < m /\ W (i + 1) m' (xs ++ [y]) (upd H4 l (.lst (xs ++ [y])))
    else ∃ m', m' < m /\ W (i + 1) m' xs H3))
def CompEnd (X : Cx) (pins : List (Addr × Obj)) (σ : St) (Q : VK) (acc : Value) (C : Addr) (s' : Shared) : Prop :=
 ∃ v H', Inv X pins σ H' s' /\ RelV v acc /\ Q v H' /\ (∃ m, s'.heap.Ns C m) /\ FpOk X pins H' C
theorem comp_core {X : Cx} {elt tg iter : Expr} {ifs : List Expr} {scope : Scope} {pos : Pos} {own caps : List Str} {js : List Nat} {g : TG} {tc : Nat -> TT} {te : Nat -> TE} (hc : X.calm = true) (B : BlkScope X scope own caps js)
 (hg : ∀ C s H fp, PG (blk X (own ++ caps) scope C s H fp) tg g) (ht : ∀ C s H fp i, PTs (blk X (own ++ caps) scope C s H fp) ifs (tc i)) (he : ∀ C s H fp i, PE (blk X (own ++ caps) scope C s H fp) elt (te i))
 {pins : List (Addr × Obj)} {σ : St} {Q : VK} {itv : Value} {s2 : Shared} {RR : Value -> Addr -> Result -> Shared -> Prop} (hRR : ∀ acc C s', CompEnd X pins σ Q acc C s' -> RR acc C (.ok .next) s')
 (h2 : PIE X pins σ tg (fun J H1 => ∀ l, H1 l = none ->
  ∃ W : Nat -> Nat -> List V -> Hp -> Prop, (∃ m, W 0 m [] (upd H1 l (.lst []))) /\ ∀ i m xs H ow, ow.length = own.length -> W i m xs H -> H l = some (.lst xs) /\
   ((J.stop i H /\ Q (.ref l) H) \/ (J.go i H /\ ∀ x H', J.yld i H x H' -> g x (ow ++ capsOf js σ) H' fun σ2 H2 => (∃ ow', ow'.length = own.length /\ σ2 = ow' ++ capsOf js σ) /\
    tc i σ2 H2 fun b H3 => if b = true then te i σ2 H3 fun y H4 => H4 l = some (.lst xs) /\ xs.length < sizeLine /\ ∃ m', m' < m /\ W (i + 1) m' (xs ++ [y]) (upd H4 l (.lst (xs ++ [y])))
     else ∃ m', m' < m /\ W (i + 1) m' xs H3))) itv s2) :
 wpAny (model X.prog X.w) X.A (newList []) (fun acc s₃ => wpAny (model X.prog X.w) X.A (newFunctionEnv scope X.env.globals (clOf X.env.cells scope.names []) [] X.env.qual none .none (some X.env)) (fun cenv s₄ =>
  codeAny (model X.prog X.w) X.A (.compStart (.ListComp elt [⟨tg, iter, ifs, 0⟩] scope pos) 0 itv acc { cenv with scope := relabel scope X.env }) (RR acc cenv.locals) s₄) X.xe s₃) X.xe s2 := by
 obtain ⟨it, fp, tn, J, H2, e, I2, TT, st2, f2, q⟩ := h2
 subst e
 have fresh : H2 s2.heap.objs.size = none := I2.hok.fresh (Nat.le_refl _)
 obtain ⟨W, ⟨m0, w0⟩, turn⟩ := q s2.heap.objs.size fresh
 have hlt : ∀ b ∈ fp, b < s2.heap.objs.size := fun b hb => let ⟨o, e, _⟩ := TT.obj _ _ st2 b hb; lt_size e
 refine wpAny_newObj_type (wpAny_newFunctionEnv B.nocell (by intro y hy; simp at hy) (fun h₁ hns₁ hsb₁ => ?_) B.kind)
 dsimp only at hns₁ hsb₁ ⊢
 generalize hH2 : s2.heap.push { cls := .type "list", dict := none, data := .seq ([] : List Value).toArray } = H3 at hns₁ hsb₁ ⊢
 have hC : H3.objs.size = s2.heap.objs.size + 1 := by rw [<- hH2, Heap.size_push]
 have old : ∀ b o, s2.heap.get? b = some o -> h₁.get? b = some o := fun b o e => hsb₁.extBut b o (by rw [hC]; exact Nat.ne_of_lt (Nat.lt_succ_of_lt (lt_size e))) (get?_push_of_some _ (hH2 ▸ get?_push_of_some _ e))
 have hacc : h₁.get? s2.heap.objs.size = some { cls := .type "list", data := .seq ([] : List Value).toArray 0 } :=
  hsb₁.extBut _ _ (by rw [hC]; exact Nat.ne_of_lt (Nat.lt_succ_self _)) (get?_push_of_some _ (hH2 ▸ get?_push_size _ rfl))
 have hns : h₁.Ns (s2.heap.objs.size + 1) (fun _ => none) := by rw [<- hC]; exact hns₁
 have I4 : ∀ tk, Inv (blk X (own ++ caps) scope (s2.heap.objs.size + 1) s2 H2 fp) [] (own.map (fun _ => none) ++ capsOf js σ) (upd H2 s2.heap.objs.size (.lst [])) { s2 with heap := h₁, toks := tk } := fun tk => inv_blk B I2 f2 hlt hns old hacc
 rw [hC]
 -- what stays of the iterator
 have stat : ∀ {H' : Hp}, (∀ b ∈ fp, H' b = none) -> ∀ b ∈ fp, FpOk (blk X (own ++ caps) scope (s2.heap.objs.size + 1) s2 H2 fp) [] H' b := fun {H'} hn b hb => by
  have F := (I4 0).ok
  exact ⟨hn b hb, (F.exf b hb).1, F.exfs b hb, .inl hb, (F.exf b hb).2, fun p hp => absurd (show p ∈ ([] : List (Addr × Obj)) from hp) (by simp)⟩
 have loop : ∀ s3 : Shared, s3 = { s2 with heap := h₁, toks := s2.toks + ([] : List (Str × Value)).length } ->
  codeAny (model X.prog X.w) X.A (.compLoop (.ListComp elt [⟨tg, iter, ifs, 0⟩] scope pos) 0 (.ref it) (.ref s2.heap.objs.size) (compEnvC scope (clOf X.env.cells scope.names []) (s2.heap.objs.size + 1) X.env))
   (RR (.ref s2.heap.objs.size) (s2.heap.objs.size + 1)) s3 := by
  rintro s3 rfl
  refine codeAny_loop rfl (fun n s' => ∃ i xs ow H', ow.length = own.length /\ Inv (blk X (own ++ caps) scope (s2.heap.objs.size + 1) s2 H2 fp) [] (ow ++ capsOf js σ) H' s' /\ tn i s'.heap /\ (∀ b ∈ fp, H' b = none) /\ W i n xs H') ?_ m0
   ⟨0, [], own.map (fun _ => none), _, by simp, I4 _, TT.keep _ _ _ st2 fun b _ o e => old b o e, fun b hb => by rw [upd_ne (Nat.ne_of_lt (hlt b hb))]; exact (f2 b hb).1, w0⟩
  rintro n s4 ⟨i, xs, ow, H4, how, I5, st4, fr4, w4⟩
  obtain ⟨hl4, q4⟩ := turn i n xs H4 ow how w4
  refine wpAny_noted ?_
  refine cast (congrArg (fun m => wpAny (model X.prog X.w) X.A m _ _ s4) (compTurn_list _ _ _ _ _ _ _ _ _).symm) ?_
  refine wpAny_bind (wpAny_standAt (wpAny_bind ?_))
  rcases q4 with ⟨stop, qn⟩ | ⟨go, step⟩
  . refine sure (TT.done (blk X (own ++ caps) scope (s2.heap.objs.size + 1) s2 H2 fp) rfl rfl rfl hc i [] s4 _ H4 _ I5 (stat fr4) st4 stop) fun r s6 ⟨hr, I6⟩ => ?_
    subst hr
    obtain ⟨m, hm, _⟩ := I6.loc
    refine wpAny_pure (hRR _ _ _ ⟨.ref s2.heap.objs.size, H4, inv_back I2 f2 I6 (Nat.le_succ _) (Heap.SameBut.refl ..), rfl, qn, ⟨m, hm⟩, I2.fpOk (Nat.le_succ _) I6.free⟩)
  . refine sure (TT.item (blk X (own ++ caps) scope (s2.heap.objs.size + 1) s2 H2 fp) rfl rfl rfl hc i [] s4 _ H4 (fun _ _ => False) I5 (stat fr4) st4 go) fun r s6 ⟨u, hr, h6⟩ => ?_
    subst hr
    refine wpAny_bind (sure h6 fun _ s7 ⟨x, H7, I7, r7, y7, st7, fr7⟩ => ?_)
    have I7' := I7.pinned (stat fr7) (TT.obj _ _ st7)
    refine wpAny_bind (sure (hg _ _ _ _ _ s7 _ H7 x u _ I7' r7 (step x H7 y7)) fun _ s8 ⟨σ8, H8, I8, ⟨ow', how', eσ⟩, q8⟩ => ?_)
    subst eσ
    refine wpAny_bind (sure (ht _ _ _ _ i _ s8 _ H8 _ I8 q8) fun b s9 ⟨H9, I9, q9⟩ => ?_)
    have again : ∀ {H10 : Hp} {s10 : Shared}, Inv (blk X (own ++ caps) scope (s2.heap.objs.size + 1) s2 H2 fp) ([] ++ pinsAt fp s7.heap) (ow' ++ capsOf js σ) H10 s10 -> tn (i + 1) s10.heap /\ ∀ b ∈ fp, H10 b = none := fun {H10 s10} I10 => by
     refine ⟨TT.keep _ _ _ st7 fun b hb o e => (I10.pin (b, o) (mem_append_right _ (mem_append_right _ (mem_pinsAt hb e)))).1, fun b hb => ?_⟩
     obtain ⟨o, e, d⟩ := TT.obj _ _ st7 b hb
     exact (I10.pin (b, o) (mem_append_right _ (mem_append_right _ (mem_pinsAt hb e)))).2.1
    cases b with
    | false =>
     rw [if_neg Bool.false_ne_true] at q9
     obtain ⟨m', hm, w9⟩ := q9
     exact wpAny_pure ⟨rfl, m', hm, i + 1, xs, ow', H9, how', I9.unpinned, (again I9).1, (again I9).2, w9⟩
    | true =>
     rw [if_pos rfl] at q9
     refine wpAny_bind (wpAny_bind (sure (he _ _ _ _ i _ s9 _ H9 _ I9 q9) fun y s10 ⟨z, H10, I10, r10, hl10, hz, m', hm, w10⟩ => wpAny_bind ?_))
     refine sure (mt_append _ s10 _ H10 (.ref s2.heap.objs.size) [z] (.ref s2.heap.objs.size) [y] (fun _ H' => H' = upd H10 s2.heap.objs.size (.lst (xs ++ [z]))) I10 rfl (.cons r10 .nil) ⟨_, xs, z, rfl, rfl, hl10, hz, rfl⟩) fun _ s11 ⟨_, H11, I11, _, e11⟩ => ?_
     subst e11
     exact wpAny_pure (wpAny_pure ⟨rfl, m', hm, i + 1, xs ++ [z], ow', _, how', I11.unpinned, (again I11).1, (again I11).2, w10⟩)
 exact codeAny_compStart_list (loop _ rfl) (TT.self _ 0 _ _ _ (TT.keep _ _ _ st2 fun b _ o e => old b o e) (loop _ rfl))
theorem away {X : Cx} {pins : List (Addr × Obj)} {σ : St} {H : Hp} {s : Shared} {C : Addr} {h' : Heap} (I : Inv X pins σ H s) (f : FpOk X pins H C) (hs : Heap.SameBut C s.heap h') : Inv X pins σ H { s with heap := h' } :=
 I.turned (t' := s.toks) (fun b o hb e => (hs.2 b hb).trans e) f.1 f.2.1 f.2.2.2.1 f.2.2.2.2.1 f.2.2.2.2.2
theorem pe_comp {X : Cx} {elt tg iter : Expr} {ifs : List Expr} {scope : Scope} {pos : Pos} {wi : TI} {own caps : List Str} {js : List Nat} {g : TG} {tc : Nat -> TT} {te : Nat -> TE} (hc : X.calm = true) (B : BlkScope X scope own caps js) (hi : PI X tg iter wi)
 (hg : ∀ C s H fp, PG (blk X (own ++ caps) scope C s H fp) tg g) (ht : ∀ C s H fp i, PTs (blk X (own ++ caps) scope C s H fp) ifs (tc i)) (he : ∀ C s H fp i, PE (blk X (own ++ caps) scope C s H fp) elt (te i))
 (hs : ∀ x, foldedSetIterable iter X.env x = pure x := by intro _; rfl) : PE X (.ListComp elt [⟨tg, iter, ifs, 0⟩] scope pos) (tComp wi own.length js g tc te) := by
 intro pins s σ H Q I h
 rw [eval_ListComp]
 refine wpAny_comprehension_free (use := none) rfl hs (closure_of (B.cells I.ok)) B.kind B.names (thn (hi pins s σ H _ I h) fun v s1 h1 => thn h1 fun itv s2 h2 => ?_)
 refine comp_core (RR := fun acc C => compPost (model X.prog X.w) X.A X.xe none (EP X pins σ Q) acc C) hc B hg ht he (fun acc C s' ⟨v, H', I', r, q, ⟨m, hm⟩, f⟩ => ?_) h2
 exact ⟨m, hm, fun h' hs' => ⟨v, H', away I' f hs', r, q⟩⟩
theorem ps_comp {X : Cx} {elt tg iter : Expr} {ifs : List Expr} {scope : Scope} {pos spos py : Pos} {wi : TI} {own caps : List Str} {js : List Nat} {g : TG} {tc : Nat -> TT} {te : Nat -> TE} {y : Str} {k : Nat} (hN : X.N.Nodup) (hk : X.N[k]? = some y) (hy : Loc X.env.scope y)
 (hc : X.calm = true) (B : BlkScope X scope own caps js) (hi : PI X tg iter wi)
 (hg : ∀ C s H fp, PG (blk X (own ++ caps) scope C s H fp) tg g) (ht : ∀ C s H fp i, PTs (blk X (own ++ caps) scope C s H fp) ifs (tc i)) (he : ∀ C s H fp i, PE (blk X (own ++ caps) scope C s H fp) elt (te i))
 (hsw : swapsWith (.ListComp elt [⟨tg, iter, ifs, 0⟩] scope pos) (some (.Name y py)) spos.line X.env = pure true) (hf : X.fn y = true \/ X.env.scope.names.lookup y = some .local)
 (hs : ∀ x, foldedSetIterable iter X.env x = pure x := by intro _; rfl) : PS X (.Assign [.Name y py] (.ListComp elt [⟨tg, iter, ifs, 0⟩] scope pos) spos) (tAsg (tComp wi own.length js g tc te) (gName k)) := by
 intro pins s σ H D I h
 rw [exec_Assign_Name_used _ _ _ _ hsw]
 refine wpAny_bind (wpAny_standAt (wpAny_bind ?_))
 show wpAny _ X.A (do let _ <- comprehension (.ListComp elt [⟨tg, iter, ifs, 0⟩] scope pos) scope X.env _ (newList []) false (eval iter X.env) (some (assign (.Name y py) X.env))) _ _ s
 refine wpAny_bind (wpAny_mono (wpAny_comprehension_free (use := some (assign (.Name y py) X.env)) (Q := fun _ s' => SP X pins D .next s') rfl hs (closure_of (B.cells I.ok)) B.kind B.names
  (thn (hi pins s σ H _ I h) fun v s1 h1 => thn h1 fun itv s2 h2 => ?_)) (fun _ s' hq => wpAny_pure (wpAny_pure hq)) fun _ _ e => e)
 refine comp_core (RR := fun acc C => compPost (model X.prog X.w) X.A X.xe (some (assign (.Name y py) X.env)) (fun _ s' => SP X pins D .next s') acc C) (pins := pins) (σ := σ) (Q := fun v H' => D.nx (σ.set k (some v)) H') hc B hg ht he (fun acc C s' ⟨v, H', I', r, q, ⟨m, hm⟩, f⟩ => ?_) h2
 show wpAny _ X.A (assign (.Name y py) X.env acc) _ _ _
 refine wpAny_assign_Name (store_ok2 I' hN hk hy r (fun s'' I'' ⟨a, sb, ha⟩ => ?_) hf)
 have hCa : C ≠ a := by
  rcases ha with rfl | ha
  . exact f.2.1
  . exact fun z => f.2.2.2.2.1 y a ha z.symm
 exact ⟨m, hm.sameBut sb hCa, fun h' hs' => ⟨_, H', away I'' f hs', q⟩⟩
structure Yields (K : Frag) (J : It) (vs : List V) (srcs ds : List D) : Prop where
 go : ∀ (Z : Zone) H, Z.Open H -> Ins K H Z srcs vs -> ∀ (i : Nat) d, ds[i]? = some d -> J.go i H /\ ∀ x H2, J.yld i H x H2 -> Same H H2 /\ In K H2 Z d x
 stop : ∀ (Z : Zone) H, Z.Open H -> Ins K H Z srcs vs -> J.stop ds.length H
def tIT (K : Frag) (m : Bool) (ρ : List (Option D)) (ds : List D) : TI := fun σ H R => ∃ Z : Zone, Z.Open H /\ EnvIn K H Z σ ρ /\
 ∀ J H' vs srcs, Same H H' -> Ins K H' (out m Z H) srcs vs -> Yields K J vs srcs ds -> R J H'
def IT (X : Cx) (tg : Expr) (m : Bool) (ρ : List (Option D)) (iter : Expr) (ds : List D) : Prop := PI X tg iter (tIT X.K m ρ ds)
theorem PI.mono {X : Cx} {tg iter : Expr} {t t' : TI} (h : PI X tg iter t) (k : ∀ σ H R, t' σ H R -> t σ H R) : PI X tg iter t' := fun pins s σ H R I q => h pins s σ H R I (k σ H R q)
section
variable {X : Cx} {ρ : List (Option D)} {m m1 m2 : Bool} {tg e a b : Expr} {ds : List D} {d : D} {pos p : Pos}
theorem it_list (h : E X m ρ e (.lst ds)) : IT X tg m ρ e ds := PI.mono (pi_list h) fun σ H R z0 => el13 z0 fun Z oz en k => ⟨Z, oz, en, fun v H1 s1 i1 => by
 obtain ⟨a, xs, rfl, l, j⟩ := in_lst.mp i1
 refine ⟨a, rfl, ⟨xs, l.sq⟩, k _ H1 [.ref a] [.lst ds] s1 (Ins.one i1) ⟨fun Z2 H2 o2 j2 i d e => ?_, fun Z2 H2 o2 j2 => ?_⟩⟩
 . obtain ⟨w, r, e1, j3, j4⟩ := ins_cons.mp j2
   cases e1
   obtain ⟨a', ys, e2, l2, j5⟩ := in_lst.mp j3
   cases e2
   obtain ⟨v, e3, iv⟩ := j5.get e
   refine ⟨⟨ys, v, l2.sq, e3⟩, fun x H3 ⟨e4, y⟩ => ?_⟩
   subst e4
   have := y ys l2.sq
   rw [e3] at this
   cases this
   exact ⟨Same.refl _, iv⟩
 . obtain ⟨w, r, e1, j3, j4⟩ := ins_cons.mp j2
   cases e1
   obtain ⟨a', ys, e2, l2, j5⟩ := in_lst.mp j3
   cases e2
   exact ⟨ys, l2.sq, Nat.le_of_eq j5.length.symm⟩⟩
def rangeD (lo : Int) (n : Nat) : List D := (List.range n).map fun i => D.int (lo + (i : Nat))
theorem rangeD_get {lo : Int} {n i : Nat} {d : D} (h : (rangeD lo n)[i]? = some d) : i < n /\ d = .int (lo + i) := by
 unfold rangeD at h
 rw [getElem?_map] at h
 by_cases hi : i < n
 . rw [List.getElem?_range hi] at h
   exact ⟨hi, by simpa using h.symm⟩
 . rw [List.getElem?_eq_none (by simpa using hi)] at h
   cases h
theorem rangeD_len {lo : Int} {n : Nat} : (rangeD lo n).length = n := by simp [rangeD]
theorem yields_range {K : Frag} (lo : Int) (n : Nat) : Yields K (Itr lo n) [] [] (rangeD lo n) :=
 ⟨fun Z H _ _ i d e => by
  obtain ⟨hi, rfl⟩ := rangeD_get e
  refine ⟨hi, fun x H2 ⟨e1, e2⟩ => ?_⟩
  subst e1 e2
  exact ⟨Same.refl _, in_int.mpr rfl⟩, fun Z H _ _ => by rw [rangeD_len]; exact Nat.le_refl n⟩
theorem it_range {n : Int} (h : E X m1 ρ a (.int n)) (hn : n < 2 ^ 62) (hn2 : -(2 ^ 62) <= n) (hm : X.mg "range" = none) (hg : Gl X "range" := by rfl) (hs : starEach [a] X.env = [(false, eval a X.env)] := by rfl) :
 IT X tg m ρ (.Call (.Name "range" p) [a] [] pos) (rangeD 0 n.toNat) :=
 PI.mono (pi_range1 hg hm (pa_cons h pa_nil (by rw [hs]; rfl)) hs) fun σ H R z0 => el13 z0 fun Z oz en k => ⟨Z, oz, en, fun v H1 s1 i1 => ⟨n, by rw [in_int.mp (i1.plain oz)], hn2, hn, k _ H1 [] [] s1 (ins_nil.mpr rfl) (yields_range 0 n.toNat)⟩⟩
def TS' (X : Cx) (ρ : List (Option D)) (ifs : List Expr) (b : Bool) : Prop := PTs X ifs (tB' X.K ρ b)
theorem ts_nil : TS' X ρ [] true := fun pins s σ H Q I z0 => el13 z0 fun Z oz en k => pts_nil pins s σ H Q I (k H (Same.refl H))
theorem ts_one {p : Bool} (h : T X ρ e p) : TS' X ρ [e] p := pts_one h
def capD (js : List Nat) (ρ : List (Option D)) : List (Option D) := js.map fun j => (ρ[j]?).join
theorem envIn_caps {K : Frag} {H : Hp} {Z : Zone} {σ : St} {js : List Nat} (en : EnvIn K H Z σ ρ) {ow : St} {ov : List (Option D)} (hl : ow.length = ov.length) (h : ∀ (i : Nat) d, ov[i]? = some (some d) -> ∃ v, ow[i]? = some (some v) /\ In K H Z d v) :
 EnvIn K H Z (ow ++ capsOf js σ) (ov ++ capD js ρ) := fun i d e => by
 by_cases hi : i < ov.length
 . rw [getElem?_append_left hi] at e
   rw [getElem?_append_left (by omega)]
   exact let ⟨v, a, b⟩ := h i d e; ⟨v, a, b.top⟩
 . rw [getElem?_append_right (by omega)] at e
   rw [getElem?_append_right (by omega), hl]
   unfold capD at e
   unfold capsOf
   rw [getElem?_map] at e ⊢
   cases q : js[i - ov.length]? with
   | none => rw [q] at e; cases e
   | some j =>
    rw [q] at e
    have e : (ρ[j]?).join = some d := by simpa using e
    have e' : ρ[j]? = some (some d) := by
     cases z : ρ[j]? with
     | none => rw [z] at e; cases e
     | some w => rw [z] at e; simpa using e
    obtain ⟨v, a, b⟩ := en j d e'
    exact ⟨v, by simp [a], b⟩
def tcD (K : Frag) (js : List Nat) (ρ : List (Option D)) (ds : List D) (p : D -> Bool) (i : Nat) : TT := fun σ H Q => ∃ d, ds[i]? = some d /\ tB' K ([some d] ++ capD js ρ) (p d) σ H Q
def teD (K : Frag) (js : List Nat) (ρ : List (Option D)) (ds : List D) (p : D -> Bool) (f : D -> D) (me : Bool) (i : Nat) : TE := fun σ H Q => ∃ d, ds[i]? = some d /\ p d = true /\ tE K me ([some d] ++ capD js ρ) (f d) σ H Q
theorem comp_reads {js : List Nat} {me : Bool} (p : D -> Bool) (f : D -> D) (hz : ds.length <= sizeLine) (hm : m = true -> me = true \/ ∀ d ∈ ds, (f d).flat = true) (σ : St) (H : Hp) (Q : VK) (h : tE X.K m ρ (.lst ((ds.filter p).map f)) σ H Q) :
 tComp (tIT X.K m1 ρ ds) 1 js (gName 0) (tcD X.K js ρ ds p) (teD X.K js ρ ds p f me) σ H Q := by
 obtain ⟨Z, oz, en, k⟩ := h
 refine ⟨Z, oz, en, fun J H1 vs srcs s1 i1 Y l hl => ?_⟩
 have hlH : H l = none := s1.free hl
 -- all zones without l
 have noL : ∀ {ds : List D} {vs : List V} {Z' : Zone} {Ha Hb : Hp}, Ha l = none -> Same Ha Hb -> Ins X.K Ha Z' ds vs -> Ins X.K Hb ⟨Z'.m, fun a => Z'.S a /\ a ≠ l⟩ ds vs := fun {ds vs Z' Ha Hb} ha sa h => Ins.carry (Z' := ⟨Z'.m, fun a => Z'.S a /\ a ≠ l⟩) (Carry.of sa (fun a zs e z => ⟨z, ne_of_none e ha⟩) fun m => m) h
 have noL1 : ∀ {d : D} {v : V} {Z' : Zone} {Ha Hb : Hp}, Ha l = none -> Same Ha Hb -> In X.K Ha Z' d v -> In X.K Hb ⟨Z'.m, fun a => Z'.S a /\ a ≠ l⟩ d v := fun {d v Z' Ha Hb} ha sa h => In.carry (Z' := ⟨Z'.m, fun a => Z'.S a /\ a ≠ l⟩) (Carry.of sa (fun a zs e z => ⟨z, ne_of_none e ha⟩) fun m => m) h
 refine ⟨fun i n xs H' => n = ds.length - i /\ i <= ds.length /\ Same H1 H' /\ H' l = some (.lst xs) /\ xs.length <= i /\ Ins X.K H' ⟨(out m Z H).m, fun a => (out m Z H).S a /\ a ≠ l⟩ (((ds.take i).filter p).map f) xs, ⟨ds.length, by simp, Nat.zero_le _, same_new hl, upd_same, Nat.zero_le _, by simp; exact ins_nil.mpr rfl⟩, ?_⟩
 rintro i n xs H' ow how ⟨rfl, hi', s1', hl', hxi, jx⟩
 refine ⟨hl', ?_⟩
 have srcsZ : Ins X.K H1 Z srcs vs := by
  cases m1
  . exact i1
  . exact i1.up oz
 let Zl : Zone := ⟨Z.m, fun a => Z.S a /\ a ≠ l⟩
 have opl : ∀ {Ha : Hp} {o : HO}, Same H Ha -> Ha l = some o -> Zl.Open Ha := fun sa e => ⟨fun a ha => ⟨oz.op a (sa.free ha), by rintro rfl; rw [e] at ha; cases ha⟩, sa.tabs oz.tb⟩
 by_cases hlt : i < ds.length
 . have hd : ds[i]? = some ds[i] := by simp [hlt]
   obtain ⟨go, yl⟩ := Y.go Zl H' (opl (s1.trans s1') hl') (noL hl s1' srcsZ) i ds[i] hd
   refine .inr ⟨go, fun y H2 hy => ?_⟩
   obtain ⟨s2, iy⟩ := yl y H2 hy
   have hl2 : H2 l = some (.lst xs) := s2.at hl'
   have sH2 : Same H H2 := (s1.trans s1').trans s2
   obtain ⟨w, rfl⟩ : ∃ w, ow = [w] := by
    match ow, how with
    | [w], _ => exact ⟨w, rfl⟩
   have en2 : EnvIn X.K H2 Zl ([some y] ++ capsOf js σ) ([some ds[i]] ++ capD js ρ) := envIn_caps (fun i d e => let ⟨v, a, b⟩ := en i d e; ⟨v, a, InT.carry (Z' := Zl) (Carry.of sH2 (fun a zs e z => ⟨z, ne_of_none e hlH⟩) fun m => m) b⟩) rfl fun i d e => by
    match i, e with
    | 0, e => cases e; exact ⟨y, rfl, iy⟩
   refine ⟨⟨[some y], rfl, rfl⟩, ds[i], hd, Zl, opl sH2 hl2, en2, fun H3 s3 => ?_⟩
   have hl3 : H3 l = some (.lst xs) := s3.at hl2
   have st : (ds.take (i + 1)).filter p = (ds.take i).filter p ++ (if p ds[i] then [ds[i]] else []) := take_succ_filter p ds i ds[i] hd
   cases hp : p ds[i] with
   | false =>
    refine iteF ?_
    refine ⟨ds.length - (i + 1), by omega, rfl, hlt, (s1'.trans s2).trans s3, hl3, by omega, ?_⟩
    rw [st, hp]
    simp only [Bool.false_eq_true, if_false, append_nil]
    exact jx.same (s2.trans s3)
   | true =>
    refine iteT ?_
    refine ⟨ds[i], hd, hp, Zl, opl (sH2.trans s3) hl3, en2.same s3, fun v H4 s4 iv => ?_⟩
    have hl4 : H4 l = some (.lst xs) := s4.at hl3
    refine ⟨hl4, by omega, ds.length - (i + 1), by omega, rfl, hlt, ((s1'.trans s2).trans (s3.trans s4)).write hl hl4, upd_same, by rw [List.length_append]; simp; omega, ?_⟩
    . rw [st, hp]
      simp only [if_true, map_append, map_cons, map_nil]
      have n : ¬ (⟨(out m Z H).m, fun a => (out m Z H).S a /\ a ≠ l⟩ : Zone).S l := fun z => z.2 rfl
      refine Ins.append ((jx.same (s2.trans (s3.trans s4))).carry (.write hl4 n)) (Ins.one ?_)
      refine In.carry (.write hl4 n) ?_
      cases m with
      | false => exact iv.plain (opl (sH2.trans s3) hl3)
      | true =>
       rcases hm rfl with h | h
       . subst h
         exact In.carry (Z := nw H3) (Z' := ⟨true, fun a => H a = none /\ a ≠ l⟩) ⟨fun a zs e z => ⟨e, (sH2.trans s3).free z, by rintro rfl; have z : H3 a = none := z; rw [hl3] at z; cases z⟩, fun m => nwF m, fun _ _ e => e⟩ iv
       . exact iv.flat' (h _ (getElem_mem hlt))
 . have e : i = ds.length := by omega
   subst e
   refine .inl ⟨Y.stop Zl H' (opl (s1.trans s1') hl') (noL hl s1' srcsZ), k (.ref l) H' (s1.trans s1') (in_lst.mpr ⟨l, xs, rfl, .inl ⟨hl', ?_⟩, ?_⟩)⟩
   . cases m
     . exact oz l hlH
     . exact hlH
   . rw [take_length] at jx
     exact Ins.carry (Z := ⟨(out m Z H).m, fun a => (out m Z H).S a /\ a ≠ l⟩) (Z' := out m Z H) (Carry.of (Same.refl H') (fun a zs e z => And.left z) fun m => m) jx
structure EC (X : Cx) (m : Bool) (ρ : List (Option D)) (e : Expr) (d : D) : Prop where
 val : E X m ρ e d
 s : ∀ (y : Str) (k : Nat) (spos py : Pos), X.N.Nodup -> X.N[k]? = some y -> Loc X.env.scope y -> swapsWith e (some (.Name y py)) spos.line X.env = pure true -> (X.fn y = true \/ X.env.scope.names.lookup y = some .local) -> PS X (.Assign [.Name y py] e spos) (tAsg (tE X.K m ρ d) (gName k))
theorem EC.cast {d' : D} (h : EC X m ρ e d) (q : d = d') : EC X m ρ e d' := q ▸ h
theorem PS.mono' {X : Cx} {st : Stmt} {t t' : TS} (h : PS X st t) (k : ∀ Q σ H, t' Q σ H -> t Q σ H) : PS X st t' := fun pins s σ H Q I q => h pins s σ H Q I (k Q σ H q)
theorem ec_comp {elt iter : Expr} {x : Str} {px : Pos} {ifs : List Expr} {scope : Scope} {me : Bool} (caps : List Str) (js : List Nat) (p : D -> Bool) (f : D -> D) (hi : IT X (.Name x px) m1 ρ iter ds)
 (ht : ∀ C s H fp d, d ∈ ds -> TS' (blk X ([x] ++ caps) scope C s H fp) ([some d] ++ capD js ρ) ifs (p d)) (he : ∀ C s H fp d, d ∈ ds -> p d = true -> E (blk X ([x] ++ caps) scope C s H fp) me ([some d] ++ capD js ρ) elt (f d))
 (hz : ds.length <= sizeLine) (hm : m = true -> me = true \/ ∀ d ∈ ds, (f d).flat = true := by intro h; first | exact .inl h | cases h) (hc : X.calm = true := by rfl)
 (B : BlkScope X scope [x] caps js := by exact ⟨rfl, by decide, by decide, by decide, by decide, by decide, by repeat (first | exact trivial | refine ⟨⟨rfl, by first | exact .inl rfl | exact .inr rfl⟩, ?_⟩), by decide⟩)
 (hs : ∀ x, foldedSetIterable iter X.env x = pure x := by intro _; rfl) : EC X m ρ (.ListComp elt [⟨.Name x px, iter, ifs, 0⟩] scope pos) (.lst ((ds.filter p).map f)) := by
 have hg : ∀ C s H fp, PG (blk X ([x] ++ caps) scope C s H fp) (.Name x px) (gName 0) := fun C s H fp => pg_name (i := 0) B.nd rfl (.inl (lookup_relabel_local (B.own x (by simp)))) (.inr (lookup_relabel_local (B.own x (by simp))))
 have ht' : ∀ C s H fp i, PTs (blk X ([x] ++ caps) scope C s H fp) ifs (tcD X.K js ρ ds p i) := fun C s H fp i pins s' σ H' Q I h => by
  obtain ⟨d, hd, h⟩ := h
  exact ht C s H fp d (mem_of_getElem? hd) pins s' σ H' Q I h
 have he' : ∀ C s H fp i, PE (blk X ([x] ++ caps) scope C s H fp) elt (teD X.K js ρ ds p f me i) := fun C s H fp i pins s' σ H' Q I h => by
  obtain ⟨d, hd, hp, h⟩ := h
  exact he C s H fp d (mem_of_getElem? hd) hp pins s' σ H' Q I h
 refine ⟨PE.mono (pe_comp (own := [x]) (caps := caps) hc B hi hg ht' he' hs) fun σ H Q h => comp_reads p f hz hm σ H Q h, fun y k spos py hN hk hy hsw hf => ?_⟩
 exact PS.mono' (ps_comp (own := [x]) (caps := caps) hN hk hy hc B hi hg ht' he' hsw hf hs) fun Q σ H h => comp_reads p f hz hm σ H _ h
theorem e_comp {elt iter : Expr} {x : Str} {px : Pos} {ifs : List Expr} {scope : Scope} {me : Bool} (caps : List Str) (js : List Nat) (p : D -> Bool) (f : D -> D) (hi : IT X (.Name x px) m1 ρ iter ds)
 (ht : ∀ C s H fp d, d ∈ ds -> TS' (blk X ([x] ++ caps) scope C s H fp) ([some d] ++ capD js ρ) ifs (p d)) (he : ∀ C s H fp d, d ∈ ds -> p d = true -> E (blk X ([x] ++ caps) scope C s H fp) me ([some d] ++ capD js ρ) elt (f d))
 (hz : ds.length <= sizeLine) (hm : m = true -> me = true \/ ∀ d ∈ ds, (f d).flat = true := by intro h; first | exact .inl h | cases h) (hc : X.calm = true := by rfl)
 (B : BlkScope X scope [x] caps js := by exact ⟨rfl, by decide, by decide, by decide, by decide, by decide, by repeat (first | exact trivial | refine ⟨⟨rfl, by first | exact .inl rfl | exact .inr rfl⟩, ?_⟩), by decide⟩)
 (hs : ∀ x, foldedSetIterable iter X.env x = pure x := by intro _; rfl) : E X m ρ (.ListComp elt [⟨.Name x px, iter, ifs, 0⟩] scope pos) (.lst ((ds.filter p).map f)) := (ec_comp caps js p f hi ht he hz hm hc B hs).val
theorem e_map {elt iter : Expr} {x : Str} {px : Pos} {scope : Scope} {me : Bool} (caps : List Str) (js : List Nat) (f : D -> D) (hi : IT X (.Name x px) m1 ρ iter ds)
 (he : ∀ C s H fp d, d ∈ ds -> E (blk X ([x] ++ caps) scope C s H fp) me ([some d] ++ capD js ρ) elt (f d)) (hz : ds.length <= sizeLine) (hm : m = true -> me = true \/ ∀ d ∈ ds, (f d).flat = true := by intro h; first | exact .inl h | cases h) (hc : X.calm = true := by rfl)
 (B : BlkScope X scope [x] caps js := by exact ⟨rfl, by decide, by decide, by decide, by decide, by decide, by repeat (first | exact trivial | refine ⟨⟨rfl, by first | exact .inl rfl | exact .inr rfl⟩, ?_⟩), by decide⟩)
 (hs : ∀ x, foldedSetIterable iter X.env x = pure x := by intro _; rfl) : E X m ρ (.ListComp elt [⟨.Name x px, iter, [], 0⟩] scope pos) (.lst (ds.map f)) := by
 have h := e_comp (m := m) (pos := pos) caps js (fun _ => true) f hi (fun C s H fp d hd => ts_nil) (fun C s H fp d hd _ => he C s H fp d hd) hz hm hc B hs
 rwa [List.filter_eq_self.mpr fun _ _ => rfl] at h
end
mutual
def Tr (K : Frag) (H : Hp) : D -> V -> List Addr -> Prop
 | .lst ds, v, as => ∃ a xs bs, v = .ref a /\ as = a :: bs /\ H a = some (.lst xs) /\ Trs K H ds xs bs
 | .tup ds, v, as => ∃ a xs, v = .ref a /\ H a = some (.tup xs) /\ Trs K H ds xs as
 | .non, v, as => as = [] /\ v = .non
 | .bl b, v, as => as = [] /\ v = .bl b
 | .int i, v, as => as = [] /\ v = .int i
 | .str x, v, as => as = [] /\ v = .str x
 | .dct _, _, _ => False
 | .agg _ _, _, _ => False
 | .ktup ks, v, as => as = [] /\ ∃ a, v = .ref a /\ KTup K a ks
def Trs (K : Frag) (H : Hp) : List D -> List V -> List Addr -> Prop
 | [], xs, as => xs = [] /\ as = []
 | d :: ds, xs, as => ∃ v r bs cs, xs = v :: r /\ as = bs ++ cs /\ Tr K H d v bs /\ Trs K H ds r cs
end
section
variable {K : Frag} {H H' : Hp} {Z : Zone}
theorem tr_lst {ds : List D} {v : V} {as : List Addr} : Tr K H (.lst ds) v as ↔ ∃ a xs bs, v = .ref a /\ as = a :: bs /\ H a = some (.lst xs) /\ Trs K H ds xs bs := by unfold Tr; exact Iff.rfl
theorem tr_tup {ds : List D} {v : V} {as : List Addr} : Tr K H (.tup ds) v as ↔ ∃ a xs, v = .ref a /\ H a = some (.tup xs) /\ Trs K H ds xs as := by unfold Tr; exact Iff.rfl
theorem trs_nil {xs : List V} {as : List Addr} : Trs K H [] xs as ↔ xs = [] /\ as = [] := by unfold Trs; exact Iff.rfl
theorem trs_cons {d : D} {ds : List D} {xs : List V} {as : List Addr} : Trs K H (d :: ds) xs as ↔ ∃ v r bs cs, xs = v :: r /\ as = bs ++ cs /\ Tr K H d v bs /\ Trs K H ds r cs := by
 constructor
 . intro h; unfold Trs at h; exact h
 . intro h; unfold Trs; exact h
mutual
theorem Tr.carry (t : ∀ a (xs : List V), H a = some (.tup xs) -> H' a = some (.tup xs)) : ∀ {d : D} {v : V} {as : List Addr}, (∀ a (xs : List V), a ∈ as -> H a = some (.lst xs) -> H' a = some (.lst xs)) -> Tr K H d v as -> Tr K H' d v as
 | .non, _, _, _, h => by unfold Tr at h ⊢; exact h
 | .bl _, _, _, _, h => by unfold Tr at h ⊢; exact h
 | .int _, _, _, _, h => by unfold Tr at h ⊢; exact h
 | .str _, _, _, _, h => by unfold Tr at h ⊢; exact h
 | .dct _, _, _, _, h => by unfold Tr at h; exact h.elim
 | .agg _ _, _, _, _, h => by unfold Tr at h; exact h.elim
 | .ktup _, _, _, _, h => by unfold Tr at h ⊢; exact h
 | .lst ds, _, _, k, h => by
  obtain ⟨a, xs, bs, e, rfl, ha, i⟩ := tr_lst.mp h
  exact tr_lst.mpr ⟨a, xs, bs, e, rfl, k a xs mem_cons_self ha, Trs.carry t (fun b ys hb => k b ys (mem_cons_of_mem _ hb)) i⟩
 | .tup ds, _, _, k, h => by
  obtain ⟨a, xs, e, ha, i⟩ := tr_tup.mp h
  exact tr_tup.mpr ⟨a, xs, e, t a xs ha, Trs.carry t k i⟩
theorem Trs.carry (t : ∀ a (xs : List V), H a = some (.tup xs) -> H' a = some (.tup xs)) : ∀ {ds : List D} {vs : List V} {as : List Addr}, (∀ a (xs : List V), a ∈ as -> H a = some (.lst xs) -> H' a = some (.lst xs)) -> Trs K H ds vs as -> Trs K H' ds vs as
 | [], _, _, _, h => trs_nil.mpr (trs_nil.mp h)
 | d :: ds, _, _, k, h => by
  obtain ⟨v, r, bs, cs, e, rfl, i, j⟩ := trs_cons.mp h
  exact trs_cons.mpr ⟨v, r, bs, cs, e, rfl, Tr.carry t (fun b ys hb => k b ys (List.mem_append_left _ hb)) i, Trs.carry t (fun b ys hb => k b ys (mem_append_right _ hb)) j⟩
end
mutual
theorem Tr.inn : ∀ {d : D} {v : V} {as : List Addr}, (∀ a ∈ as, Z.S a) -> Tr K H d v as -> In K H Z d v
 | .non, _, _, _, h => by unfold Tr at h; exact in_non.mpr h.2
 | .bl _, _, _, _, h => by unfold Tr at h; exact in_bl.mpr h.2
 | .int _, _, _, _, h => by unfold Tr at h; exact in_int.mpr h.2
 | .str _, _, _, _, h => by unfold Tr at h; exact in_str.mpr h.2
 | .dct _, _, _, _, h => by unfold Tr at h; exact h.elim
 | .agg _ _, _, _, _, h => by unfold Tr at h; exact h.elim
 | .ktup _, _, _, _, h => by unfold Tr at h; exact in_ktup.mpr h.2
 | .lst ds, _, _, k, h => by
  obtain ⟨a, xs, bs, e, rfl, ha, i⟩ := tr_lst.mp h
  exact in_lst.mpr ⟨a, xs, e, .inl ⟨ha, k a mem_cons_self⟩, Trs.inn (fun b hb => k b (mem_cons_of_mem _ hb)) i⟩
 | .tup ds, _, _, k, h => by
  obtain ⟨a, xs, e, ha, i⟩ := tr_tup.mp h
  exact in_tup.mpr ⟨a, xs, e, ha, Trs.inn k i⟩
theorem Trs.inn : ∀ {ds : List D} {vs : List V} {as : List Addr}, (∀ a ∈ as, Z.S a) -> Trs K H ds vs as -> Ins K H Z ds vs
 | [], _, _, _, h => ins_nil.mpr (trs_nil.mp h).1
 | d :: ds, _, _, k, h => by
  obtain ⟨v, r, bs, cs, e, rfl, i, j⟩ := trs_cons.mp h
  exact ins_cons.mpr ⟨v, r, e, Tr.inn (fun b hb => k b (List.mem_append_left _ hb)) i, Trs.inn (fun b hb => k b (mem_append_right _ hb)) j⟩
end
mutual
theorem Tr.of_flat : ∀ {d : D} {v : V}, d.flat = true -> In K H Z d v -> Tr K H d v []
 | .non, _, _, h => by unfold Tr; exact ⟨rfl, in_non.mp h⟩
 | .bl _, _, _, h => by unfold Tr; exact ⟨rfl, in_bl.mp h⟩
 | .int _, _, _, h => by unfold Tr; exact ⟨rfl, in_int.mp h⟩
 | .str _, _, _, h => by unfold Tr; exact ⟨rfl, in_str.mp h⟩
 | .dct _, _, f, _ => by unfold D.flat at f; cases f
 | .agg _ _, _, f, _ => by unfold D.flat at f; cases f
 | .ktup _, _, _, h => by unfold Tr; exact ⟨rfl, in_ktup.mp h⟩
 | .lst ds, _, f, _ => by unfold D.flat at f; cases f
 | .tup ds, _, f, h => by
  unfold D.flat at f
  obtain ⟨a, xs, e, l, i⟩ := in_tup.mp h
  exact tr_tup.mpr ⟨a, xs, e, l, Trs.of_flat f i⟩
theorem Trs.of_flat : ∀ {ds : List D} {vs : List V}, flats ds = true -> Ins K H Z ds vs -> Trs K H ds vs []
 | [], _, _, h => trs_nil.mpr ⟨ins_nil.mp h, rfl⟩
 | d :: ds, _, f, h => by
  unfold flats at f
  rw [Bool.and_eq_true] at f
  obtain ⟨v, r, e, i, j⟩ := ins_cons.mp h
  exact trs_cons.mpr ⟨v, r, [], [], e, rfl, Tr.of_flat f.1 i, Trs.of_flat f.2 j⟩
end
mutual
theorem Tr.lsts : ∀ {d : D} {v : V} {as : List Addr}, Tr K H d v as -> ∀ a ∈ as, ∃ xs, H a = some (.lst xs)
 | .non, _, _, h, a, ha => by unfold Tr at h; rw [h.1] at ha; cases ha
 | .bl _, _, _, h, a, ha => by unfold Tr at h; rw [h.1] at ha; cases ha
 | .int _, _, _, h, a, ha => by unfold Tr at h; rw [h.1] at ha; cases ha
 | .str _, _, _, h, a, ha => by unfold Tr at h; rw [h.1] at ha; cases ha
 | .dct _, _, _, h, a, ha => by unfold Tr at h; exact h.elim
 | .agg _ _, _, _, h, a, ha => by unfold Tr at h; exact h.elim
 | .ktup _, _, _, h, a, ha => by unfold Tr at h; rw [h.1] at ha; cases ha
 | .lst ds, _, _, h, a, ha => by
  obtain ⟨b, xs, bs, e, rfl, hb, i⟩ := tr_lst.mp h
  rcases mem_cons.mp ha with rfl | ha
  . exact ⟨xs, hb⟩
  . exact Trs.lsts i a ha
 | .tup ds, _, _, h, a, ha => by
  obtain ⟨b, xs, e, hb, i⟩ := tr_tup.mp h
  exact Trs.lsts i a ha
theorem Trs.lsts : ∀ {ds : List D} {vs : List V} {as : List Addr}, Trs K H ds vs as -> ∀ a ∈ as, ∃ xs, H a = some (.lst xs)
 | [], _, _, h, a, ha => by rw [(trs_nil.mp h).2] at ha; cases ha
 | d :: ds, _, _, h, a, ha => by
  obtain ⟨v, r, bs, cs, e, rfl, i, j⟩ := trs_cons.mp h
  rcases mem_append.mp ha with ha | ha
  . exact Tr.lsts i a ha
  . exact Trs.lsts j a ha
end
end
structure Fn where
 m : Bool
 Z : Zone
 H : Hp
def zn (F : Fn) (O : Addr -> Prop) (fr : Bool) : Zone := if fr then ⟨true, fun a => F.H a = none /\ ¬ O a⟩ else ⟨F.Z.m, fun a => F.Z.S a /\ ¬ O a⟩
def vz (F : Fn) (O : Addr -> Prop) (ow fr : Bool) : Zone := if ow then (if fr then nw F.H else F.Z) else zn F O fr
structure SP where
 p : Frag -> Fn -> Hp -> (Addr -> Prop) -> List Addr -> V -> Prop
 vw : Bool -> Bool -> Option D
 carry : ∀ {K : Frag} {F : Fn} {H H' : Hp} {O O' : Addr -> Prop} {mine : List Addr} {v : V}, p K F H O mine v -> (∀ a (xs : MO), a ∈ mine -> H a = some xs.ho -> H' a = some xs.ho) -> (∀ fr, Carry K H (zn F O fr) H' (zn F O' fr)) -> p K F H' O' mine v
 env : ∀ {K : Frag} {F : Fn} {H : Hp} {O : Addr -> Prop} {mine : List Addr} {v : V} {ow fr : Bool} {d : D}, F.Z.Open F.H -> (ow = true -> ∀ a ∈ mine, (vz F O ow fr).S a) -> p K F H O mine v -> vw ow fr = some d -> InT K H (vz F O ow fr) d v
inductive Slot where
 | pl (fr : Bool) (d : D)
 | ow (fr : Bool) (ds : List D)
 | ow2 (fr : Bool) (dss : List (List D))
 | oa (d : D)
 | sh (p : D -> Prop)
 | owl (l : Addr) (fr : Bool) (ds : List D)
 | od (o : DO)
 | rf (v : V)
 | tr (d : D)
 | trl (u : V) (d : D)
 | gen (q : SP)
abbrev Rho := List (Option Slot)
def RowsAt (K : Frag) (H : Hp) (Z : Zone) (dss : List (List D)) (as : List Addr) : Prop := Paired (fun ds a => ∃ xs, H a = some (.lst xs) /\ Ins K H Z ds xs) dss as
def SlotIn (K : Frag) (F : Fn) (H : Hp) (O : Addr -> Prop) (mine : List Addr) (v : V) : Slot -> Prop
 | .pl fr d => In K H (zn F O fr) d v
 | .ow fr ds => ∃ l xs, mine = [l] /\ v = .ref l /\ H l = some (.lst xs) /\ Ins K H (zn F O fr) ds xs
 | .ow2 fr dss => ∃ l as, mine = l :: as /\ v = .ref l /\ H l = some (.lst (as.map V.ref)) /\ RowsAt K H (zn F O fr) dss as
 | .oa d => In K H ⟨true, fun a => a ∈ mine⟩ d v
 | .sh p => ∃ d, p d /\ In K H ⟨true, fun a => a ∈ mine⟩ d v
 | .owl l fr ds => ∃ xs, mine = [l] /\ v = .ref l /\ H l = some (.lst xs) /\ Ins K H (zn F O fr) ds xs
 | .od o => ∃ l, mine = [l] /\ v = .ref l /\ H l = some o.ho
 | .rf u => v = u
 | .tr d => Tr K H d v mine
 | .trl u d => v = u /\ Tr K H d v mine
 | .gen q => q.p K F H O mine v
abbrev Owned (A : Nat -> List Addr) (a : Addr) : Prop := ∃ j, a ∈ A j
structure StIn (K : Frag) (F : Fn) (H : Hp) (vs : St) (ρ : Rho) (A : Nat -> List Addr) : Prop where
 same : Same F.H H
 opn : F.Z.Open F.H
 nd : ∀ i, (A i).Nodup
 one : ∀ i j a, a ∈ A i -> a ∈ A j -> i = j
 new : ∀ i a, a ∈ A i -> F.H a = none
 lst : ∀ i a, a ∈ A i -> ∃ xs : MO, H a = some xs.ho
 at' : ∀ (i : Nat) sl, ρ[i]? = some (some sl) -> ∃ v, vs[i]? = some (some v) /\ SlotIn K F H (Owned A) (A i) v sl
section
variable {K : Frag} {F : Fn} {H H' : Hp} {vs : St} {ρ : Rho} {A : Nat -> List Addr} {O O' : Addr -> Prop} {fr : Bool}
theorem RowsAt.carry {Z Z' : Zone} {dss : List (List D)} {as : List Addr} (h : RowsAt K H Z dss as) (k : ∀ a xs, a ∈ as -> H a = some (.lst xs) -> H' a = some (.lst xs)) (c : Carry K H Z H' Z') : RowsAt K H' Z' dss as := by
 induction h with
 | nil => exact .nil
 | cons r t ih =>
  obtain ⟨xs, e, i⟩ := r
  exact .cons ⟨xs, k _ xs (by simp) e, i.carry c⟩ (ih fun a xs ha e => k a xs (by simp [ha]) e)
theorem carry_zn (s : Same H H') (hO : ∀ a (xs : MO), H a = some xs.ho -> ¬ O a -> ¬ O' a) : Carry K H (zn F O fr) H' (zn F O' fr) := by
 unfold zn
 cases fr
 . exact .of s (fun a xs e z => ⟨z.1, hO a xs e z.2⟩) fun m => m
 . exact .of s (fun a xs e z => ⟨z.1, hO a xs e z.2⟩) fun m => m
theorem SlotIn.carry {mine : List Addr} {v : V} {sl : Slot} (h : SlotIn K F H O mine v sl) (k : ∀ a (xs : MO), a ∈ mine -> H a = some xs.ho -> H' a = some xs.ho) (c : ∀ fr, Carry K H (zn F O fr) H' (zn F O' fr)) : SlotIn K F H' O' mine v sl := by
 cases sl with
 | pl fr d => exact In.carry (c fr) h
 | ow fr ds =>
  obtain ⟨l, xs, rfl, e, hl, i⟩ := h
  exact ⟨l, xs, rfl, e, k l (.l xs) (by simp) hl, i.carry (c fr)⟩
 | ow2 fr dss =>
  obtain ⟨l, as, rfl, e, hl, i⟩ := h
  exact ⟨l, as, rfl, e, k l (.l _) (by simp) hl, i.carry (fun a xs ha q => k a (.l xs) (by simp [ha]) q) (c fr)⟩
 | oa d => exact In.carry ⟨fun a xs e z => ⟨k a xs z e, z⟩, fun m => Bool.noConfusion (show true = false from m), (c true).t⟩ h
 | sh p =>
  obtain ⟨d, hp, i⟩ := h
  exact ⟨d, hp, i.carry ⟨fun a xs e z => ⟨k a xs z e, z⟩, fun m => Bool.noConfusion (show true = false from m), (c true).t⟩⟩
 | owl l fr ds =>
  obtain ⟨xs, rfl, e, hl, i⟩ := h
  exact ⟨xs, rfl, e, k l (.l xs) (by simp) hl, i.carry (c fr)⟩
 | od o =>
  obtain ⟨l, rfl, e, hl⟩ := h
  exact ⟨l, rfl, e, k l (.d o) (by simp) hl⟩
 | rf u => exact h
 | tr d => exact Tr.carry (c true).t (fun a xs ha e => k a (.l xs) ha e) h
 | trl u d => exact ⟨h.1, Tr.carry (c true).t (fun a xs ha e => k a (.l xs) ha e) h.2⟩
 | gen q => exact q.carry h k c
theorem StIn.grow (S : StIn K F H vs ρ A) (s : Same H H') : StIn K F H' vs ρ A :=
 ⟨S.same.trans s, S.opn, S.nd, S.one, S.new, fun i a ha => let ⟨xs, e⟩ := S.lst i a ha; ⟨xs, s.at e xs.nt⟩, fun i sl e => let ⟨v, a, b⟩ := S.at' i sl e; ⟨v, a, b.carry (fun a xs _ q => s.at q xs.nt) fun fr => carry_zn s fun a xs _ n => n⟩⟩
theorem zn_open (S : StIn K F H vs ρ A) (fr : Bool) : (zn F (Owned A) fr).Open H := ⟨fun a h => by
 have n : ¬ Owned A a := fun ⟨j, hj⟩ => by obtain ⟨xs, e⟩ := S.lst j a hj; rw [h] at e; cases e
 unfold zn
 cases fr
 . exact ⟨S.opn.op a (S.same.free h), n⟩
 . exact ⟨S.same.free h, n⟩, S.same.tabs S.opn.tb⟩
theorem vz_open (S : StIn K F H vs ρ A) (ow fr : Bool) : (vz F (Owned A) ow fr).Open H := by
 unfold vz
 cases ow
 . exact zn_open S fr
 . cases fr
   . exact S.opn.same S.same
   . exact nw_open S.opn.tb S.same
def viewS (ow fr : Bool) : Option Slot -> Option D
 | some (.pl f d) => if fr && !f then none else some d
 | some (.ow f ds) => if ow && (!fr || f) then some (.lst ds) else none
 | some (.ow2 f dss) => if ow && (!fr || f) then some (.lst (dss.map .lst)) else none
 | some (.oa d) => if ow then some d else none
 | some (.sh _) => none
 | some (.owl _ _ _) => none
 | some (.od o) => if ow then some (.dct o) else none
 | some (.rf _) => none
 | some (.tr d) => if ow then some d else none
 | some (.trl _ d) => if ow then some d else none
 | some (.gen q) => q.vw ow fr
 | none => none
def view (ow fr : Bool) (ρ : Rho) : List (Option D) := ρ.map (viewS ow fr)
theorem zn_vz (op : F.Z.Open F.H) {f ow : Bool} (hf : fr = true -> f = true) : Carry K H (zn F O f) H (vz F O ow fr) := by
 refine .of (Same.refl H) (fun a xs e z => ?_) fun m => ?_
 . unfold vz zn at *
   cases ow <;> cases fr <;> cases f <;> simp at hf z ⊢ <;> first
    | exact z
    | exact z.1
    | exact ⟨op a z.1, z.2⟩
    | exact op a z.1
 . unfold vz zn at *
   cases ow <;> cases fr <;> cases f <;> simp at hf m ⊢ <;> exact m
theorem ins_rows {Z Z' : Zone} {dss : List (List D)} {as : List Addr} (h : RowsAt K H Z dss as) (c : Carry K H Z H Z') (n : ∀ a ∈ as, Z'.S a) : Ins K H Z' (dss.map D.lst) (as.map V.ref) := by
 induction h with
 | nil => exact ins_nil.mpr rfl
 | cons r t ih =>
  obtain ⟨xs, e, i⟩ := r
  exact ins_cons.mpr ⟨_, _, rfl, in_lst.mpr ⟨_, xs, rfl, .inl ⟨e, n _ (by simp)⟩, i.carry c⟩, ih fun a ha => n a (by simp [ha])⟩
theorem slot_view (op : F.Z.Open F.H) {mine : List Addr} {v : V} {sl : Slot} {ow : Bool} {d : D} (new : ∀ a ∈ mine, F.H a = none) (h : SlotIn K F H O mine v sl) (e : viewS ow fr (some sl) = some d) : InT K H (vz F O ow fr) d v := by
 have inS : ow = true -> ∀ a ∈ mine, (vz F O ow fr).S a := fun ho a ha => by
  subst ho
  unfold vz
  cases fr
  . exact op a (new a ha)
  . exact new a ha
 cases sl with
 | pl f d' =>
  apply In.top
  change (if (fr && !f) = true then none else some d') = some d at e
  by_cases q : (fr && !f) = true
  . rw [if_pos q] at e; cases e
  . rw [if_neg q] at e
    cases e
    refine In.carry (zn_vz op fun hf => ?_) h
    subst hf
    simpa using q
 | ow f ds =>
  apply In.top
  change (if (ow && (!fr || f)) = true then some (D.lst ds) else none) = some d at e
  by_cases q : (ow && (!fr || f)) = true
  . rw [if_pos q] at e
    cases e
    obtain ⟨l, xs, rfl, rfl, hl, i⟩ := h
    simp at q
    refine in_lst.mpr ⟨l, xs, rfl, .inl ⟨hl, inS q.1 l (by simp)⟩, i.carry (zn_vz op fun hf => ?_)⟩
    subst hf
    simpa using q.2
  . rw [if_neg q] at e; cases e
 | ow2 f dss =>
  apply In.top
  change (if (ow && (!fr || f)) = true then some (D.lst (dss.map D.lst)) else none) = some d at e
  by_cases q : (ow && (!fr || f)) = true
  . rw [if_pos q] at e
    cases e
    obtain ⟨l, as, rfl, rfl, hl, i⟩ := h
    simp at q
    refine in_lst.mpr ⟨l, _, rfl, .inl ⟨hl, inS q.1 l (by simp)⟩, ins_rows i (zn_vz op fun hf => ?_) fun a ha => inS q.1 a (by simp [ha])⟩
    subst hf
    simpa using q.2
  . rw [if_neg q] at e; cases e
 | oa d' =>
  apply In.top
  change (if ow = true then some d' else none) = some d at e
  by_cases q : ow = true
  . rw [if_pos q] at e
    cases e
    exact In.carry ⟨fun a xs e z => ⟨e, inS q a z⟩, fun m => Bool.noConfusion (show true = false from m), fun _ _ e => e⟩ h
  . rw [if_neg q] at e; cases e
 | sh p => cases e
 | owl l f ds => cases e
 | rf u => cases e
 | tr d' =>
  apply In.top
  change (if ow = true then some d' else none) = some d at e
  by_cases q : ow = true
  . rw [if_pos q] at e
    cases e
    exact Tr.inn (inS q) h
  . rw [if_neg q] at e; cases e
 | trl u d' =>
  apply In.top
  change (if ow = true then some d' else none) = some d at e
  by_cases q : ow = true
  . rw [if_pos q] at e
    cases e
    exact Tr.inn (inS q) h.2
  . rw [if_neg q] at e; cases e
 | od o =>
  apply In.top
  change (if ow = true then some (D.dct o) else none) = some d at e
  by_cases q : ow = true
  . rw [if_pos q] at e
    cases e
    obtain ⟨l, rfl, rfl, hl⟩ := h
    exact in_dct.mpr ⟨l, rfl, hl, inS q l (by simp)⟩
  . rw [if_neg q] at e; cases e
 | gen q => exact q.env op inS h e
theorem StIn.env {σ hv : St} {hρ : Rho} (S : StIn K F H (σ ++ hv) (ρ ++ hρ) A) (hl : σ.length = ρ.length) (ow fr : Bool) : EnvIn K H (vz F (Owned A) ow fr) σ (view ow fr ρ) := fun i d e => by
 unfold view at e
 rw [getElem?_map] at e
 cases q : ρ[i]? with
 | none => rw [q] at e; cases e
 | some o =>
  rw [q] at e
  cases o with
  | none => simp [viewS] at e
  | some sl =>
   have hi : i < ρ.length := (List.getElem?_eq_some_iff.mp q).1
   obtain ⟨v, a, b⟩ := S.at' i sl (by rw [getElem?_append_left hi]; exact q)
   rw [getElem?_append_left (by omega)] at a
   exact ⟨v, a, slot_view S.opn (S.new i) b (by simpa using e)⟩
def putA (A : Nat -> List Addr) (i : Nat) (l : List Addr) : Nat -> List Addr := fun j => if j = i then l else A j
theorem putA_same {i : Nat} {l : List Addr} : putA A i l i = l := by unfold putA; rw [if_pos rfl]
theorem putA_ne {i j : Nat} {l : List Addr} (h : j ≠ i) : putA A i l j = A j := by unfold putA; rw [if_neg h]
theorem carry_re {i : Nat} {l : List Addr} {H2 : Hp} (S : StIn K F H vs ρ A) (k : ∀ b o, H b = some o -> isT o = false -> b ∉ A i -> H2 b = some o) (hl : ∀ a ∈ l, a ∈ A i \/ H a = none) (fr : Bool) : Carry K H (zn F (Owned A) fr) H2 (zn F (Owned (putA A i l)) fr) := by
 have notI : ∀ {a : Addr} {o : HO}, H a = some o -> (∀ xs : MO, o ≠ xs.ho) -> a ∉ A i := fun {a o} e n z => by
  obtain ⟨xs, e'⟩ := S.lst i a z
  rw [e] at e'
  exact n xs (Option.some.inj e')
 refine ⟨fun a xs e z => ?_, fun m => ⟨?_, fun a xs e => ?_⟩, fun a xs e => ?_⟩
 . have key : ¬ Owned A a -> H2 a = some xs.ho /\ ¬ Owned (putA A i l) a := fun n => ⟨k a _ e xs.nt fun z => n ⟨i, z⟩, fun ⟨k', hk⟩ => by
    by_cases q2 : k' = i
    . rw [q2, putA_same] at hk
      rcases hl a hk with z | z
      . exact n ⟨i, z⟩
      . rw [e] at z; cases z
    . rw [putA_ne q2] at hk
      exact n ⟨k', hk⟩⟩
   unfold zn at z ⊢
   cases fr
   . exact ⟨(key z.2).1, z.1, (key z.2).2⟩
   . exact ⟨(key z.2).1, z.1, (key z.2).2⟩
 . unfold zn at m ⊢
   cases fr
   . exact m
   . exact m
 . rcases e with ⟨o, e⟩ | e
   . exact .inl ⟨o, k a _ e rfl (notI e fun xs z => xs.nfrz z.symm)⟩
   . exact .inr e
 . exact k a _ e rfl (notI e fun xs z => xs.ntup z.symm)
theorem StIn.re {i : Nat} {v : V} {sl : Slot} {l : List Addr} {H2 : Hp} (S : StIn K F H vs ρ A) (hi : i < ρ.length) (hiv : i < vs.length) (sm : Same F.H H2) (k : ∀ b o, H b = some o -> isT o = false -> b ∉ A i -> H2 b = some o) (nd : l.Nodup)
 (hl : ∀ a ∈ l, (a ∈ A i \/ H a = none) /\ ∃ xs : MO, H2 a = some xs.ho) (h : SlotIn K F H2 (Owned (putA A i l)) l v sl) : StIn K F H2 (vs.set i (some v)) (ρ.set i (some sl)) (putA A i l) := by
 have disj : ∀ j a, j ≠ i -> a ∈ A j -> a ∉ l := fun j a hj ha hal => by
  rcases (hl a hal).1 with z | z
  . exact hj (S.one j i a ha z)
  . obtain ⟨xs, e⟩ := S.lst j a ha; rw [z] at e; cases e
 refine ⟨sm, S.opn, fun j => ?_, fun j k' a hj hk => ?_, fun j a ha => ?_, fun j a ha => ?_, fun j sl' e => ?_⟩
 . by_cases q : j = i
   . rw [q, putA_same]; exact nd
   . rw [putA_ne q]; exact S.nd j
 . by_cases q : j = i
   . by_cases q2 : k' = i
     . rw [q, q2]
     . rw [q, putA_same] at hj; rw [putA_ne q2] at hk
       exact absurd hj (disj k' a q2 hk)
   . rw [putA_ne q] at hj
     by_cases q2 : k' = i
     . rw [q2, putA_same] at hk
       exact absurd hk (disj j a q hj)
     . rw [putA_ne q2] at hk
       exact S.one j k' a hj hk
 . by_cases q : j = i
   . rw [q, putA_same] at ha
     rcases (hl a ha).1 with z | z
     . exact S.new i a z
     . exact S.same.free z
   . rw [putA_ne q] at ha; exact S.new j a ha
 . by_cases q : j = i
   . rw [q, putA_same] at ha; exact (hl a ha).2
   . rw [putA_ne q] at ha
     obtain ⟨xs, e⟩ := S.lst j a ha
     exact ⟨xs, k a _ e xs.nt fun z => q (S.one j i a ha z)⟩
 . by_cases q : j = i
   . subst q
     rw [List.getElem?_set_self hi] at e
     cases e
     exact ⟨v, by rw [List.getElem?_set_self hiv], by rw [putA_same]; exact h⟩
   . rw [List.getElem?_set_ne (Ne.symm q)] at e
     obtain ⟨w, a, b⟩ := S.at' j sl' e
     refine ⟨w, by rw [List.getElem?_set_ne (Ne.symm q)]; exact a, ?_⟩
     rw [putA_ne q]
     exact b.carry (fun a xs ha e => k a _ e xs.nt fun z => q (S.one j i a ha z)) fun fr => carry_re S k (fun a ha => (hl a ha).1) fr
theorem StIn.put {i : Nat} {v : V} {sl : Slot} {l : List Addr} {H2 : Hp} (S : StIn K F H vs ρ A) (hi : i < ρ.length) (hiv : i < vs.length) (s : Same H H2) (nd : l.Nodup) (hl : ∀ a ∈ l, H a = none /\ ∃ xs : MO, H2 a = some xs.ho)
 (h : SlotIn K F H2 (Owned (putA A i l)) l v sl) : StIn K F H2 (vs.set i (some v)) (ρ.set i (some sl)) (putA A i l) := S.re hi hiv (S.same.trans s) (fun b o e n _ => s.get b o e n) nd (fun a ha => ⟨.inr (hl a ha).1, (hl a ha).2⟩) h
theorem zn_drop {i : Nat} : Carry K H (zn F (Owned A) fr) H (zn F (Owned (putA A i [])) fr) := by
 have n : ∀ {P : Prop} {a : Addr}, P /\ ¬ Owned A a -> P /\ ¬ Owned (putA A i []) a := fun {P a} z => ⟨z.1, fun ⟨k, hk⟩ => by
  by_cases q : k = i
  . rw [q, putA_same] at hk; simp at hk
  . rw [putA_ne q] at hk; exact z.2 ⟨k, hk⟩⟩
 refine .of (Same.refl _) (fun a xs e z => ?_) fun m => ?_
 . unfold zn at z ⊢
   cases fr
   . exact n z
   . exact n z
 . unfold zn at m ⊢
   cases fr
   . exact m
   . exact m
end
structure EndD where
 nx : Rho -> Prop
 rt : D -> Prop
 bk : Rho -> Prop := fun _ => False
 ct : Rho -> Prop := fun _ => False
 rtT : D -> Prop := fun _ => False
 rtM : Rho -> D -> Prop := fun _ _ => False
def StOk (K : Frag) (F : Fn) (hv : St) (hρ : Rho) (N : Rho -> Prop) (σ : St) (H : Hp) : Prop := ∃ ρ A, σ.length = ρ.length /\ StIn K F H (σ ++ hv) (ρ ++ hρ) A /\ N ρ
structure Fits (K : Frag) (F : Fn) (hv : St) (hρ : Rho) (Q : EndD) (Q' : Ends) : Prop where
 hl : hv.length = hρ.length
 nx : ∀ σ H, StOk K F hv hρ Q.nx σ H -> Q'.nx σ H
 bk : ∀ σ H, StOk K F hv hρ Q.bk σ H -> Q'.bk σ H
 ct : ∀ σ H, StOk K F hv hρ Q.ct σ H -> Q'.ct σ H
 rt : ∀ v d H, Same F.H H -> In K H (out F.m F.Z F.H) d v -> Q.rt d -> Q'.rt v H
 rtT : ∀ v d H as, Same F.H H -> Tr K H d v as -> as.Nodup -> (∀ a ∈ as, F.H a = none) -> Q.rtT d -> Q'.rt v H
 rtM : ∀ σ H ρ A v d as, σ.length = ρ.length -> StIn K F H (σ ++ hv) (ρ ++ hρ) A -> Tr K H d v as -> as.Nodup -> (∀ a ∈ as, F.H a = none) -> (∀ i a, a ∈ A i -> a ∉ as) -> Q.rtM ρ d -> Q'.rt v H
def tS (K : Frag) (F : Fn) (ρ : Rho) (Q : EndD) : TS := fun Q' σ H => ∃ hv hρ A, σ.length = ρ.length /\ StIn K F H (σ ++ hv) (ρ ++ hρ) A /\ Fits K F hv hρ Q Q'
def SD (X : Cx) (F : Fn) (st : List Stmt) (ρ : Rho) (Q : EndD) : Prop := PSs X st (tS X.K F ρ Q)
def SD1 (X : Cx) (F : Fn) (st : Stmt) (ρ : Rho) (Q : EndD) : Prop := PS X st (tS X.K F ρ Q)
theorem PS.mono {X : Cx} {st : Stmt} {t t' : TS} (h : PS X st t) (k : ∀ Q σ H, t' Q σ H -> t Q σ H) : PS X st t' := fun pins s σ H Q I q => h pins s σ H Q I (k Q σ H q)
theorem PSs.mono {X : Cx} {st : List Stmt} {t t' : TS} (h : PSs X st t) (k : ∀ Q σ H, t' Q σ H -> t Q σ H) : PSs X st t' := fun pins s σ H Q I q => h pins s σ H Q I (k Q σ H q)
section
variable {X : Cx} {F : Fn} {ρ : Rho} {Q : EndD} {st : Stmt} {rest body orelse : List Stmt} {e a c : Expr} {d : D} {pos p : Pos} {i : Nat} {x : Str} {fr m1 : Bool}
theorem Fits.step {K : Frag} {hv : St} {hρ : Rho} {Q' : Ends} {N : Rho -> Prop} {n : St -> Hp -> Prop} (f : Fits K F hv hρ Q Q') (h : ∀ σ H, StOk K F hv hρ N σ H -> n σ H) : Fits K F hv hρ { Q with nx := N } { Q' with nx := n } := ⟨f.hl, h, f.bk, f.ct, f.rt, f.rtT, f.rtM⟩
theorem sd_nil (h : Q.nx ρ) : SD X F [] ρ Q := PSs.mono pss_nil fun Q' σ H z0 => el33 z0 fun hv hρ A hl S f => f.nx σ H ⟨ρ, A, hl, S, h⟩
theorem sd_seq {N : Rho -> Prop} (h1 : SD1 X F st ρ { Q with nx := N }) (h2 : ∀ ρ', N ρ' -> SD X F rest ρ' Q) : SD X F (st :: rest) ρ Q :=
 PSs.mono (pss_cons (u := fun Q' σ H => ∃ ρ', N ρ' /\ tS X.K F ρ' Q Q' σ H) h1 fun pins s σ H Q' I ⟨ρ', n, t⟩ => h2 ρ' n pins s σ H Q' I t) fun Q' σ H ⟨hv, hρ, A, hl, S, f⟩ =>
  ⟨hv, hρ, A, hl, S, f.step fun σ' H' ⟨ρ', A', hl', S', n⟩ => ⟨ρ', n, hv, hρ, A', hl', S', f⟩⟩
theorem sd_then {ρ' : Rho} (h1 : SD1 X F st ρ { Q with nx := fun r => r = ρ' }) (h2 : SD X F rest ρ' Q) : SD X F (st :: rest) ρ Q := sd_seq h1 fun r e => by subst e; exact h2
theorem set_app {α : Type} {l r : List α} {i : Nat} {v : α} (h : i < l.length) : (l ++ r).set i v = l.set i v ++ r := by
 rw [List.set_append_left _ _ h]
theorem put_plA {K : Frag} {hv : St} {hρ : Rho} {σ : St} {H H1 : Hp} {A : Nat -> List Addr} {v : V} (hl : σ.length = ρ.length) (S : StIn K F H (σ ++ hv) (ρ ++ hρ) A) (hi : i < ρ.length) (s : Same H H1) (h : In K H1 (zn F (Owned A) fr) d v) :
 StIn K F H1 (σ.set i (some v) ++ hv) (ρ.set i (some (.pl fr d)) ++ hρ) (putA A i []) := by
 rw [<- set_app (by omega), <- set_app hi]
 exact S.put (by rw [List.length_append]; omega) (by rw [List.length_append]; omega) s List.nodup_nil (fun a ha => by simp at ha) (In.carry zn_drop h)
theorem put_pl {K : Frag} {hv : St} {hρ : Rho} {σ : St} {H H1 : Hp} {A : Nat -> List Addr} {v : V} (hl : σ.length = ρ.length) (S : StIn K F H (σ ++ hv) (ρ ++ hρ) A) (hi : i < ρ.length) (s : Same H H1) (h : In K H1 (zn F (Owned A) fr) d v) :
 StOk K F hv hρ (fun r => r = ρ.set i (some (.pl fr d))) (σ.set i (some v)) H1 := ⟨_, putA A i [], by simp [hl], put_plA hl S hi s h, rfl⟩
theorem sd_set (i : Nat) (fr : Bool) {x : Str} {d : D} (he : E X false (view false fr ρ) e d) (hr : SD X F rest (ρ.set i (some (.pl fr d))) Q) (hN : X.N.Nodup) (hi : X.N[i]? = some x := by rfl)
 (hx : Loc X.env.scope x := by first | exact Or.inl rfl | exact Or.inr rfl) (hρ : i < ρ.length := by exact of_decide_eq_true rfl) (hs : swapsWith e (some (.Name x p)) pos.line X.env = pure false := by rfl) (hf : X.fn x = true \/ X.env.scope.names.lookup x = some .local := by first | exact .inl rfl | exact .inr rfl) :
 SD X F (.Assign [.Name x p] e pos :: rest) ρ Q :=
 sd_then (PS.mono (ps_set hN hi hx he hs hf) fun Q' σ H z0 => el33 z0 fun hv hρ' A hl S f => ⟨_, vz_open S false fr, S.env hl false fr, fun v H1 s1 i1 => f.nx _ H1 (put_pl hl S hρ s1 i1)⟩) hr
theorem sd_setN (i : Nat) {x : Str} {d : D} (he : E X true (view true false ρ) e d) (hr : SD X F rest (ρ.set i (some (.pl true d))) Q) (hN : X.N.Nodup) (hi : X.N[i]? = some x := by rfl)
 (hx : Loc X.env.scope x := by first | exact Or.inl rfl | exact Or.inr rfl) (hρ : i < ρ.length := by exact of_decide_eq_true rfl) (hs : swapsWith e (some (.Name x p)) pos.line X.env = pure false := by rfl) (hf : X.fn x = true \/ X.env.scope.names.lookup x = some .local := by first | exact .inl rfl | exact .inr rfl) :
 SD X F (.Assign [.Name x p] e pos :: rest) ρ Q :=
 sd_then (PS.mono (ps_set hN hi hx he hs hf) fun Q' σ H z0 => el33 z0 fun hv hρ' A hl S f => ⟨_, vz_open S true false, S.env hl true false, fun v H1 s1 i1 => f.nx _ H1 (put_pl hl S hρ s1 (In.up (zn_open S true) i1))⟩) hr
theorem sd_setF (i : Nat) {x : Str} {d : D} (he : E X m1 (view true false ρ) e d) (fl : d.flat = true) (hr : SD X F rest (ρ.set i (some (.pl true d))) Q) (hN : X.N.Nodup) (hi : X.N[i]? = some x := by rfl)
 (hx : Loc X.env.scope x := by first | exact Or.inl rfl | exact Or.inr rfl) (hρ : i < ρ.length := by exact of_decide_eq_true rfl) (hs : swapsWith e (some (.Name x p)) pos.line X.env = pure false := by rfl) (hf : X.fn x = true \/ X.env.scope.names.lookup x = some .local := by first | exact .inl rfl | exact .inr rfl) :
 SD X F (.Assign [.Name x p] e pos :: rest) ρ Q := sd_setN i (he.flat fl) hr hN hi hx hρ hs hf
theorem sd_ret (fr : Bool) {d : D} (he : E X m1 (view true fr ρ) e d) (h : Q.rt d) (hm : F.m = true -> fr = true \/ m1 = true := by intro h; first | exact .inl rfl | exact .inr rfl | cases h) : SD X F (.Return (some e) pos :: rest) ρ Q :=
 sd_seq (N := fun _ => False) (PS.mono (ps_ret he) fun Q' σ H z0 => el33 z0 fun hv hρ A hl S f => ⟨_, vz_open S true fr, S.env hl true fr, fun v H1 s1 i1 => f.rt v d H1 (S.same.trans s1) (by
  have key : (F.m = true -> In X.K H1 (nw F.H) d v) /\ In X.K H1 F.Z d v := by
   cases m1 with
   | true =>
    have i2 : In X.K H1 (nw F.H) d v := In.later (m := true) (Z := F.Z) S.same i1
    exact ⟨fun _ => i2, i2.up S.opn⟩
   | false =>
    cases fr with
    | true =>
     have i2 : In X.K H1 (nw F.H) d v := i1
     exact ⟨fun _ => i2, i2.up S.opn⟩
    | false =>
     have i2 : In X.K H1 F.Z d v := i1
     exact ⟨fun h => (hm h).elim (fun z => (nomatch z)) (fun z => (nomatch z)), i2⟩
  cases hmm : F.m with
  | false => exact key.2
  | true => exact key.1 hmm) h⟩) fun _ n => n.elim
theorem sd_if {b : Bool} (hc : T X (view true false ρ) c b) (h1 : b = true -> SD X F body ρ { Q with nx := fun r => SD X F rest r Q }) (h2 : b = false -> SD X F orelse ρ { Q with nx := fun r => SD X F rest r Q }) : SD X F (.If c body orelse pos :: rest) ρ Q := by
 refine sd_seq (N := fun r => SD X F rest r Q) ?_ fun _ h => h
 cases b with
 | true =>
  exact PS.mono (ps_if hc (h1 rfl) (pss_never (sts := orelse))) fun Q' σ H z0 => el33 z0 fun hv hρ A hl S f => ⟨_, vz_open S true false, S.env hl true false, fun H1 s1 => by
   refine iteT ?_; exact ⟨hv, hρ, A, hl, S.grow s1, f⟩⟩
 | false =>
  exact PS.mono (ps_if hc (pss_never (sts := body)) (h2 rfl)) fun Q' σ H z0 => el33 z0 fun hv hρ A hl S f => ⟨_, vz_open S true false, S.env hl true false, fun H1 s1 => by
   refine iteF ?_; exact ⟨hv, hρ, A, hl, S.grow s1, f⟩⟩
theorem sd_ifJ (ρ1 : Rho) {b : Bool} (hc : T X (view true false ρ) c b) (h1 : b = true -> SD X F body ρ { Q with nx := fun r => r = ρ1 }) (h2 : b = false -> SD X F orelse ρ { Q with nx := fun r => r = ρ1 }) (h3 : SD X F rest ρ1 Q) : SD X F (.If c body orelse pos :: rest) ρ Q := by
 refine sd_then (ρ' := ρ1) ?_ h3
 cases b with
 | true =>
  exact PS.mono (ps_if hc (h1 rfl) (pss_never (sts := orelse))) fun Q' σ H z0 => el33 z0 fun hv hρ A hl S f => ⟨_, vz_open S true false, S.env hl true false, fun H1 s1 => by
   refine iteT ?_; exact ⟨hv, hρ, A, hl, S.grow s1, f⟩⟩
 | false =>
  exact PS.mono (ps_if hc (pss_never (sts := body)) (h2 rfl)) fun Q' σ H z0 => el33 z0 fun hv hρ A hl S f => ⟨_, vz_open S true false, S.env hl true false, fun H1 s1 => by
   refine iteF ?_; exact ⟨hv, hρ, A, hl, S.grow s1, f⟩⟩
theorem sd_while (P : Rho -> Prop) (μ : Rho -> Nat) (b : Rho -> Bool) (h0 : P ρ) (hl0 : ∀ r, P r -> r.length = ρ.length) (hc : ∀ r, P r -> T X (view true false r) c (b r))
 (hb : ∀ r, P r -> b r = true -> SD X F body r { Q with nx := fun r' => P r' /\ μ r' < μ r, ct := fun r' => P r' /\ μ r' < μ r, bk := fun r => SD X F rest r Q }) (hd : ∀ r, P r -> b r = false -> SD X F rest r Q)
 (hp : PassesOwn (model X.prog X.w) X.A X.env X.xe := by exact PassesOwn.never) : SD X F (.While c body [] pos :: rest) ρ Q := by
 refine sd_seq (N := fun r => SD X F rest r Q) ?_ fun _ h => h
 refine PS.mono (ps_while (tc := fun σ H R => ∃ r, P r /\ tB' X.K (view true false r) (b r) σ H R) (tb := fun Q' σ H => ∃ r, P r /\ b r = true /\ tS X.K F r { Q with nx := fun r' => P r' /\ μ r' < μ r, ct := fun r' => P r' /\ μ r' < μ r, bk := fun r => SD X F rest r Q } Q' σ H) hp
  (fun pins s σ H R I ⟨r, pr, q⟩ => hc r pr pins s σ H R I q) (fun pins s σ H Q' I ⟨r, pr, br, q⟩ => hb r pr br pins s σ H Q' I q)) fun Q' σ H z0 => el33 z0 fun hv hρ A hl S f => ?_
 refine ⟨fun n σ H => ∃ r A, n = μ r /\ P r /\ σ.length = r.length /\ StIn X.K F H (σ ++ hv) (r ++ hρ) A, ⟨_, ρ, A, rfl, h0, hl, S⟩, ?_⟩
 rintro n σ1 H1 ⟨r, A1, rfl, pr, hl1, S1⟩
 refine ⟨r, pr, _, vz_open S1 true false, S1.env hl1 true false, fun H2 s2 => ?_⟩
 cases hbr : b r with
 | true =>
  refine iteT ?_
  refine ⟨StOk X.K F hv hρ fun r' => P r' /\ μ r' < μ r, fun σ' H' ⟨r', A', hl', S', p', lt⟩ => ⟨μ r', lt, r', A', rfl, p', hl', S'⟩, r, pr, hbr, hv, hρ, A1, hl1, S1.grow s2, ⟨f.hl, fun _ _ h => h, fun σ H h => f.nx σ H h, fun _ _ h => h, f.rt, f.rtT, f.rtM⟩⟩
 | false =>
  refine iteF ?_
  exact f.nx _ _ ⟨r, A1, hl1, S1.grow s2, hd r pr hbr⟩
def hid (fr : Bool) (srcs : List D) : Rho := srcs.map fun d => some (.pl fr d)
theorem StIn.hide {K : Frag} {H : Hp} {σ hv : St} {r hρ : Rho} {A : Nat -> List Addr} {srcs : List D} {vs : List V} (S : StIn K F H (σ ++ hv) (r ++ hρ) A) (h1 : σ.length = r.length) (h2 : hv.length = hρ.length) (iz : Ins K H (zn F (Owned A) fr) srcs vs) :
 StIn K F H (σ ++ (hv ++ vs.map some)) (r ++ (hρ ++ hid fr srcs)) A := by
 refine ⟨S.same, S.opn, S.nd, S.one, S.new, S.lst, fun i sl e => ?_⟩
 rw [<- List.append_assoc] at e ⊢
 by_cases hi : i < (r ++ hρ).length
 . rw [getElem?_append_left hi] at e
   rw [getElem?_append_left (by rw [List.length_append] at hi ⊢; omega)]
   exact S.at' i sl e
 . rw [getElem?_append_right (by omega)] at e
   rw [getElem?_append_right (by rw [List.length_append] at hi ⊢; omega)]
   have hle : (σ ++ hv).length = (r ++ hρ).length := by rw [List.length_append, List.length_append]; omega
   rw [hle]
   unfold hid at e
   rw [getElem?_map] at e
   cases q : srcs[i - (r ++ hρ).length]? with
   | none => rw [q] at e; cases e
   | some d =>
    rw [q] at e
    have e' : some (Slot.pl fr d) = some sl := by simpa using e
    cases e'
    obtain ⟨v, a, b⟩ := iz.get q
    exact ⟨v, by rw [getElem?_map, a]; rfl, b⟩
theorem StIn.srcs {K : Frag} {H : Hp} {σ hv : St} {r hρ : Rho} {A : Nat -> List Addr} {srcs : List D} {vs : List V} (S : StIn K F H (σ ++ (hv ++ vs.map some)) (r ++ (hρ ++ hid fr srcs)) A) (h1 : σ.length = r.length) (h2 : hv.length = hρ.length) (hsv : srcs.length = vs.length) :
 Ins K H (zn F (Owned A) fr) srcs vs := by
 refine Ins.of_get hsv fun i d v e1 e2 => ?_
 have hle : (σ ++ hv).length = (r ++ hρ).length := by rw [List.length_append, List.length_append]; omega
 obtain ⟨w, a, b⟩ := S.at' ((r ++ hρ).length + i) (.pl fr d) (by
  rw [<- List.append_assoc, getElem?_append_right (by omega), Nat.add_sub_cancel_left]
  unfold hid
  rw [getElem?_map, e1]; rfl)
 rw [<- List.append_assoc, getElem?_append_right (by omega), hle, Nat.add_sub_cancel_left, getElem?_map, e2] at a
 cases a
 exact b
theorem StIn.unhide {K : Frag} {H : Hp} {σ hv e1 : St} {r hρ e2 : Rho} {A : Nat -> List Addr} (S : StIn K F H (σ ++ (hv ++ e1)) (r ++ (hρ ++ e2)) A) (h1 : σ.length = r.length) (h2 : hv.length = hρ.length) : StIn K F H (σ ++ hv) (r ++ hρ) A := by
 refine ⟨S.same, S.opn, S.nd, S.one, S.new, S.lst, fun i sl e => ?_⟩
 have hi : i < (r ++ hρ).length := (List.getElem?_eq_some_iff.mp e).1
 obtain ⟨v, a, b⟩ := S.at' i sl (by rw [<- List.append_assoc, getElem?_append_left hi]; exact e)
 rw [<- List.append_assoc, getElem?_append_left (by rw [List.length_append] at hi ⊢; omega)] at a
 exact ⟨v, a, b⟩
theorem sd_forG {tg iter : Expr} {ds : List D} {mi : Bool} {g : TG} (fr : Bool) (G : D -> Rho -> Rho) (P : Nat -> Rho -> Prop) (hi : IT X tg mi (view false fr ρ) iter ds) (h0 : P 0 ρ) (hg : PG X tg g)
 (hG : ∀ n d r (hv : St) (hρ : Rho) (σ : St) (H H1 : Hp) (A : Nat -> List Addr) (v : V) (Q : St -> Hp -> Prop), ds[n]? = some d -> P n r -> σ.length = r.length -> StIn X.K F H (σ ++ hv) (r ++ hρ) A -> Same H H1 -> In X.K H1 (zn F (Owned A) fr) d v ->
  (∀ σ' H', StOk X.K F hv hρ (fun r' => r' = G d r) σ' H' -> Q σ' H') -> g v σ H1 Q)
 (hb : ∀ n d r, ds[n]? = some d -> P n r -> SD X F body (G d r) { Q with nx := P (n + 1), ct := P (n + 1), bk := fun r => SD X F rest r Q }) (hd : ∀ r, P ds.length r -> SD X F rest r Q)
 (hc : X.calm = true := by rfl) (hs : ∀ x, foldedSetIterable iter X.env x = pure x := by intro _; rfl) (hp : PassesOwn (model X.prog X.w) X.A X.env X.xe := by exact PassesOwn.never) : SD X F (.For tg iter body [] pos :: rest) ρ Q := by
 refine sd_seq (N := fun r => SD X F rest r Q) ?_ fun _ h => h
 refine PS.mono (ps_for (g := g) (tb := fun Q' σ H => ∃ n d r, ds[n]? = some d /\ P n r /\ tS X.K F (G d r) { Q with nx := P (n + 1), ct := P (n + 1), bk := fun r => SD X F rest r Q } Q' σ H) hp hc hi hg
  (fun pins s σ H Q' I ⟨n, d, r, e, pr, q⟩ => hb n d r e pr pins s σ H Q' I q) hs) fun Q' σ H z0 => el33 z0 fun hv hρ A hl S f => ?_
 refine ⟨_, vz_open S false fr, S.env hl false fr, fun J H1 vs srcs s1 i1 Y => ?_⟩
 have iz : Ins X.K H1 (zn F (Owned A) fr) srcs vs := by
  cases mi
  . exact i1
  . exact i1.up (zn_open S fr)
 have hsv := iz.length
 refine ⟨fun n m σ H => m = ds.length - n /\ n <= ds.length /\ ∃ r A, P n r /\ σ.length = r.length /\ StIn X.K F H (σ ++ (hv ++ vs.map some)) (r ++ (hρ ++ hid fr srcs)) A, ⟨_, rfl, Nat.zero_le _, ρ, A, h0, hl, (S.grow s1).hide hl f.hl iz⟩, ?_⟩
 rintro n m σ1 H2 ⟨rfl, hn, r, A1, pr, hl1, S1⟩
 have iz1 := S1.srcs hl1 f.hl hsv
 by_cases hlt : n < ds.length
 . have hdn : ds[n]? = some ds[n] := by simp [hlt]
   obtain ⟨go, yl⟩ := Y.go _ H2 (zn_open S1 fr) iz1 n ds[n] hdn
   refine .inr ⟨go, StOk X.K F (hv ++ vs.map some) (hρ ++ hid fr srcs) (P (n + 1)), fun σ' H' ⟨r', A', hl', S', p'⟩ => ⟨ds.length - (n + 1), by omega, rfl, hlt, r', A', p', hl', S'⟩, fun y H3 hy => ?_⟩
   obtain ⟨s3, iy⟩ := yl y H3 hy
   refine hG n ds[n] r _ _ σ1 H2 H3 A1 y _ hdn pr hl1 S1 s3 iy fun σ4 H4 ⟨r4, A4, hl4, S4, e4⟩ => ?_
   subst e4
   refine ⟨n, ds[n], r, hdn, pr, _, _, A4, hl4, S4, ⟨by simp [hid, f.hl, hsv], fun _ _ h => h, fun σ5 H5 ⟨r5, A5, hl5, S5, q5⟩ => f.nx σ5 H5 ⟨r5, A5, hl5, S5.unhide hl5 f.hl, q5⟩, fun _ _ h => h, f.rt, f.rtT, fun σ6 H6 r6 A6 v6 d6 as6 hl6 S6 => f.rtM σ6 H6 r6 A6 v6 d6 as6 hl6 (S6.unhide hl6 f.hl)⟩⟩
 . have e : n = ds.length := by omega
   subst e
   exact .inl ⟨Y.stop _ H2 (zn_open S1 fr) iz1, f.nx _ _ ⟨r, A1, hl1, S1.unhide hl1 f.hl, hd r pr⟩⟩
theorem sd_forF (k : Nat) {x : Str} {px : Pos} {iter : Expr} {ds : List D} {mi : Bool} (P : Nat -> Rho -> Prop) (hi : IT X (.Name x px) mi (view false false ρ) iter ds) (fl : ∀ d ∈ ds, d.flat = true) (h0 : P 0 ρ) (hlen : ∀ n r, P n r -> k < r.length)
 (hb : ∀ (n : Nat) d r, ds[n]? = some d -> P n r -> SD X F body (r.set k (some (.pl true d))) { Q with nx := P (n + 1), ct := P (n + 1), bk := fun r => SD X F rest r Q }) (hd : ∀ r, P ds.length r -> SD X F rest r Q)
 (hN : X.N.Nodup) (hx : X.N[k]? = some x := by rfl) (hxl : Loc X.env.scope x := by first | exact Or.inl rfl | exact Or.inr rfl) (hf : X.fn x = true \/ X.env.scope.names.lookup x = some .local := by first | exact .inl rfl | exact .inr rfl) (hc : X.calm = true := by rfl)
 (hs : ∀ x, foldedSetIterable iter X.env x = pure x := by intro _; rfl) (hp : PassesOwn (model X.prog X.w) X.A X.env X.xe := by exact PassesOwn.never) : SD X F (.For (.Name x px) iter body [] pos :: rest) ρ Q :=
 sd_forG false (fun d r => r.set k (some (.pl true d))) P hi h0 (pg_name hN hx hxl hf) (fun n d r hv hρ σ H H1 A v q e pr hl S s i h => h _ _ (put_pl hl S (hlen n r pr) s (i.flat' (fl d (mem_of_getElem? e))))) hb hd hc hs hp
theorem sd_for2 (k l : Nat) (fr : Bool) {x y : Str} {px py pt : Pos} {kt : Nat} {iter : Expr} {ds : List D} {mi : Bool} (P : Nat -> Rho -> Prop) (hi : IT X (.Tuple [.Name x px, .Name y py] kt pt) mi (view false fr ρ) iter ds) (h0 : P 0 ρ)
 (hlen : ∀ n r, P n r -> k < r.length /\ l < r.length) (hpair : ∀ d ∈ ds, ∃ d1 d2, d = .tup [d1, d2])
 (hb : ∀ n d1 d2 r, ds[n]? = some (.tup [d1, d2]) -> P n r -> SD X F body ((r.set k (some (.pl fr d1))).set l (some (.pl fr d2))) { Q with nx := P (n + 1), ct := P (n + 1), bk := fun r => SD X F rest r Q }) (hd : ∀ r, P ds.length r -> SD X F rest r Q)
 (hN : X.N.Nodup) (hx : X.N[k]? = some x := by rfl) (hy : X.N[l]? = some y := by rfl) (hxl : Loc X.env.scope x := by first | exact Or.inl rfl | exact Or.inr rfl) (hyl : Loc X.env.scope y := by first | exact Or.inl rfl | exact Or.inr rfl)
 (hf : X.fn x = true \/ X.env.scope.names.lookup x = some .local := by first | exact .inl rfl | exact .inr rfl) (hf' : X.fn y = true \/ X.env.scope.names.lookup y = some .local := by first | exact .inl rfl | exact .inr rfl) (hc : X.calm = true := by rfl)
 (hs : ∀ x, foldedSetIterable iter X.env x = pure x := by intro _; rfl) (hp : PassesOwn (model X.prog X.w) X.A X.env X.xe := by exact PassesOwn.never)
 (hes : (assignEach [.Name x px, .Name y py] X.env).map (·.2) = [assign (.Name x px) X.env, assign (.Name y py) X.env] := by rfl) (hes2 : (assignEach [.Name y py] X.env).map (·.2) = [assign (.Name y py) X.env] := by rfl)
 (hen : (assignEach [.Name x px, .Name y py] X.env).length = 2 := by rfl) (hst : (assignEach [.Name x px, .Name y py] X.env).findIdx? (·.1) = none := by rfl) : SD X F (.For (.Tuple [.Name x px, .Name y py] kt pt) iter body [] pos :: rest) ρ Q := by
 refine sd_forG (g := gTup X.K 2 (gCons (gName k) (gCons (gName l) gNil))) fr (fun d r => match d with | .tup [d1, d2] => (r.set k (some (.pl fr d1))).set l (some (.pl fr d2)) | _ => r) P hi h0
  (pg_tup hc (pgs_cons (pg_name hN hx hxl hf) (pgs_cons (pg_name hN hy hyl hf') pgs_nil (by rw [hes2]; rfl)) (by rw [hes, hes2])) hen hst) (fun n d r hv hρ σ H H1 A v q e pr hl S s i h => ?_) (fun n d r e pr => ?_) hd hc hs hp
 . obtain ⟨d1, d2, rfl⟩ := hpair d (mem_of_getElem? e)
   obtain ⟨a, xs, rfl, t, j⟩ := in_tupS i
   obtain ⟨v1, r1, rfl, i1, j1⟩ := ins_cons.mp j
   obtain ⟨v2, r2, rfl, i2, j2⟩ := ins_cons.mp j1
   cases ins_nil.mp j2
   refine ⟨a, _, rfl, t, rfl, v1, _, rfl, v2, _, rfl, rfl, ?_⟩
   exact h _ _ (put_pl (by simp [hl]) (put_plA (fr := fr) hl S (hlen n r pr).1 s i1) (by simpa using (hlen n r pr).2) (Same.refl _) (i2.carry zn_drop))
 . obtain ⟨d1, d2, rfl⟩ := hpair d (mem_of_getElem? e)
   exact hb n d1 d2 r e pr
end
def spD (K : Frag) (m : Bool) (G : List D -> D -> Prop) : Sp := fun vs H Q _ => ∃ (Z : Zone) (ds : List D) (d : D), Z.Open H /\ Ins K H Z ds vs /\ G ds d /\ ∀ v H', Same H H' -> In K H' (out m Z H) d v -> Q v H'
structure Def (P : Program) (w : World) (K : Frag) (mg : Str -> Option Value) (base : Heap) (k : Nat) (x : Str) (m : Bool) (G : List D -> D -> Prop) : Prop where
 ex : ∃ f fd ps, FnOk P w K mg base CX0 k f fd ps (spD K m G) /\ mg x = some (.ref f) /\ keepIn K (.ref f) = true /\ Binds K fd ps []
section
variable {X : Cx} {ρ : List (Option D)} {m : Bool} {e : Expr} {es : List Expr} {ds : List D} {d : D} {pos p : Pos} {k : Nat} {x : Str} {G : List D -> D -> Prop}
theorem e_call (Df : Def X.prog X.w X.K X.mg X.base k x m G) (hr : Room k X.A) (ha : EA X ρ (e :: es) ds) (h : G ds d) (hg : Gl X x := by rfl) (hdb : (x == ("__debug__" : Str)) = false := by decide)
 (he : starEach (e :: es) X.env = (false, eval e X.env) :: starEach es X.env := by rfl) (hpl : (backTo pos (starEach es X.env)).any (·.1) = false := by rfl) : E X m ρ (.Call (.Name x p) (e :: es) [] pos) d := by
 obtain ⟨f, fd, ps, a, b, c, dd⟩ := Df.ex
 exact PE.mono (pe_call a hr hg b c dd .nil pass0 ha hdb he hpl) fun σ H Q z0 => el13 z0 fun Z oz en k => ⟨Z, oz, en, fun vs H1 s1 i1 => by
  show spD X.K m G (vs ++ []) H1 Q E0
  rw [append_nil]
  exact ⟨Z, ds, d, oz.same s1, i1, h, fun v H' s' i => k v H' (s1.trans s') (i.later s1)⟩⟩
end
def startD (N : List Str) (ds : List D) : Rho := ds.map (fun d => some (.pl false d)) ++ List.replicate (N.length - ds.length) none
theorem start_in {K : Frag} {Z : Zone} {H : Hp} {m : Bool} {N : List Str} {ds : List D} {vs : List V} (oz : Z.Open H) (h : Ins K H Z ds vs) : StIn K ⟨m, Z, H⟩ H (L2.start N vs ++ []) (startD N ds ++ []) (fun _ => []) := by
 refine ⟨Same.refl H, oz, fun _ => List.nodup_nil, fun i j a ha => by simp at ha, fun i a ha => by simp at ha, fun i a ha => by simp at ha, fun i sl e => ?_⟩
 rw [append_nil] at e ⊢
 unfold startD at e
 unfold L2.start
 by_cases hi : i < ds.length
 . rw [getElem?_append_left (by simpa using hi), getElem?_map] at e
   have hd : ds[i]? = some ds[i] := by simp [hi]
   rw [hd] at e
   have e' : some (Slot.pl false ds[i]) = some sl := by simpa using e
   cases e'
   obtain ⟨v, a, b⟩ := h.get hd
   have hv : i < vs.length := (List.getElem?_eq_some_iff.mp a).1
   refine ⟨v, by rw [getElem?_append_left (by simpa using hv), getElem?_map, a]; rfl, ?_⟩
   exact In.carry (Z' := ⟨Z.m, fun a => Z.S a /\ ¬ Owned (fun _ => []) a⟩) (Carry.of (Same.refl H) (fun a xs e z => ⟨z, fun ⟨j, hj⟩ => by simp at hj⟩) fun m => m) b
 . rw [getElem?_append_right (by simpa using hi), List.getElem?_replicate] at e
   split at e <;> cases e
section
variable {P : Program} {w : World} {K : Frag} {mg : Str -> Option Value} {base : Heap}
theorem fnD {x qual : Str} {st : Stmt} {f : Addr} {fd : FuncData} {N ps : List Str} {k : Nat} {m : Bool} {G : List D -> D -> Prop} (Fx : Fun K x qual st f fd) (S : FnScope N ps (defScope st))
 (hlen : ∀ ds d, G ds d -> ds.length = ps.length)
 (body : ∀ (cdv : Value) (A : Around) (outer : List Env) (s : Shared) (H : Hp) (E : XK) (Z : Zone) (ds : List D) (d : D), Room k (A.deeper (envOfC qual (defScope st) s.heap.objs.size f cdv)) -> G ds d ->
  SD (cxOf CX0 P w K mg base N qual (defScope st) f cdv A outer s H E).nox ⟨m, Z, H⟩ (defBody st) (startD N ds) { nx := fun _ => d = .non, rt := fun d' => d' = d }) : FnOk P w K mg base CX0 (k + 1) f fd ps (spD K m G) := by
 refine Fx.ok S (fun vs H Q E ⟨Z, ds, d, oz, i, g, kk⟩ => ?_) (fun cdv A outer s H vs Q E hr ⟨Z, ds, d, oz, i, g, kk⟩ => ?_)
 . rw [<- i.length]; exact hlen ds d g
 . refine ⟨_, body cdv A outer s H E Z ds d hr g, [], [], fun _ => [], ?_, start_in oz i, ⟨rfl, fun σ H' ⟨r, A', hl, S', e⟩ => ?_, fun σ H' ⟨r, A', hl, S', e⟩ => e.elim, fun σ H' ⟨r, A', hl, S', e⟩ => e.elim, fun v d' H' s' i' e => ?_, fun _ _ _ _ _ _ _ _ e => e.elim, fun _ _ _ _ _ _ _ _ _ _ _ _ _ e => e.elim⟩⟩
   . have := i.length
     simp [L2.start, startD]; omega
   . subst e
     exact kk .non H' S'.same (in_non.mpr rfl)
   . subst e
     exact kk v H' s' i'
theorem def_of {x qual : Str} {st : Stmt} {f : Addr} {fd : FuncData} {N ps : List Str} {k : Nat} {m : Bool} {G : List D -> D -> Prop} (Fx : Fun K x qual st f fd) (S : FnScope N ps (defScope st)) (hmg : mg x = some (.ref f)) (hb : Binds K fd ps [])
 (hlen : ∀ ds d, G ds d -> ds.length = ps.length)
 (body : ∀ (cdv : Value) (A : Around) (outer : List Env) (s : Shared) (H : Hp) (E : XK) (Z : Zone) (ds : List D) (d : D), Room k (A.deeper (envOfC qual (defScope st) s.heap.objs.size f cdv)) -> G ds d ->
  SD (cxOf CX0 P w K mg base N qual (defScope st) f cdv A outer s H E).nox ⟨m, Z, H⟩ (defBody st) (startD N ds) { nx := fun _ => d = .non, rt := fun d' => d' = d }) : Def P w K mg base (k + 1) x m G := ⟨f, fd, ps, fnD Fx S hlen body, hmg, Fx.kp, hb⟩
def lawG (ds : List D) (d : D) : Prop := ∃ ns : List Int, ns.length <= 63 /\ ds = [.lst (ns.map D.int)] /\ d = .bl true
def spLaw (K : Frag) : Sp := fun vs H Q _ => ∃ (a : Addr) (ns : List Int), vs = [.ref a] /\ SqL K H a (ns.map V.int) /\ ns.length <= 63 /\ TabsOk H /\ ∀ H', Q (.bl true) H'
theorem spLaw_of {H : Hp} {vs : List V} {Q : VK} {E : XK} (h : spLaw K vs H Q E) : spD K false lawG vs H Q E := by
 obtain ⟨a, ns, rfl, hS, hl, tb, q⟩ := h
 refine ⟨anyZ, [.lst (ns.map D.int)], .bl true, anyZ_open tb, Ins.one (in_lst.mpr ⟨a, _, rfl, ?_, ins_ints ns⟩), ⟨ns, hl, rfl, rfl⟩, fun v H' s i => ?_⟩
 . rcases hS with (h | h) | h
   . exact .inl ⟨h, trivial⟩
   . exact .inr ⟨rfl, .inl h⟩
   . exact .inr ⟨rfl, .inr h⟩
 . rw [in_bl.mp i]; exact q H'
theorem law_of {k : Nat} {f : Addr} {fd : FuncData} {ps : List Str} (h : FnOk P w K mg base CX0 k f fd ps (spD K false lawG)) : FnOk P w K mg base CX0 k f fd ps (spLaw K) := h.imp fun _ _ _ _ q => spLaw_of q
end
section
variable {X : Cx} {F : Fn} {ρ : Rho} {Q : EndD} {rest : List Stmt} {e : Expr} {d : D} {pos p : Pos} {x : Str} {fr m1 : Bool} {ds : List D} {dss : List (List D)}
theorem nodup1 {a : Addr} : [a].Nodup := by simp
theorem sd_own (i : Nat) {x : Str} {ds : List D} (he : E X true (view true false ρ) e (.lst ds)) (fl : flats ds = true) (hr : SD X F rest (ρ.set i (some (.ow true ds))) Q) (hN : X.N.Nodup) (hi : X.N[i]? = some x := by rfl)
 (hx : Loc X.env.scope x := by first | exact Or.inl rfl | exact Or.inr rfl) (hρ : i < ρ.length := by exact of_decide_eq_true rfl) (hs : swapsWith e (some (.Name x p)) pos.line X.env = pure false := by rfl) (hf : X.fn x = true \/ X.env.scope.names.lookup x = some .local := by first | exact .inl rfl | exact .inr rfl) :
 SD X F (.Assign [.Name x p] e pos :: rest) ρ Q :=
 sd_then (PS.mono (ps_set hN hi hx he hs hf) fun Q' σ H z0 => el33 z0 fun hv hρ' A hl S f => ⟨_, vz_open S true false, S.env hl true false, fun v H1 s1 i1 => by
  obtain ⟨l, xs, rfl, at', j⟩ := in_lst.mp i1
  obtain ⟨e1, e2⟩ : H1 l = some (.lst xs) /\ H l = none := by
   rcases at' with z | z
   . exact z
   . exact absurd z.1 (by simp [out, nw])
  refine f.nx _ H1 ⟨_, putA A i [l], by simp [hl], ?_, rfl⟩
  rw [<- set_app (by omega), <- set_app hρ]
  exact S.put (by rw [List.length_append]; omega) (by rw [List.length_append]; omega) s1 nodup1 (fun a ha => by
   have : a = l := by simpa using ha
   subst this
   exact ⟨e2, .l xs, e1⟩) ⟨l, xs, rfl, rfl, e1, j.flat' fl⟩⟩) hr
theorem sd_own21 (i : Nat) {x : Str} (he : E X true (view true false ρ) e (.lst [.lst []])) (hr : SD X F rest (ρ.set i (some (.ow2 true [[]]))) Q) (hN : X.N.Nodup) (hi : X.N[i]? = some x := by rfl)
 (hx : Loc X.env.scope x := by first | exact Or.inl rfl | exact Or.inr rfl) (hρ : i < ρ.length := by exact of_decide_eq_true rfl) (hs : swapsWith e (some (.Name x p)) pos.line X.env = pure false := by rfl) (hf : X.fn x = true \/ X.env.scope.names.lookup x = some .local := by first | exact .inl rfl | exact .inr rfl) :
 SD X F (.Assign [.Name x p] e pos :: rest) ρ Q :=
 sd_then (PS.mono (ps_set hN hi hx he hs hf) fun Q' σ H z0 => el33 z0 fun hv hρ' A hl S f => ⟨_, vz_open S true false, S.env hl true false, fun v H1 s1 i1 => by
  obtain ⟨l, xs, rfl, at', j⟩ := in_lst.mp i1
  obtain ⟨w, r, rfl, iw, jr⟩ := ins_cons.mp j
  cases ins_nil.mp jr
  obtain ⟨a, ys, rfl, at2, j2⟩ := in_lst.mp iw
  cases ins_nil.mp j2
  obtain ⟨e1, e2⟩ : H1 l = some (.lst [.ref a]) /\ H l = none := by
   rcases at' with z | z
   . exact z
   . exact absurd z.1 (by simp [out, nw])
  obtain ⟨e3, e4⟩ : H1 a = some (.lst []) /\ H a = none := by
   rcases at2 with z | z
   . exact z
   . exact absurd z.1 (by simp [out, nw])
  have nla : l ≠ a := ne_of e1 e3 (by intro z; cases z)
  refine f.nx _ H1 ⟨_, putA A i [l, a], by simp [hl], ?_, rfl⟩
  rw [<- set_app (by omega), <- set_app hρ]
  exact S.put (by rw [List.length_append]; omega) (by rw [List.length_append]; omega) s1 (by simp [nla]) (fun b hb => by
   rcases mem_cons.mp hb with rfl | hb
   . exact ⟨e2, .l _, e1⟩
   . have : b = a := by simpa using hb
     subst this
     exact ⟨e4, .l _, e3⟩) ⟨l, [a], rfl, rfl, e1, .cons ⟨[], e3, ins_nil.mpr rfl⟩ .nil⟩⟩) hr
theorem set_self {α : Type} {l : List α} {i : Nat} {v : α} (h : l[i]? = some v) : l.set i v = l := by
 obtain ⟨hi, e⟩ := List.getElem?_eq_some_iff.mp h
 rw [<- e, List.set_getElem_self]
theorem StIn.ow {K : Frag} {H : Hp} {σ hv : St} {hρ : Rho} {A : Nat -> List Addr} {i : Nat} (S : StIn K F H (σ ++ hv) (ρ ++ hρ) A) (hl : σ.length = ρ.length) (h : ρ[i]? = some (some (.ow fr ds))) :
 ∃ l xs, σ[i]? = some (some (.ref l)) /\ A i = [l] /\ H l = some (.lst xs) /\ Ins K H (zn F (Owned A) fr) ds xs := by
 have hi : i < ρ.length := (List.getElem?_eq_some_iff.mp h).1
 obtain ⟨v, a, l, xs, e1, rfl, e2, j⟩ := S.at' i _ (by rw [getElem?_append_left hi]; exact h)
 rw [getElem?_append_left (by omega)] at a
 exact ⟨l, xs, a, e1, e2, j⟩
theorem put_ow {K : Frag} {hv : St} {hρ : Rho} {σ : St} {H : Hp} {A : Nat -> List Addr} {i : Nat} {l : Addr} {xs ys : List V} {es : List D} (hl : σ.length = ρ.length) (S : StIn K F H (σ ++ hv) (ρ ++ hρ) A) (h : σ[i]? = some (some (.ref l))) (hA : A i = [l]) (hx : H l = some (.lst xs))
 (j : Ins K H (zn F (Owned A) fr) es ys) : StOk K F hv hρ (fun r => r = ρ.set i (some (.ow fr es))) σ (upd H l (.lst ys)) := by
 have hi : i < σ.length := (List.getElem?_eq_some_iff.mp h).1
 refine ⟨_, putA A i [l], by simp [hl], ?_, rfl⟩
 have key := S.re (i := i) (v := .ref l) (sl := .ow fr es) (l := [l]) (H2 := upd H l (.lst ys)) (by rw [List.length_append]; omega) (by rw [List.length_append]; omega) (S.same.write (S.new i l (by rw [hA]; simp)) hx) (fun b o e _ hb => ?_) nodup1 (fun a ha => ?_) ⟨l, ys, rfl, rfl, upd_same, ?_⟩
 . rw [set_self (by rw [getElem?_append_left hi]; exact h), set_app (by omega)] at key
   exact key
 . rw [hA] at hb
   have : b ≠ l := by simpa using hb
   rw [upd_ne this]; exact e
 . have : a = l := by simpa using ha
   subst this
   exact ⟨.inl (by rw [hA]; simp), .l ys, upd_same⟩
 . have eqA : putA A i [l] = A := by
    funext k
    by_cases q : k = i
    . rw [q, putA_same, hA]
    . rw [putA_ne q]
   rw [eqA]
   refine j.carry (.write hx ?_)
   unfold zn
   have o : Owned A l := ⟨i, by rw [hA]; simp⟩
   cases fr
   . exact fun z => z.2 o
   . exact fun z => z.2 o
theorem sd_appendF (i : Nat) {x : Str} {ap cp : Pos} {ds : List D} (fr : Bool) {d : D} (h : ρ[i]? = some (some (.ow fr ds)) := by rfl) (he : E X m1 (view true false ρ) e d) (fl : d.flat = true) (hz : ds.length < 1000) (hr : SD X F rest (ρ.set i (some (.ow fr (ds ++ [d])))) Q)
 (hN : X.N[i]? = some x := by rfl) (hv : Vis X.env.scope x := by first | exact Or.inl rfl | exact Or.inr (Or.inl rfl) | exact Or.inr (Or.inr rfl)) (hd : (x == ("__debug__" : Str)) = false := by decide) (hcd : (x == ("__classdict__" : Str)) = false := by decide)
 (hbase : attributeBase (.Name x p) "append" X.env (eval (.Name x p) X.env) = eval (.Name x p) X.env := by rfl) (hline : (ap.endLine == cp.line) = true := by rfl)
 (hs : starEach [e] X.env = [(false, eval e X.env)] := by rfl) (hsw : swapsWith (.Call (.Attribute (.Name x p) "append" ap) [e] [] cp) none pos.line X.env = pure false := by rfl) :
 SD X F (.Expr (.Call (.Attribute (.Name x p) "append" ap) [e] [] cp) pos :: rest) ρ Q := by
 refine sd_then (PS.mono (ps_expr (pe_bm PySem.F.plainAttrs_list PySem.F.slot_list_append PySem.F.type_list_append mt_append (pe_var hN hv hd hcd) (pa_cons he pa_nil (by rw [hs]; rfl)) hbase (by rw [hs]; rfl) hline (by rw [hs]; rfl) rfl) hsw) ?_) hr
 rintro Q' σ H ⟨hv, hρ, A, hl, S, f⟩
 obtain ⟨l, xs, e1, e2, e3, j⟩ := S.ow hl h
 refine ⟨.ref l, e1, .inl ⟨rfl, xs, SqL.of e3⟩, _, vz_open S true false, S.env hl true false, fun v H1 s1 i1 => ?_⟩
 refine ⟨l, xs, v, rfl, rfl, s1.at e3, by rw [<- j.length]; exact small1000 (by omega), f.nx _ _ (put_ow hl (S.grow s1) e1 e2 (s1.at e3) ((j.same s1).append (Ins.one (i1.flat' fl))))⟩
end
section
variable {X : Cx}
theorem sl_str : SlR X (fun x lo hi H Q => ∃ z, x = .str z /\ z.length <= sizeLine /\ Q (.str (Txt.slice z lo hi)) H) := by
 intro pins s σ H x v vl vu lo hi sl Q I rx hs pl pu h
 obtain ⟨z, rfl, hz, q⟩ := h
 obtain ⟨t, rfl⟩ := rx
 refine ⟨"str", _, F.slot_str_getitem.lookup, typeIs_str _ _ _, ?_⟩
 have fin : ∀ t' k, EP X pins σ Q (.str (Txt.slice z lo hi) t') { s with toks := k } := fun t' k => ⟨.str (Txt.slice z lo hi), H, I.tok k, ⟨_, rfl⟩, q⟩
 have key : ∀ (l u : Option (Int × Tok)), vl = partValue l -> vu = partValue u -> l.map (·.1) = lo -> u.map (·.1) = hi -> wpAny (model X.prog X.w) X.A (getItem (.str z t) (.ref sl)) (EP X pins σ Q) X.xe s := fun l u e1 e2 e3 e4 => by
  subst e1 e2 e3 e4
  exact wpAny_getItem_str_slice (l := l) (u := u) (st := none) hs rfl (post_val_or_str ⟨Nat.le_trans (Txt.slice_le z _ _) hz, fun t' k => fin t' k⟩)
 cases pl with
 | none =>
  cases pu with
  | none => exact key none none rfl rfl rfl rfl
  | int j tj => exact key none (some (j, tj)) rfl rfl rfl rfl
 | int i ti =>
  cases pu with
  | none => exact key (some (i, ti)) none rfl rfl rfl rfl
  | int j tj => exact key (some (i, ti)) (some (j, tj)) rfl rfl rfl rfl
end
section
variable {X : Cx} {ρ : List (Option D)} {m m1 m2 : Bool} {a e o : Expr} {d : D} {pos p ap cp : Pos} {ds : List D}
theorem e_slS {z : Str} {lo hi : Option Expr} {l u : Option Int} {p2 : Pos} (ha : E X m1 ρ a (.str z)) (hl : EO X ρ lo l) (hu : EO X ρ hi u) (hz : z.length <= sizeLine) : E X true ρ (.Subscript a (.Slice lo hi none p2) pos) (.str (Txt.slice z l u)) :=
 PE.mono (pe_slice sl_str ha hl hu) fun σ H Q z0 => el13 z0 fun Z oz en k => ⟨Z, oz, en, fun x H1 s1 i1 => ⟨Z, oz.same s1, en.same s1, fun H2 s2 => ⟨Z, oz.same (s1.trans s2), en.same (s1.trans s2), fun H3 s3 =>
  ⟨z, in_str.mp (i1.plain oz), hz, k _ H3 ((s1.trans s2).trans s3) (in_str.mpr rfl)⟩⟩⟩⟩
theorem e_lenL (ha : E X m1 ρ a (.lst ds)) (hm : X.mg "len" = none) (hg : Gl X "len" := by rfl) (hs : starEach [a] X.env = [(false, eval a X.env)] := by rfl) : E X true ρ (.Call (.Name "len" p) [a] [] pos) (.int ds.length) :=
 PE.mono (pe_callB call_len_seq hg hm PySem.boot_len (pa_cons ha pa_nil (by rw [hs]; rfl)) (by decide) (by decide) (by rw [hs]; rfl) rfl) fun σ H Q z0 => el13 z0 fun Z oz en k => ⟨Z, oz, en, fun x H1 s1 i1 => by
  obtain ⟨l, xs, rfl, at', j⟩ := in_lst.mp (i1.plain oz)
  exact ⟨l, xs, rfl, .inl at'.sq, k _ H1 s1 (in_int.mpr (by rw [j.length]))⟩⟩
theorem e_listL (ha : E X m1 ρ a (.lst ds)) (hm : X.mg "list" = none) (hmm : m = true -> m1 = true \/ flats ds = true := by intro h; first | exact .inl h | cases h) (hg : Gl X "list" := by rfl) (hs : starEach [a] X.env = [(false, eval a X.env)] := by rfl) : E X m ρ (.Call (.Name "list" p) [a] [] pos) (.lst ds) :=
 PE.mono (pe_callTy call_list_of hg hm boot_list (pa_cons ha pa_nil (by rw [hs]; rfl)) (by decide) (by decide) (by rw [hs]; rfl) rfl) fun σ H Q z0 => el13 z0 fun Z oz en k => ⟨Z, oz, en, fun x H1 s1 i1 => by
  obtain ⟨l, xs, rfl, at', j⟩ := in_lst.mp i1
  refine ⟨l, xs, rfl, .inl at'.sq, fun q hq => k (.ref q) _ (s1.trans (same_new hq)) (in_lst.mpr ⟨q, xs, rfl, .inl ⟨upd_same, ?_⟩, ?_⟩)⟩
  . cases m
    . exact oz q (s1.free hq)
    . exact s1.free hq
  . have jc := j.same (same_new (o := .lst xs) hq)
    cases m
    . cases m1
      . exact jc
      . exact jc.up oz
    . rcases hmm rfl with h | h
      . subst h; exact jc
      . exact jc.flat' h⟩
end
def keq : Key -> D -> Bool
 | .inl a, .int b => a == b
 | .inl a, .bl b => a == (if b then 1 else 0)
 | .inr a, .str b => a == b
 | _, _ => false
def keqs : List Key -> List D -> Bool
 | [], [] => true
 | k :: ks, d :: ds => keq k d && keqs ks ds
 | _, _ => false
mutual
def deq : D -> D -> Bool
 | .non, .non => true
 | .bl a, .bl b => a == b
 | .bl a, .int b => (if a then 1 else 0) == b
 | .int a, .bl b => a == (if b then 1 else 0)
 | .int a, .int b => a == b
 | .str a, .str b => a == b
 | .lst a, .lst b => deqs a b
 | .tup a, .tup b => deqs a b
 | .tup a, .ktup ks => deqs a (ks.map kD)
 | .dct _, .dct _ => true
 | .agg _ _, .agg _ _ => true
 | .ktup ks, .tup b => keqs ks b
 | .ktup ks, .ktup ks' => keqs ks (ks'.map kD)
 | _, _ => false
def deqs : List D -> List D -> Bool
 | [], [] => true
 | a :: as, b :: bs => deq a b && deqs as bs
 | _, _ => false
end
mutual
def D.dep : D -> Nat
 | .lst ds => deps ds + 1
 | .tup ds => deps ds + 1
 | .dct _ => 100000
 | .agg _ _ => 100000
 | .ktup _ => 1
 | _ => 0
def deps : List D -> Nat
 | [] => 0
 | d :: ds => max d.dep (deps ds)
end
theorem deps_mem : ∀ {ds : List D} {d : D}, d ∈ ds -> d.dep <= deps ds
 | [], _, h => by simp at h
 | e :: ds, d, h => by
  unfold deps
  rcases mem_cons.mp h with rfl | h
  . exact Nat.le_max_left _ _
  . exact Nat.le_trans (deps_mem h) (Nat.le_max_right _ _)
theorem keqs_refl : ∀ ks : List Key, keqs ks (ks.map kD) = true
 | [] => rfl
 | .inl a :: ks => by simp [keqs, keq, kD, keqs_refl ks]
 | .inr a :: ks => by simp [keqs, keq, kD, keqs_refl ks]
mutual
theorem deq_refl : ∀ d : D, deq d d = true
 | .non => by simp [deq]
 | .bl _ => by simp [deq]
 | .int _ => by simp [deq]
 | .str _ => by simp [deq]
 | .lst ds => by simp [deq, deqs_refl ds]
 | .tup ds => by simp [deq, deqs_refl ds]
 | .dct _ => by simp [deq]
 | .agg _ _ => by simp [deq]
 | .ktup ks => by simp only [deq]; exact keqs_refl ks
theorem deqs_refl : ∀ ds : List D, deqs ds ds = true
 | [] => by simp [deqs]
 | d :: ds => by simp [deqs, deq_refl d, deqs_refl ds]
end
theorem deqs_range : ∀ (ds es : List D), ((List.range (min ds.length es.length)).all (fun j => deq (ds.getD j .non) (es.getD j .non)) && ds.length == es.length) = deqs ds es
 | [], [] => by simp [deqs]
 | [], _ :: _ => by simp [deqs]
 | _ :: _, [] => by simp [deqs]
 | a :: as, b :: bs => by
  have ih := deqs_range as bs
  rw [deqs, <- ih]
  have hm : min (a :: as).length (b :: bs).length = min as.length bs.length + 1 := by simp <;> omega
  rw [hm, List.range_succ_eq_map, List.all_cons, List.all_map]
  simp [Function.comp_def, Bool.and_assoc]
def Told {α : Type} [DecidableEq α] (f : α -> D) : Prop := ∀ a b, deq (f a) (f b) = decide (a = b)
section
variable {α β : Type} [DecidableEq α] [DecidableEq β] {f : α -> D} {g : β -> D}
theorem told_str : Told D.str := fun a b => by simp only [deq]; by_cases h : a = b <;> simp [h]
theorem told_all (h : Told f) : ∀ (as bs : List α), deqs (as.map f) (bs.map f) = decide (as = bs)
 | [], [] => by simp [deqs]
 | [], _ :: _ => by simp [deqs]
 | _ :: _, [] => by simp [deqs]
 | a :: as, b :: bs => by
  simp only [map_cons, deqs]
  rw [h a b, told_all h as bs]
  by_cases h1 : a = b <;> by_cases h2 : as = bs <;> simp [h1, h2]
theorem told_list (h : Told f) : Told (fun l : List α => D.lst (l.map f)) := fun a b => by simp only [deq]; exact told_all h a b
end
section
variable {X : Cx} {pins : List (Addr × Obj)} {σ : St} {H : Hp} {s : Shared} {Z Z' : Zone}
theorem dct_at {a : Addr} {o : DO} (I : Inv X pins σ H s) (h : H a = some o.ho) : DEq.IsDct s.heap a := by
 cases o with
 | k kvs =>
  obtain ⟨_, _, vs, _, ⟨cls, dd, data, sl⟩, es, ep, h1, h2, h3, _⟩ := dk_of I.hok h
  have hc : cls = .type "dict" := h2.1
  have hd : data = .dict es ep := h3
  subst hc hd
  exact ⟨dd, es, ep, sl, h1⟩
 | t kvs =>
  obtain ⟨_, _, vs, _, ⟨cls, dd, data, sl⟩, es, ep, h1, h2, h3, _⟩ := dt_of I.hok h
  have hc : cls = .type "dict" := h2.1
  have hd : data = .dict es ep := h3
  subst hc hd
  exact ⟨dd, es, ep, sl, h1⟩
theorem kfree {a : Addr} {ks : List Key} (I : Inv X pins σ H s) (h : KTup X.K a ks) : H a = none := by
 obtain ⟨o, _, _, hk, _⟩ := h
 exact (I.bs a o (I.mod.kin a o hk)).2
theorem sq_not_dct {a : Addr} {xs : List V} {o : DO} (I : Inv X pins σ H s) (h : SqL X.K H a xs) (h' : H a = some o.ho) : False := by
 obtain ⟨_, _, ⟨ob, n, e, c, _⟩, _⟩ := I.list h
 obtain ⟨dd, es, ep, sl, e'⟩ := dct_at I h'
 rw [e] at e'
 cases e'
 exact absurd c (by simp)
theorem lst_not_tup {a : Addr} {xs ys : List V} (I : Inv X pins σ H s) (h : SqL X.K H a xs) (h' : SqT X.K H a ys) : False := by
 obtain ⟨_, _, ⟨o, n, e, c, _⟩, _⟩ := I.list h
 obtain ⟨_, _, ⟨o', e', c', _⟩, _⟩ := I.tuple h'
 rw [e] at e'; cases e'
 rw [c] at c'
 exact absurd c' (by decide)
mutual
theorem In.inj (I : Inv X pins σ H s) : ∀ {d d' : D} {v : V}, In X.K H Z d v -> In X.K H Z' d' v -> d = d'
 | .non, d', v, h, h' => by
  rw [in_non.mp h] at h'
  cases d' with
  | non => rfl
  | bl b => cases in_bl.mp h'
  | int b => cases in_int.mp h'
  | str b => cases in_str.mp h'
  | lst b => obtain ⟨_, _, e, _⟩ := in_lst.mp h'; cases e
  | tup b => obtain ⟨_, _, e, _⟩ := in_tupS h'; cases e
  | dct b => obtain ⟨_, e, _⟩ := in_dct.mp h'; cases e
  | ktup b => obtain ⟨_, e, _⟩ := in_ktup.mp h'; cases e
  | agg s b => exact absurd h' in_agg
 | .bl x, d', v, h, h' => by
  rw [in_bl.mp h] at h'
  cases d' with
  | non => cases in_non.mp h'
  | bl b => cases in_bl.mp h'; rfl
  | int b => cases in_int.mp h'
  | str b => cases in_str.mp h'
  | lst b => obtain ⟨_, _, e, _⟩ := in_lst.mp h'; cases e
  | tup b => obtain ⟨_, _, e, _⟩ := in_tupS h'; cases e
  | dct b => obtain ⟨_, e, _⟩ := in_dct.mp h'; cases e
  | ktup b => obtain ⟨_, e, _⟩ := in_ktup.mp h'; cases e
  | agg s b => exact absurd h' in_agg
 | .int x, d', v, h, h' => by
  rw [in_int.mp h] at h'
  cases d' with
  | non => cases in_non.mp h'
  | bl b => cases in_bl.mp h'
  | int b => cases in_int.mp h'; rfl
  | str b => cases in_str.mp h'
  | lst b => obtain ⟨_, _, e, _⟩ := in_lst.mp h'; cases e
  | tup b => obtain ⟨_, _, e, _⟩ := in_tupS h'; cases e
  | dct b => obtain ⟨_, e, _⟩ := in_dct.mp h'; cases e
  | ktup b => obtain ⟨_, e, _⟩ := in_ktup.mp h'; cases e
  | agg s b => exact absurd h' in_agg
 | .str x, d', v, h, h' => by
  rw [in_str.mp h] at h'
  cases d' with
  | non => cases in_non.mp h'
  | bl b => cases in_bl.mp h'
  | int b => cases in_int.mp h'
  | str b => cases in_str.mp h'; rfl
  | lst b => obtain ⟨_, _, e, _⟩ := in_lst.mp h'; cases e
  | tup b => obtain ⟨_, _, e, _⟩ := in_tupS h'; cases e
  | dct b => obtain ⟨_, e, _⟩ := in_dct.mp h'; cases e
  | ktup b => obtain ⟨_, e, _⟩ := in_ktup.mp h'; cases e
  | agg s b => exact absurd h' in_agg
 | .lst ds, d', v, h, h' => by
  obtain ⟨a, xs, rfl, l, j⟩ := in_lst.mp h
  cases d' with
  | non => cases in_non.mp h'
  | bl b => cases in_bl.mp h'
  | int b => cases in_int.mp h'
  | str b => cases in_str.mp h'
  | lst es =>
   obtain ⟨_, ys, e, l', j'⟩ := in_lst.mp h'
   cases e
   have := I.list_inj l.sq l'.sq
   subst this
   rw [Ins.inj I j j']
  | tup es =>
   obtain ⟨_, ys, e, l', j'⟩ := in_tupS h'
   cases e
   exact (lst_not_tup I l.sq l').elim
  | dct o =>
   obtain ⟨_, e, l', _⟩ := in_dct.mp h'
   cases e
   exact (sq_not_dct I l.sq l').elim
  | agg s b => exact absurd h' in_agg
  | ktup ks =>
   obtain ⟨_, e, l'⟩ := in_ktup.mp h'
   cases e
   exact (lst_not_tup I l.sq l'.sq).elim
 | .tup ds, d', v, h, h' => by
  obtain ⟨a, xs, rfl, l, j⟩ := in_tupS h
  cases d' with
  | non => cases in_non.mp h'
  | bl b => cases in_bl.mp h'
  | int b => cases in_int.mp h'
  | str b => cases in_str.mp h'
  | lst es =>
   obtain ⟨_, ys, e, l', j'⟩ := in_lst.mp h'
   cases e
   exact (lst_not_tup I l'.sq l).elim
  | tup es =>
   obtain ⟨_, ys, e, l', j'⟩ := in_tupS h'
   cases e
   have := I.tuple_inj l l'
   subst this
   rw [Ins.inj I j j']
  | dct o =>
   obtain ⟨_, e, l', _⟩ := in_dct.mp h'
   cases e
   obtain ⟨_, _, e, l, _⟩ := in_tup.mp h
   cases e
   rw [l] at l'
   exact ((MO.d o).ntup (Option.some.inj l').symm).elim
  | agg s b => exact absurd h' in_agg
  | ktup ks =>
   obtain ⟨_, e, l'⟩ := in_ktup.mp h'
   cases e
   obtain ⟨_, _, e, l, _⟩ := in_tup.mp h
   cases e
   rw [kfree I l'] at l
   cases l
 | .ktup ks, d', v, h, h' => by
  obtain ⟨a, rfl, l⟩ := in_ktup.mp h
  cases d' with
  | non => cases in_non.mp h'
  | bl b => cases in_bl.mp h'
  | int b => cases in_int.mp h'
  | str b => cases in_str.mp h'
  | lst es =>
   obtain ⟨_, ys, e, l', _⟩ := in_lst.mp h'
   cases e
   exact (lst_not_tup I l'.sq l.sq).elim
  | tup es =>
   obtain ⟨_, ys, e, l', _⟩ := in_tup.mp h'
   cases e
   rw [kfree I l] at l'
   cases l'
  | dct o =>
   obtain ⟨_, e, l', _⟩ := in_dct.mp h'
   cases e
   rw [kfree I l] at l'
   cases l'
  | agg s b => exact absurd h' in_agg
  | ktup ks' =>
   obtain ⟨_, e, l'⟩ := in_ktup.mp h'
   cases e
   rw [kVs_inj (I.tuple_inj (l.sq (H := H)) (l'.sq (H := H)))]
 | .agg s b, d', v, h, h' => absurd h in_agg
 | .dct o, d', v, h, h' => by
  obtain ⟨a, rfl, l, _⟩ := in_dct.mp h
  cases d' with
  | non => cases in_non.mp h'
  | bl b => cases in_bl.mp h'
  | int b => cases in_int.mp h'
  | str b => cases in_str.mp h'
  | lst es =>
   obtain ⟨_, ys, e, l', _⟩ := in_lst.mp h'
   cases e
   exact (sq_not_dct I l'.sq l).elim
  | tup es =>
   obtain ⟨_, ys, e, l', _⟩ := in_tup.mp h'
   cases e
   rw [l'] at l
   exact ((MO.d o).ntup (Option.some.inj l).symm).elim
  | dct o' =>
   obtain ⟨_, e, l', _⟩ := in_dct.mp h'
   cases e
   rw [l] at l'
   rw [DO.inj (Option.some.inj l')]
  | agg s b => exact absurd h' in_agg
  | ktup ks =>
   obtain ⟨_, e, l'⟩ := in_ktup.mp h'
   cases e
   rw [kfree I l'] at l
   cases l
theorem Ins.inj (I : Inv X pins σ H s) : ∀ {ds ds' : List D} {vs : List V}, Ins X.K H Z ds vs -> Ins X.K H Z' ds' vs -> ds = ds'
 | [], ds', _, h, h' => by
  rw [ins_nil.mp h] at h'
  cases ds' with
  | nil => rfl
  | cons d ds => obtain ⟨_, _, e, _⟩ := ins_cons.mp h'; cases e
 | d :: ds, ds', _, h, h' => by
  obtain ⟨v, r, rfl, i, j⟩ := ins_cons.mp h
  cases ds' with
  | nil => cases ins_nil.mp h'
  | cons d' ds' =>
   obtain ⟨v', r', e, i', j'⟩ := ins_cons.mp h'
   cases e
   rw [In.inj I i i', Ins.inj I j j']
end
theorem keqs_is : ∀ (ks : List Key) (ds : List D), keqs ks ds = deqs (ks.map kD) ds
 | [], [] => by simp [keqs, deqs]
 | [], _ :: _ => by simp [keqs, deqs]
 | _ :: _, [] => by simp [keqs, deqs]
 | .inl a :: ks, d :: ds => by
  simp only [keqs, map_cons, deqs, kD]
  rw [keqs_is ks ds]
  cases d <;> simp [keq, deq]
 | .inr a :: ks, d :: ds => by
  simp only [keqs, map_cons, deqs, kD]
  rw [keqs_is ks ds]
  cases d <;> simp [keq, deq]
theorem deps_kD : ∀ ks : List Key, deps (ks.map kD) = 0
 | [] => by simp [deps]
 | .inl a :: ks => by simp [deps, kD, D.dep, deps_kD ks]
 | .inr a :: ks => by simp [deps, kD, D.dep, deps_kD ks]
open PySem.SeqAt in
theorem eqAt_D (I : Inv X pins σ H s) : ∀ (n : Nat) {A : Around} {d d' : D} {v v' : V} {u u' : Value}, In X.K H Z d v -> In X.K H Z' d' v' -> RelV v u -> RelV v' u' -> d.dep <= n -> A.units + n < cLine -> EqAt A s u u' (deq d d') := by
 intro n
 induction n with
 | zero =>
  intro A d d' v v' u u' i i' r r' hd hu
  have hu0 : A.units < cLine := by omega
  have key : ∀ {x : V}, flatV x = true -> v = x -> (∀ y, In X.K H Z' d' y -> RelV y u' -> EqAt A s u u' (deq d d')) -> EqAt A s u u' (deq d d') := fun _ _ h => h v' i' r'
  cases d with
  | lst ds => unfold D.dep at hd; omega
  | tup ds => unfold D.dep at hd; omega
  | dct o => unfold D.dep at hd; omega
  | ktup o => unfold D.dep at hd; omega
  | agg s o => unfold D.dep at hd; omega
  | non =>
   cases in_non.mp i; cases r
   cases d' with
   | non => cases in_non.mp i'; cases r'; simp only [deq]; exact EqAt.same _
   | bl b => cases in_bl.mp i'; cases r'; simp only [deq]; exact EqAt.none_bool b
   | int b => cases in_int.mp i'; obtain ⟨t, rfl⟩ := r'; simp only [deq]; exact EqAt.none_int b t
   | str b => cases in_str.mp i'; obtain ⟨t, rfl⟩ := r'; simp only [deq]; exact EqAt.none_str b t
   | lst b => obtain ⟨a, xs, rfl, l, j⟩ := in_lst.mp i'; cases r'; obtain ⟨its, _, pl, _⟩ := I.list l.sq; simp only [deq]; exact EqAt.none_list pl.isList hu0
   | tup b => obtain ⟨a, xs, rfl, l, j⟩ := in_tupS i'; cases r'; obtain ⟨its, _, pl, _⟩ := I.tuple l; simp only [deq]; exact EqAt.none_tuple pl hu0
   | dct b => obtain ⟨a, rfl, l, _⟩ := in_dct.mp i'; cases r'; simp only [deq]; exact DEq.at_none (dct_at I l) hu0
   | agg s b => exact absurd i' in_agg
   | ktup b => obtain ⟨a, rfl, l⟩ := in_ktup.mp i'; cases r'; obtain ⟨its, _, pl, _⟩ := I.tuple (l.sq (H := H)); simp only [deq]; exact EqAt.none_tuple pl hu0
  | bl x =>
   cases in_bl.mp i; cases r
   cases d' with
   | non => cases in_non.mp i'; cases r'; simp only [deq]; exact EqAt.bool_none x
   | bl b => cases in_bl.mp i'; cases r'; simp only [deq]; exact EqAt.bool_bool x b
   | int b => cases in_int.mp i'; obtain ⟨t, rfl⟩ := r'; simp only [deq]; exact EqAt.bool_int x b t
   | str b => cases in_str.mp i'; obtain ⟨t, rfl⟩ := r'; simp only [deq]; exact EqAt.bool_str x b t
   | lst b => obtain ⟨a, xs, rfl, l, j⟩ := in_lst.mp i'; cases r'; obtain ⟨its, _, pl, _⟩ := I.list l.sq; simp only [deq]; exact EqAt.bool_list x pl.isList hu0
   | tup b => obtain ⟨a, xs, rfl, l, j⟩ := in_tupS i'; cases r'; obtain ⟨its, _, pl, _⟩ := I.tuple l; simp only [deq]; exact EqAt.bool_tuple x pl hu0
   | dct b => obtain ⟨a, rfl, l, _⟩ := in_dct.mp i'; cases r'; simp only [deq]; exact DEq.at_bool x (dct_at I l) hu0
   | agg s b => exact absurd i' in_agg
   | ktup b => obtain ⟨a, rfl, l⟩ := in_ktup.mp i'; cases r'; obtain ⟨its, _, pl, _⟩ := I.tuple (l.sq (H := H)); simp only [deq]; exact EqAt.bool_tuple x pl hu0
  | int x =>
   cases in_int.mp i; obtain ⟨t0, rfl⟩ := r
   cases d' with
   | non => cases in_non.mp i'; cases r'; simp only [deq]; exact EqAt.int_none x t0
   | bl b => cases in_bl.mp i'; cases r'; simp only [deq]; exact EqAt.int_bool x t0 b
   | int b => cases in_int.mp i'; obtain ⟨t, rfl⟩ := r'; simp only [deq]; exact EqAt.int_int x t0 b t
   | str b => cases in_str.mp i'; obtain ⟨t, rfl⟩ := r'; simp only [deq]; exact EqAt.int_str x t0 b t
   | lst b => obtain ⟨a, xs, rfl, l, j⟩ := in_lst.mp i'; cases r'; obtain ⟨its, _, pl, _⟩ := I.list l.sq; simp only [deq]; exact EqAt.int_list x t0 pl.isList hu0
   | tup b => obtain ⟨a, xs, rfl, l, j⟩ := in_tupS i'; cases r'; obtain ⟨its, _, pl, _⟩ := I.tuple l; simp only [deq]; exact EqAt.int_tuple x t0 pl hu0
   | dct b => obtain ⟨a, rfl, l, _⟩ := in_dct.mp i'; cases r'; simp only [deq]; exact DEq.at_int x t0 (dct_at I l) hu0
   | agg s b => exact absurd i' in_agg
   | ktup b => obtain ⟨a, rfl, l⟩ := in_ktup.mp i'; cases r'; obtain ⟨its, _, pl, _⟩ := I.tuple (l.sq (H := H)); simp only [deq]; exact EqAt.int_tuple x t0 pl hu0
  | str x =>
   cases in_str.mp i; obtain ⟨t0, rfl⟩ := r
   cases d' with
   | non => cases in_non.mp i'; cases r'; simp only [deq]; exact EqAt.str_none x t0
   | bl b => cases in_bl.mp i'; cases r'; simp only [deq]; exact EqAt.str_bool x t0 b
   | int b => cases in_int.mp i'; obtain ⟨t, rfl⟩ := r'; simp only [deq]; exact EqAt.str_int x t0 b t
   | str b => cases in_str.mp i'; obtain ⟨t, rfl⟩ := r'; simp only [deq]; exact EqAt.str_str x t0 b t
   | lst b => obtain ⟨a, xs, rfl, l, j⟩ := in_lst.mp i'; cases r'; obtain ⟨its, _, pl, _⟩ := I.list l.sq; simp only [deq]; exact EqAt.str_list x t0 pl.isList hu0
   | tup b => obtain ⟨a, xs, rfl, l, j⟩ := in_tupS i'; cases r'; obtain ⟨its, _, pl, _⟩ := I.tuple l; simp only [deq]; exact EqAt.str_tuple x t0 pl hu0
   | dct b => obtain ⟨a, rfl, l, _⟩ := in_dct.mp i'; cases r'; simp only [deq]; exact DEq.at_str x t0 (dct_at I l) hu0
   | agg s b => exact absurd i' in_agg
   | ktup b => obtain ⟨a, rfl, l⟩ := in_ktup.mp i'; cases r'; obtain ⟨its, _, pl, _⟩ := I.tuple (l.sq (H := H)); simp only [deq]; exact EqAt.str_tuple x t0 pl hu0
 | succ n ih =>
  intro A d d' v v' u u' i i' r r' hd hu
  have hu0 : A.units < cLine := by omega
  have hu1 : A.in1.units + n < cLine := by show A.units + 1 + n < cLine; omega
  have small : d.dep <= n -> EqAt A s u u' (deq d d') := fun h => ih i i' r r' h (by omega)
  -- the items, one by one
  have items : ∀ {ds es : List D} {xs ys : List V} {its its2 : List Value}, deps ds <= n -> Ins X.K H Z ds xs -> Ins X.K H Z' es ys -> Vals xs its -> Vals ys its2 -> ∀ j (h1 : j < its.toArray.size) (h2 : j < its2.toArray.size),
   EqAt A.in1 s its.toArray[j] its2.toArray[j] (deq (ds.getD j .non) (es.getD j .non)) := fun {ds es xs ys its its2} hdn jx jy rx ry j h1 h2 => by
   have z1 := jx.length; have z2 := jy.length; have z3 := rx.length; have z4 := ry.length
   simp at h1 h2
   have hj1 : j < ds.length := by omega
   have hj2 : j < es.length := by omega
   obtain ⟨x, ex, ix⟩ := jx.get (i := j) (d := ds[j]) (by simp [hj1])
   obtain ⟨y, ey, iy⟩ := jy.get (i := j) (d := es[j]) (by simp [hj2])
   obtain ⟨w1, f1, q1⟩ := rx.get ex
   obtain ⟨w2, f2, q2⟩ := ry.get ey
   have g1 : its.toArray[j] = w1 := by
    have := (List.getElem?_eq_some_iff.mp f1).2
    simpa using this
   have g2 : its2.toArray[j] = w2 := by
    have := (List.getElem?_eq_some_iff.mp f2).2
    simpa using this
   rw [g1, g2]
   have e1 : ds.getD j .non = ds[j] := by simp [hj1]
   have e2 : es.getD j .non = es[j] := by simp [hj2]
   rw [e1, e2]
   exact ih ix iy q1 q2 (Nat.le_trans (deps_mem (getElem_mem hj1)) hdn) hu1
  cases d with
  | non => exact small (by simp [D.dep])
  | bl x => exact small (by simp [D.dep])
  | int x => exact small (by simp [D.dep])
  | str x => exact small (by simp [D.dep])
  | dct o => exact absurd hu (by unfold D.dep at hd; have : cLine = 9900 := rfl; omega)
  | agg s b => exact absurd i in_agg
  | ktup ks0 =>
   obtain ⟨a, rfl, l⟩ := in_ktup.mp i
   cases r
   obtain ⟨its, rx, pl, _⟩ := I.tuple (l.sq (H := H))
   have j : Ins X.K H Z (ks0.map kD) (ks0.map kV) := ins_kV ks0
   have hdn : deps (ks0.map kD) <= n := by rw [deps_kD]; exact Nat.zero_le _
   cases d' with
   | non => cases in_non.mp i'; cases r'; simp only [deq]; exact EqAt.tuple_none pl hu0
   | bl b => cases in_bl.mp i'; cases r'; simp only [deq]; exact EqAt.tuple_bool b pl hu0
   | int b => cases in_int.mp i'; obtain ⟨t, rfl⟩ := r'; simp only [deq]; exact EqAt.tuple_int b t pl hu0
   | str b => cases in_str.mp i'; obtain ⟨t, rfl⟩ := r'; simp only [deq]; exact EqAt.tuple_str b t pl hu0
   | lst es => obtain ⟨a', ys, rfl, l', j'⟩ := in_lst.mp i'; cases r'; obtain ⟨its2, _, pl2, _⟩ := I.list l'.sq; simp only [deq]; exact EqAt.tuple_list pl pl2.isList hu0
   | dct b => obtain ⟨a', rfl, l', _⟩ := in_dct.mp i'; cases r'; simp only [deq]; exact DEq.at_tuple pl (dct_at I l') hu0
   | agg s b => exact absurd i' in_agg
   | ktup ks =>
    obtain ⟨a', rfl, l'⟩ := in_ktup.mp i'
    cases r'
    obtain ⟨its2, ry, pl2, _⟩ := I.tuple (l'.sq (H := H))
    by_cases haa : a = a'
    . subst haa
      have e : D.ktup ks0 = D.ktup ks := In.inj I i i'
      rw [e, deq_refl]
      exact EqAt.same _
    have j' : Ins X.K H Z' (ks.map kD) (ks.map kV) := ins_kV ks
    refine EqAt.of_refs haa ?_
    have z1 := j.length; have z2 := j'.length; have z3 := rx.length; have z4 := ry.length
    simp only [deq]
    rw [keqs_is, <- deqs_range]
    have := RcAt.tuples (e := fun k => deq ((ks0.map kD).getD k .non) ((ks.map kD).getD k .non)) pl pl2 hu0 (items hdn j j' rx ry)
    have e1 : its.toArray.size = (ks0.map kD).length := by simp at z1 z3 ⊢; omega
    have e2 : its2.toArray.size = (ks.map kD).length := by simp at z2 z4 ⊢; omega
    rw [e1, e2] at this
    exact this
   | tup es =>
    obtain ⟨a', ys, rfl, l', j'⟩ := in_tupS i'
    cases r'
    obtain ⟨its2, ry, pl2, _⟩ := I.tuple l'
    have haa : a ≠ a' := fun z => by
     subst z
     obtain ⟨_, _, e, lt, _⟩ := in_tup.mp i'
     cases e
     rw [kfree I l] at lt
     cases lt
    refine EqAt.of_refs haa ?_
    have z1 := j.length; have z2 := j'.length; have z3 := rx.length; have z4 := ry.length
    simp only [deq]
    rw [keqs_is, <- deqs_range]
    have := RcAt.tuples (e := fun k => deq ((ks0.map kD).getD k .non) (es.getD k .non)) pl pl2 hu0 (items hdn j j' rx ry)
    have e1 : its.toArray.size = (ks0.map kD).length := by simp at z1 z3 ⊢; omega
    have e2 : its2.toArray.size = es.length := by simp at z2 z4 ⊢; omega
    rw [e1, e2] at this
    exact this
  | lst ds =>
   have hdn : deps ds <= n := by unfold D.dep at hd; omega
   obtain ⟨a, xs, rfl, l, j⟩ := in_lst.mp i
   cases r
   obtain ⟨its, rx, pl, _⟩ := I.list l.sq
   cases d' with
   | non => cases in_non.mp i'; cases r'; simp only [deq]; exact EqAt.list_none pl.isList hu0
   | bl b => cases in_bl.mp i'; cases r'; simp only [deq]; exact EqAt.list_bool b pl.isList hu0
   | int b => cases in_int.mp i'; obtain ⟨t, rfl⟩ := r'; simp only [deq]; exact EqAt.list_int b t pl.isList hu0
   | str b => cases in_str.mp i'; obtain ⟨t, rfl⟩ := r'; simp only [deq]; exact EqAt.list_str b t pl.isList hu0
   | tup es => obtain ⟨a', ys, rfl, l', j'⟩ := in_tupS i'; cases r'; obtain ⟨its2, _, pl2, _⟩ := I.tuple l'; simp only [deq]; exact EqAt.list_tuple pl.isList pl2 hu0
   | dct b => obtain ⟨a', rfl, l', _⟩ := in_dct.mp i'; cases r'; simp only [deq]; exact DEq.at_list pl.isList (dct_at I l') hu0
   | agg s b => exact absurd i' in_agg
   | ktup b => obtain ⟨a', rfl, l'⟩ := in_ktup.mp i'; cases r'; obtain ⟨its2, _, pl2, _⟩ := I.tuple (l'.sq (H := H)); simp only [deq]; exact EqAt.list_tuple pl.isList pl2 hu0
   | lst es =>
    obtain ⟨a', ys, rfl, l', j'⟩ := in_lst.mp i'
    cases r'
    obtain ⟨its2, ry, pl2, _⟩ := I.list l'.sq
    by_cases haa : a = a'
    . subst haa
      have e : D.lst ds = D.lst es := In.inj I i i'
      rw [e, deq_refl]
      exact EqAt.same _
    . refine EqAt.of_refs haa ?_
      have z1 := j.length; have z2 := j'.length; have z3 := rx.length; have z4 := ry.length
      simp only [deq]
      rw [<- deqs_range]
      by_cases hsz : its.toArray.size = its2.toArray.size
      . have := RcAt.lists (e := fun k => deq (ds.getD k .non) (es.getD k .non)) pl.isList pl2.isList hsz hu0 (items hdn j j' rx ry)
        have e1 : its.toArray.size = min ds.length es.length := by simp at hsz ⊢; omega
        have e2 : (ds.length == es.length) = true := by simp at hsz ⊢; omega
        rw [e1] at this
        rw [e2, Bool.and_true]
        exact this
      . have e2 : (ds.length == es.length) = false := by simp at hsz ⊢; omega
        rw [e2, Bool.and_false]
        exact RcAt.lists_lengths pl.isList pl2.isList (by simpa using hsz) hu0
  | tup ds =>
   have hdn : deps ds <= n := by unfold D.dep at hd; omega
   obtain ⟨a, xs, rfl, l, j⟩ := in_tupS i
   cases r
   obtain ⟨its, rx, pl, _⟩ := I.tuple l
   cases d' with
   | non => cases in_non.mp i'; cases r'; simp only [deq]; exact EqAt.tuple_none pl hu0
   | bl b => cases in_bl.mp i'; cases r'; simp only [deq]; exact EqAt.tuple_bool b pl hu0
   | int b => cases in_int.mp i'; obtain ⟨t, rfl⟩ := r'; simp only [deq]; exact EqAt.tuple_int b t pl hu0
   | str b => cases in_str.mp i'; obtain ⟨t, rfl⟩ := r'; simp only [deq]; exact EqAt.tuple_str b t pl hu0
   | lst es => obtain ⟨a', ys, rfl, l', j'⟩ := in_lst.mp i'; cases r'; obtain ⟨its2, _, pl2, _⟩ := I.list l'.sq; simp only [deq]; exact EqAt.tuple_list pl pl2.isList hu0
   | dct b => obtain ⟨a', rfl, l', _⟩ := in_dct.mp i'; cases r'; simp only [deq]; exact DEq.at_tuple pl (dct_at I l') hu0
   | agg s b => exact absurd i' in_agg
   | ktup ks =>
    obtain ⟨a', rfl, l'⟩ := in_ktup.mp i'
    cases r'
    obtain ⟨its2, ry, pl2, _⟩ := I.tuple (l'.sq (H := H))
    have j' : Ins X.K H Z' (ks.map kD) (ks.map kV) := ins_kV ks
    have haa : a ≠ a' := fun z => by
     subst z
     obtain ⟨_, _, e, lt, _⟩ := in_tup.mp i
     cases e
     rw [kfree I l'] at lt
     cases lt
    refine EqAt.of_refs haa ?_
    have z1 := j.length; have z2 := j'.length; have z3 := rx.length; have z4 := ry.length
    simp only [deq]
    rw [<- deqs_range]
    have := RcAt.tuples (e := fun k => deq (ds.getD k .non) ((ks.map kD).getD k .non)) pl pl2 hu0 (items hdn j j' rx ry)
    have e1 : its.toArray.size = ds.length := by simp; omega
    have e2 : its2.toArray.size = (ks.map kD).length := by simp at z2 z4 ⊢; omega
    rw [e1, e2] at this
    exact this
   | tup es =>
    obtain ⟨a', ys, rfl, l', j'⟩ := in_tupS i'
    cases r'
    obtain ⟨its2, ry, pl2, _⟩ := I.tuple l'
    by_cases haa : a = a'
    . subst haa
      have e : D.tup ds = D.tup es := In.inj I i i'
      rw [e, deq_refl]
      exact EqAt.same _
    . refine EqAt.of_refs haa ?_
      have z1 := j.length; have z2 := j'.length; have z3 := rx.length; have z4 := ry.length
      simp only [deq]
      rw [<- deqs_range]
      have := RcAt.tuples (e := fun k => deq (ds.getD k .non) (es.getD k .non)) pl pl2 hu0 (items hdn j j' rx ry)
      have e1 : its.toArray.size = ds.length := by simp; omega
      have e2 : its2.toArray.size = es.length := by simp; omega
      rw [e1, e2] at this
      exact this
end
section
variable {X : Cx} {F : Fn} {ρ : Rho} {Q : EndD} {rest : List Stmt} {e : Expr} {d : D} {pos p : Pos} {x : Str} {fr m1 : Bool} {ds : List D} {dss : List (List D)}
theorem sd_setCN (i : Nat) {x : Str} {d : D} (he : EC X true (view true false ρ) e d) (hr : SD X F rest (ρ.set i (some (.pl true d))) Q) (hN : X.N.Nodup) (hi : X.N[i]? = some x := by rfl)
 (hx : Loc X.env.scope x := by first | exact Or.inl rfl | exact Or.inr rfl) (hρ : i < ρ.length := by exact of_decide_eq_true rfl) (hs : swapsWith e (some (.Name x p)) pos.line X.env = pure true := by rfl) (hf : X.fn x = true \/ X.env.scope.names.lookup x = some .local := by first | exact .inl rfl | exact .inr rfl) :
 SD X F (.Assign [.Name x p] e pos :: rest) ρ Q :=
 sd_then (PS.mono (he.s x i pos p hN hi hx hs hf) fun Q' σ H z0 => el33 z0 fun hv hρ' A hl S f => ⟨_, vz_open S true false, S.env hl true false, fun v H1 s1 i1 => f.nx _ H1 (put_pl hl S hρ s1 (In.up (zn_open S true) i1))⟩) hr
theorem StIn.ow2 {K : Frag} {H : Hp} {σ hv : St} {hρ : Rho} {A : Nat -> List Addr} {i : Nat} (S : StIn K F H (σ ++ hv) (ρ ++ hρ) A) (hl : σ.length = ρ.length) (h : ρ[i]? = some (some (.ow2 fr dss))) :
 ∃ l as, σ[i]? = some (some (.ref l)) /\ A i = l :: as /\ H l = some (.lst (as.map V.ref)) /\ RowsAt K H (zn F (Owned A) fr) dss as := by
 have hi : i < ρ.length := (List.getElem?_eq_some_iff.mp h).1
 obtain ⟨v, a, l, as, e1, rfl, e2, j⟩ := S.at' i _ (by rw [getElem?_append_left hi]; exact h)
 rw [getElem?_append_left (by omega)] at a
 exact ⟨l, as, a, e1, e2, j⟩
theorem RowsAt.length {K : Frag} {H : Hp} {Z : Zone} {as : List Addr} (h : RowsAt K H Z dss as) : dss.length = as.length := Paired.length h
theorem RowsAt.snoc {K : Frag} {H : Hp} {Z : Zone} {as : List Addr} {ds : List D} {a : Addr} {xs : List V} (h : RowsAt K H Z dss as) (e : H a = some (.lst xs)) (i : Ins K H Z ds xs) : RowsAt K H Z (dss ++ [ds]) (as ++ [a]) := Paired.snoc h ⟨xs, e, i⟩
theorem RowsAt.unsnoc {K : Frag} {H : Hp} {Z : Zone} : ∀ {dss : List (List D)} {as : List Addr} {ds : List D}, RowsAt K H Z (dss ++ [ds]) as -> ∃ bs a xs, as = bs ++ [a] /\ RowsAt K H Z dss bs /\ H a = some (.lst xs) /\ Ins K H Z ds xs
 | [], as, ds, h => by
  cases h with
  | cons r t => cases t; obtain ⟨xs, e, i⟩ := r; exact ⟨[], _, xs, rfl, .nil, e, i⟩
 | d :: dss, as, ds, h => by
  cases h with
  | cons r t =>
   obtain ⟨bs, a, xs, rfl, h1, e, i⟩ := RowsAt.unsnoc t
   exact ⟨_ :: bs, a, xs, rfl, .cons r h1, e, i⟩
theorem sd_append2n (i : Nat) {x : Str} {ap cp : Pos} {dss : List (List D)} (fr : Bool) (h : ρ[i]? = some (some (.ow2 fr dss)) := by rfl) (he : E X true (view true false ρ) e (.lst [])) (hz : dss.length < 1000) (hr : SD X F rest (ρ.set i (some (.ow2 fr (dss ++ [[]])))) Q)
 (hN : X.N[i]? = some x := by rfl) (hv : Vis X.env.scope x := by first | exact Or.inl rfl | exact Or.inr (Or.inl rfl) | exact Or.inr (Or.inr rfl)) (hd : (x == ("__debug__" : Str)) = false := by decide) (hcd : (x == ("__classdict__" : Str)) = false := by decide)
 (hbase : attributeBase (.Name x p) "append" X.env (eval (.Name x p) X.env) = eval (.Name x p) X.env := by rfl) (hline : (ap.endLine == cp.line) = true := by rfl)
 (hs : starEach [e] X.env = [(false, eval e X.env)] := by rfl) (hsw : swapsWith (.Call (.Attribute (.Name x p) "append" ap) [e] [] cp) none pos.line X.env = pure false := by rfl) :
 SD X F (.Expr (.Call (.Attribute (.Name x p) "append" ap) [e] [] cp) pos :: rest) ρ Q := by
 refine sd_then (PS.mono (ps_expr (pe_bm PySem.F.plainAttrs_list PySem.F.slot_list_append PySem.F.type_list_append mt_append (pe_var hN hv hd hcd) (pa_cons he pa_nil (by rw [hs]; rfl)) hbase (by rw [hs]; rfl) hline (by rw [hs]; rfl) rfl) hsw) ?_) hr
 rintro Q' σ H ⟨hv, hρ, A, hl, S, f⟩
 obtain ⟨l, as, e1, e2, e3, j⟩ := S.ow2 hl h
 have hi : i < σ.length := (List.getElem?_eq_some_iff.mp e1).1
 refine ⟨.ref l, e1, .inl ⟨rfl, _, SqL.of e3⟩, _, vz_open S true false, S.env hl true false, fun v H1 s1 i1 => ?_⟩
 obtain ⟨a, ys, rfl, at', jn⟩ := in_lst.mp i1
 cases ins_nil.mp jn
 obtain ⟨ea, en⟩ : H1 a = some (.lst []) /\ H a = none := by
  rcases at' with z | z
  . exact z
  . exact absurd z.1 (by simp [out, nw])
 have hlen : (as.map V.ref).length < sizeLine := by rw [length_map, <- j.length]; exact small1000 (by omega)
 refine ⟨l, _, .ref a, rfl, rfl, s1.at e3, hlen, f.nx _ _ ?_⟩
 have hal : a ≠ l := by rintro rfl; rw [e3] at en; cases en
 have haA : ∀ j, a ∉ A j := fun j hj => by obtain ⟨xs, e⟩ := S.lst j a hj; rw [en] at e; cases e
 have hnd := S.nd i
 rw [e2] at hnd
 have hl0 : l ∉ as := (nodup_cons.mp hnd).1
 have kk : ∀ b o, H b = some o -> isT o = false -> b ∉ A i -> (upd H1 l (.lst (as.map V.ref ++ [.ref a]))) b = some o := fun b o e n hb => by
  rw [e2] at hb
  have : b ≠ l := fun z => hb (by simp [z])
  rw [upd_ne this]; exact s1.get b o e n
 have mine : ∀ b ∈ l :: (as ++ [a]), b ∈ A i \/ H b = none := fun b hb => by
  rcases mem_cons.mp hb with z | hb
  . exact .inl (by rw [e2, z]; simp)
  . rcases mem_append.mp hb with hb | hb
    . exact .inl (by rw [e2]; simp [hb])
    . have : b = a := by simpa using hb
      exact .inr (by rw [this]; exact en)
 refine ⟨_, putA A i (l :: (as ++ [a])), by simp [hl], ?_, rfl⟩
 have key := S.re (i := i) (v := .ref l) (sl := .ow2 fr (dss ++ [[]])) (l := l :: (as ++ [a])) (H2 := upd H1 l (.lst (as.map V.ref ++ [.ref a]))) (by rw [List.length_append]; omega) (by rw [List.length_append]; omega) ((S.same.trans s1).write (S.new i l (by rw [e2]; simp)) (s1.at e3)) kk ?_ (fun b hb => ⟨mine b hb, ?_⟩) ⟨l, as ++ [a], rfl, rfl, ?_, ?_⟩
 . rw [set_self (by rw [getElem?_append_left hi]; exact e1), set_app (by omega)] at key
   exact key
 . have n1 : a ∉ l :: as := by rw [<- e2]; exact haA i
   rw [<- cons_append]
   exact List.nodup_append.mpr ⟨hnd, by simp, fun b hb c hc => by
    have : c = a := by simpa using hc
    subst this
    rintro rfl
    exact n1 hb⟩
 . rcases mem_cons.mp hb with z | hb
   . exact ⟨.l _, by rw [z, upd_same]; rfl⟩
   . rcases mem_append.mp hb with hb | hb
     . have : b ≠ l := fun z => hl0 (z ▸ hb)
       obtain ⟨xs, e⟩ := S.lst i b (by rw [e2]; simp [hb])
       exact ⟨xs, by rw [upd_ne this]; exact s1.at e xs.nt⟩
     . have : b = a := by simpa using hb
       rw [this, upd_ne hal]
       exact ⟨.l _, ea⟩
 . rw [upd_same, map_append]; rfl
 . refine RowsAt.snoc (xs := []) (j.carry (fun b xs hb e => ?_) (carry_re S kk mine fr)) (by rw [upd_ne hal]; exact ea) (ins_nil.mpr rfl)
   have : b ≠ l := by rintro rfl; exact hl0 hb
   rw [upd_ne this]; exact s1.at e
theorem sd_append2 (i : Nat) {x : Str} {ap cp sp : Pos} {ix : Expr} {mi : Bool} {dss : List (List D)} {ds : List D} (fr : Bool) {d : D} (h : ρ[i]? = some (some (.ow2 fr (dss ++ [ds]))) := by rfl) (hix : E X mi (view true false ρ) ix (.int (-1))) (he : E X m1 (view true false ρ) e d) (fl : d.flat = true) (hz : ds.length < 1000)
 (hr : SD X F rest (ρ.set i (some (.ow2 fr (dss ++ [ds ++ [d]])))) Q)
 (hN : X.N[i]? = some x := by rfl) (hv : Vis X.env.scope x := by first | exact Or.inl rfl | exact Or.inr (Or.inl rfl) | exact Or.inr (Or.inr rfl)) (hd : (x == ("__debug__" : Str)) = false := by decide) (hcd : (x == ("__classdict__" : Str)) = false := by decide)
 (hpi : PlainIx ix := by intro _ _; rfl) (hbase : attributeBase (.Subscript (.Name x p) ix sp) "append" X.env (eval (.Subscript (.Name x p) ix sp) X.env) = eval (.Subscript (.Name x p) ix sp) X.env := by rfl)
 (hline : (ap.endLine == cp.line) = true := by rfl)
 (hs : starEach [e] X.env = [(false, eval e X.env)] := by rfl) (hsw : swapsWith (.Call (.Attribute (.Subscript (.Name x p) ix sp) "append" ap) [e] [] cp) none pos.line X.env = pure false := by rfl) :
 SD X F (.Expr (.Call (.Attribute (.Subscript (.Name x p) ix sp) "append" ap) [e] [] cp) pos :: rest) ρ Q := by
 refine sd_then (PS.mono (ps_expr (pe_bm PySem.F.plainAttrs_list PySem.F.slot_list_append PySem.F.type_list_append mt_append (pe_ix ix_list (pe_var hN hv hd hcd) hix hpi) (pa_cons he pa_nil (by rw [hs]; rfl)) hbase (by rw [hs]; rfl) hline (by rw [hs]; rfl) rfl) hsw) ?_) hr
 rintro Q' σ H ⟨hv, hρ, A, hl, S, f⟩
 obtain ⟨l, as, e1, e2, e3, j⟩ := S.ow2 hl h
 have hi : i < σ.length := (List.getElem?_eq_some_iff.mp e1).1
 obtain ⟨bs, a, xs, rfl, j1, ea, ja⟩ := j.unsnoc
 have hnd := S.nd i
 rw [e2] at hnd
 have hal : a ≠ l := fun z => (nodup_cons.mp hnd).1 (by simp [z])
 have hab : a ∉ bs := fun z => by
  have := (List.nodup_append.mp (nodup_cons.mp hnd).2).2.2 a z a (by simp)
  exact this rfl
 refine ⟨.ref l, e1, _, vz_open S true false, S.env hl true false, fun y H1 s1 i1 => ⟨l, _, -1, .ref a, rfl, in_int.mp (i1.plain (vz_open S true false)), SqL.of (s1.at e3), ?_, .inl ⟨rfl, xs, SqL.of (s1.at ea)⟩, _, (vz_open S true false).same s1, (S.env hl true false).same s1, fun w H2 s2 i2 => ?_⟩⟩
 . rw [map_append]; exact atI_last _ _
 . have s12 := s1.trans s2
   have S2 := S.grow s12
   have hlen : xs.length < sizeLine := by rw [<- ja.length]; exact small1000 (by omega)
   refine ⟨a, xs, w, rfl, rfl, s12.at ea, hlen, f.nx _ _ ?_⟩
   have aA : a ∈ A i := by rw [e2]; simp
   have kk : ∀ b o, H2 b = some o -> isT o = false -> b ∉ A i -> (upd H2 a (.lst (xs ++ [w]))) b = some o := fun b o e n hb => by
    have : b ≠ a := fun z => hb (z ▸ aA)
    rw [upd_ne this]; exact e
   have mine : ∀ b ∈ l :: (bs ++ [a]), b ∈ A i \/ H2 b = none := fun b hb => .inl (by rw [e2]; exact hb)
   refine ⟨_, putA A i (l :: (bs ++ [a])), by simp [hl], ?_, rfl⟩
   have key := S2.re (i := i) (v := .ref l) (sl := .ow2 fr (dss ++ [ds ++ [d]])) (l := l :: (bs ++ [a])) (H2 := upd H2 a (.lst (xs ++ [w]))) (by rw [List.length_append]; omega) (by rw [List.length_append]; omega) (S2.same.write (S2.new i a aA) (s12.at ea)) kk hnd (fun b hb => ⟨mine b hb, ?_⟩) ⟨l, bs ++ [a], rfl, rfl, ?_, ?_⟩
   . rw [set_self (by rw [getElem?_append_left hi]; exact e1), set_app (by omega)] at key
     exact key
   . by_cases z : b = a
     . exact ⟨.l _, by rw [z, upd_same]; rfl⟩
     . rw [upd_ne z]
       exact S2.lst i b (by rw [e2]; exact hb)
   . rw [upd_ne (Ne.symm hal)]; exact s12.at e3
   . have c := carry_re S2 kk mine fr
     have sqt : ∀ b (ys : List V), H2 b = some (.tup ys) -> (upd H2 a (.lst (xs ++ [w]))) b = some (.tup ys) := c.t
     have j1' : RowsAt X.K H2 (zn F (Owned A) fr) dss bs := j1.carry (fun b ys hb e => s12.at e) (Carry.same s12)
     refine RowsAt.snoc (j1'.carry (fun b ys hb e => ?_) c) upd_same (Ins.append ((ja.same s12).carry c) (Ins.one (In.flat sqt fl i2)))
     have : b ≠ a := fun z => hab (z ▸ hb)
     rw [upd_ne this]; exact e
end
section
variable {X : Cx} {pins : List (Addr × Obj)} {σ : St} {H H' : Hp} {s : Shared} {h' : Heap}
theorem turnedL {t' : Nat} {ch : List Addr} (I : Inv X pins σ H s) (k : ∀ b o, b ∉ ch -> s.heap.get? b = some o -> h'.get? b = some o) (hf : ∀ b ∈ ch, FpOk X pins H b) : Inv X pins σ H { s with heap := h', toks := t' } := by
 have nit : ∀ b u, H b = some u -> b ∉ ch := fun b u e z => by rw [(hf b z).1] at e; cases e
 refine I.step (g' := s.gens) (d' := s.drawn) (ch := ch) (fun b hb => ⟨(hf b hb).2.2.2.1, (hf b hb).2.1, (hf b hb).2.2.2.2.1, (hf b hb).2.2.2.2.2⟩) (fun b o _ _ hc e _ => k b o hc e) (fun b o _ _ hc e _ => ⟨o.slots, k b o hc e⟩) (fun _ _ _ _ n => n)
  (fun b o hc e => ⟨o, k b o hc e⟩) (fun _ _ e => e) (fun _ _ _ e => e) (fun b ps e => ⟨#[], by rw [e]; simp⟩) (fun m hm => ?_) (fun b u e => ?_) I.bare
 . obtain ⟨o, es, ep, ho, r⟩ := hm
   exact ⟨o, es, ep, k _ o (fun z => (hf _ z).2.1 rfl) ho, r⟩
 . refine (I.hok b u e).stay (fun c v hc q => k c v ?_ q) (fun _ q => q) fun _ _ q => q
   rcases hc with z | z
   . rw [z]; exact nit b u e
   . exact nit c _ z
theorem track {a : Addr} {o : HO} (I : Inv X pins σ H s) (f : FpOk X pins H a) (ha : X.s₀.heap.objs.size <= a) (new : ObjOk X.prog X.w (upd H a o) s.heap a o) : Inv X pins σ (upd H a o) s := by
 have hn := f.1
 have ne0 : ∀ b ob, X.s₀.heap.get? b = some ob -> b ≠ a := fun b ob e => Nat.ne_of_lt (Nat.lt_of_lt_of_le (lt_size e) ha)
 refine ⟨I.ok, I.os, I.bare, ⟨I.base.keep, I.base.slot, fun b ob e n hx => ?_, I.base.there, fun b xs e => ?_, fun b ob u e => ?_, fun b ps e => ?_⟩, I.loc, I.cell, ?_, fun x c e => ?_, fun p hp => ?_, fun b u e => ?_, I.len⟩
 . rw [upd_ne (ne0 b ob e)]; exact I.base.free b ob e n hx
 . have := I.base.tups b xs e
   rw [upd_ne (ne_of_none this hn)]; exact this
 . have := I.base.frzs b ob u e
   rw [upd_ne (ne_of_none this hn)]; exact this
 . obtain ⟨m, e1⟩ := I.base.tbls b ps e
   exact ⟨m, by rw [upd_ne (ne_of_none e1 hn)]; exact e1⟩
 . rw [upd_ne (Ne.symm f.2.1)]; exact I.free
 . rw [upd_ne (f.2.2.2.2.1 x c e)]; exact I.freeC x c e
 . obtain ⟨h1, h2, h3, h4, h5⟩ := I.pin p hp
   exact ⟨h1, by rw [upd_ne (f.2.2.2.2.2 p hp)]; exact h2, h3, h4, h5⟩
 . by_cases hb : b = a
   . subst hb; rw [upd_same] at e; cases e; exact new
   . rw [upd_ne hb] at e
     exact (I.hok b u e).stay (fun c v _ q => q) (fun c q => by rw [upd_ne (ne_of_none q hn)]; exact q) fun c xs q => by rw [upd_ne (ne_of_none q hn)]; exact q
end
def Ite (K : Frag) (a : Addr) : It :=
 ⟨fun i H => ∃ xs x, SqL K H a xs /\ xs[i]? = some x, fun i H y H' => ∃ p x, H p = none /\ y = .ref p /\ (∀ xs, SqL K H a xs -> xs[i]? = some x) /\ H' = upd H p (.tup [.int i, x]), fun i H => ∃ xs, SqL K H a xs /\ xs.length <= i⟩
theorem turn_enum {P : Program} {w : World} {K : Frag} {es : List Expr} {kt : Nat} {pt : Pos} (a e it : Addr) (hne : e ≠ it) : Turn P w K (.Tuple es kt pt) (Ite K a) [e, it] e (fun i h => (∃ old, IsEnum h e it (i : Nat) old) /\ h.IsListIter it a i) where
 mem := by simp
 obj := fun i h st b hb => by
  obtain ⟨⟨old, he⟩, o, e1, c, d⟩ := st
  rcases mem_cons.mp hb with rfl | hb
  . exact ⟨_, he, fun v z => by
     have z' : Data.fields _ = Data.cell v := z
     cases z'⟩
  . have e2 : b = it := by simpa using hb
    subst e2
    exact ⟨o, e1, fun v z => by rw [d] at z; cases z⟩
 keep := fun i h h' st k => by
  obtain ⟨⟨old, he⟩, hit⟩ := st
  exact ⟨⟨old, k e (by simp) _ he⟩, hit.at fun o q => k it (by simp) o q⟩
 item := by
  intro X hP hw hK hc i pins s σ H E I hf st hg
  subst hP hw hK
  obtain ⟨⟨old, he⟩, hit⟩ := st
  obtain ⟨xs, x, hq, hx⟩ := hg
  obtain ⟨its, rv, p, hz⟩ := I.list hq
  obtain ⟨u, hu, ru⟩ := rv.get hx
  refine wpAny_pyNext_enum_item he hit p.isList (x := u) (by simpa using hu) hne fun h1 he1 hit1 ht1 hz1 hk1 => ?_
  refine ⟨_, rfl, wpAny_letOwnedTupleGo_enum (s := { s with heap := h1, toks := s.toks + 1 }) he1 fun h2 he2 sb2 => ?_⟩
  have hlt : e < s.heap.objs.size := lt_size he
  have kk : ∀ b o, b ∉ [e, it] -> s.heap.get? b = some o -> h2.get? b = some o := fun b o hb q => by
   have b1 : b ≠ e := fun z => hb (by simp [z])
   have b2 : b ≠ it := fun z => hb (by simp [z])
   exact (sb2.2 b b1).trans (hk1 b o b1 b2 q)
  have I2 : Inv X pins σ H { s with heap := h2, toks := s.toks + 1 } := turnedL I kk hf
  have fresh := I.hok.fresh (Nat.le_refl s.heap.objs.size)
  have tup : h2.get? s.heap.objs.size = some { cls := .type "tuple", data := .seq #[.int i s.toks, u] } := (sb2.2 _ (Nat.ne_of_gt hlt)).trans ht1
  have I3 := track (o := .tup [.int (i : Nat), x]) I2 (I.fpOk (Nat.le_refl _) fresh) (Nat.le_trans I.sz (Nat.le_refl _)) ⟨by show 2 <= sizeLine; exact Nat.le_of_lt (small1000 (by decide)), [.int i s.toks, u], .cons ⟨_, rfl⟩ (.cons ru .nil), ⟨_, tup, rfl, _, rfl⟩⟩
  refine ⟨.ref s.heap.objs.size, _, I3, rfl, ⟨s.heap.objs.size, x, fresh, rfl, fun ys hy => by rw [I.list_inj hy hq]; exact hx, rfl⟩, ⟨⟨u, ?_⟩, ?_⟩, fun b hb => ?_⟩
  . have : ((i : Int) + 1) = ((i + 1 : Nat) : Int) := by omega
    rw [<- this]; exact he2
  . obtain ⟨o, q, c, d⟩ := hit1
    exact ⟨o, (sb2.2 it (Ne.symm hne)).trans q, c, d⟩
  . have hb' : b < s.heap.objs.size := by
     rcases mem_cons.mp hb with rfl | hb
     . exact hlt
     . have e2 : b = it := by simpa using hb
       subst e2
       obtain ⟨o, q, _⟩ := hit
       exact lt_size q
    rw [upd_ne (Nat.ne_of_lt hb')]; exact (hf b hb).1
 done := by
  intro X hP hw hK hc i pins s σ H E I hf st hg
  subst hP hw hK
  obtain ⟨⟨old, he⟩, hit⟩ := st
  obtain ⟨xs, hq, hx⟩ := hg
  obtain ⟨its, rv, p, hz⟩ := I.list hq
  have hl := rv.length
  exact wpAny_pyNext_enum_end (I.ok.hd hc) he hit p.isList (by simp; omega) fun h' eb => ⟨rfl, turnedL (t' := s.toks) (ch := [it]) I (fun b o hb q => eb b o (by simpa using hb) q) fun b hb => hf b (by
   have : b = it := by simpa using hb
   simp [this])⟩
 self := fun _ _ _ _ _ st h => by
  obtain ⟨⟨old, he⟩, _⟩ := st
  exact wpAny_pyIter_enum he h
section
variable {X : Cx} {ρ : List (Option D)} {m m1 m2 : Bool} {es : List Expr} {kt : Nat} {pt p pos : Pos} {a b : Expr} {ds es' : List D}
def iEnum (K : Frag) (ta : TA) : TI := fun σ H R => ta σ H fun vs H1 => ∃ l, vs = [.ref l] /\ (∃ xs, SqL K H1 l xs) /\ R (Ite K l) H1
theorem pi_enum {ta : TA} (hg : Gl X "enumerate") (hm : X.mg "enumerate" = none) (ha : PA X [a] ta) (hs : starEach [a] X.env = [(false, eval a X.env)] := by rfl) : PI X (.Tuple es kt pt) (.Call (.Name "enumerate" p) [a] [] pos) (iEnum X.K ta) := by
 intro pins s σ H R I h
 refine Call_ (ld_blt I hg hm boot_enumerate (PyProof.Rows.callWith_type1 (thn (ha pos pins s σ H _ I h) fun us s1 ⟨vs, H1, I1, r1, q1⟩ => ?_) hs rfl))
 obtain ⟨l, e, ⟨xs, hq⟩, q⟩ := q1
 subst e
 obtain ⟨u, rfl, ru⟩ := vals1 r1
 cases ru
 obtain ⟨its, rv, pl, hz⟩ := I1.list hq
 refine call_enumerate_list pl.isList fun h' he hit hz' hk => ?_
 have I2 : Inv X pins σ H1 { s1 with heap := h' } := I1.kept (t' := s1.toks) hk
 refine wpAny_pyIter_enum (s := { s1 with heap := h' }) he ⟨s1.heap.objs.size + 1, [s1.heap.objs.size + 1, s1.heap.objs.size], _, _, H1, rfl, I2, turn_enum l _ _ (Nat.succ_ne_self _), ⟨⟨_, he⟩, hit⟩, fun b hb => ?_, q⟩
 rcases mem_cons.mp hb with rfl | hb
 . exact I1.fpOk (Nat.le_succ _) (I1.hok.fresh (Nat.le_succ _))
 . have e : b = s1.heap.objs.size := by simpa using hb
   subst e
   exact I1.fpOk (Nat.le_refl _) (I1.hok.fresh (Nat.le_refl _))
def enumD (ds : List D) : List D := (List.range ds.length).map fun i => D.tup [.int (i : Nat), ds.getD i .non]
theorem enumD_get {i : Nat} {d : D} (h : (enumD ds)[i]? = some d) : ∃ d', ds[i]? = some d' /\ d = .tup [.int (i : Nat), d'] := by
 unfold enumD at h
 rw [getElem?_map] at h
 by_cases hi : i < ds.length
 . rw [List.getElem?_range hi] at h
   refine ⟨ds[i], by simp [hi], ?_⟩
   have := Option.some.inj h
   rw [<- this]; simp [hi]
 . rw [List.getElem?_eq_none (by simpa using hi)] at h
   cases h
theorem enumD_len : (enumD ds).length = ds.length := by simp [enumD]
theorem it_enum (h : E X m ρ a (.lst ds)) (hm : X.mg "enumerate" = none) (hg : Gl X "enumerate" := by rfl) (hs : starEach [a] X.env = [(false, eval a X.env)] := by rfl) :
 IT X (.Tuple es kt pt) m ρ (.Call (.Name "enumerate" p) [a] [] pos) (enumD ds) := PI.mono (pi_enum hg hm (pa_cons h pa_nil (by rw [hs]; rfl)) hs) fun σ H R z0 => el13 z0 fun Z oz en k => ⟨Z, oz, en, fun v H1 s1 i1 => by
 obtain ⟨l, xs, rfl, at', j⟩ := in_lst.mp i1
 refine ⟨l, rfl, ⟨xs, at'.sq⟩, k _ H1 [.ref l] [.lst ds] s1 (Ins.one i1) ⟨fun Z2 H2 o2 j2 i d e => ?_, fun Z2 H2 o2 j2 => ?_⟩⟩
 . obtain ⟨d', e', rfl⟩ := enumD_get e
   obtain ⟨w, r, e1, j3, j4⟩ := ins_cons.mp j2
   cases e1
   obtain ⟨a', ys, e2, l2, j5⟩ := in_lst.mp j3
   cases e2
   obtain ⟨v, e3, iv⟩ := j5.get e'
   refine ⟨⟨ys, v, l2.sq, e3⟩, fun x H3 ⟨q, y, hq, ex, hy, eH⟩ => ?_⟩
   subst ex eH
   have := hy ys l2.sq
   rw [e3] at this
   cases this
   exact ⟨same_new hq, in_tup.mpr ⟨q, _, rfl, upd_same, ins_cons.mpr ⟨_, _, rfl, in_int.mpr rfl, Ins.one (iv.same (same_new hq))⟩⟩⟩
 . obtain ⟨w, r, e1, j3, j4⟩ := ins_cons.mp j2
   cases e1
   obtain ⟨a', ys, e2, l2, j5⟩ := in_lst.mp j3
   cases e2
   exact ⟨ys, l2.sq, by rw [enumD_len]; exact Nat.le_of_eq j5.length.symm⟩⟩
theorem e_listT (ha : E X m1 ρ a (.tup ds)) (hm : X.mg "list" = none) (hmm : m = true -> m1 = true \/ flats ds = true := by intro h; first | exact .inl h | cases h) (hg : Gl X "list" := by rfl) (hs : starEach [a] X.env = [(false, eval a X.env)] := by rfl) : E X m ρ (.Call (.Name "list" p) [a] [] pos) (.lst ds) :=
 PE.mono (pe_callTy call_list_of hg hm boot_list (pa_cons ha pa_nil (by rw [hs]; rfl)) (by decide) (by decide) (by rw [hs]; rfl) rfl) fun σ H Q z0 => el13 z0 fun Z oz en k => ⟨Z, oz, en, fun x H1 s1 i1 => by
  obtain ⟨l, xs, rfl, at', j⟩ := in_tupS i1
  refine ⟨l, xs, rfl, .inr at', fun q hq => k (.ref q) _ (s1.trans (same_new hq)) (in_lst.mpr ⟨q, xs, rfl, .inl ⟨upd_same, ?_⟩, ?_⟩)⟩
  . cases m
    . exact oz q (s1.free hq)
    . exact s1.free hq
  . have jc := j.same (same_new (o := .lst xs) hq)
    cases m
    . cases m1
      . exact jc
      . exact jc.up oz
    . rcases hmm rfl with h | h
      . subst h; exact jc
      . exact jc.flat' h⟩
theorem e_tupleL (ha : E X m1 ρ a (.lst ds)) (hm : X.mg "tuple" = none) (hg : Gl X "tuple" := by rfl) (hs : starEach [a] X.env = [(false, eval a X.env)] := by rfl) : E X m1 ρ (.Call (.Name "tuple" p) [a] [] pos) (.tup ds) :=
 PE.mono (pe_callTy call_tuple_of hg hm boot_tuple (pa_cons ha pa_nil (by rw [hs]; rfl)) (by decide) (by decide) (by rw [hs]; rfl) rfl) fun σ H Q z0 => el13 z0 fun Z oz en k => ⟨Z, oz, en, fun x H1 s1 i1 => by
  obtain ⟨l, xs, rfl, at', j⟩ := in_lst.mp i1
  exact ⟨l, xs, rfl, .inl ⟨at'.sq, fun q hq => k (.ref q) _ (s1.trans (same_new hq)) (in_tup.mpr ⟨q, xs, rfl, upd_same, j.same (same_new hq)⟩)⟩⟩⟩
end
theorem cut_map {α β : Type} (f : α -> β) (l : List α) (a b : Option Int) : cut (l.map f) a b = (cut l a b).map f := by
 unfold cut
 rw [length_map, List.map_take, List.map_drop]
theorem cut_sub {α : Type} {l : List α} {a b : Option Int} {x : α} (h : x ∈ cut l a b) : x ∈ l := List.mem_of_mem_drop (List.mem_of_mem_take h)
theorem smallL {n : Nat} (h : n <= 1000) : n <= sizeLine := Nat.le_of_lt (small1000 h)
theorem cut_from {α : Type} (xs : List α) (k : Nat) : cut xs (some (k : Int)) none = xs.drop k := by
 unfold cut
 rw [HT.sIx_nat, HT.sIx_none]
 by_cases h : k <= xs.length
 . rw [Nat.min_eq_left h]
   exact List.take_of_length_le (by simp)
 . have h' : xs.length <= k := by omega
   rw [Nat.min_eq_right h', List.drop_of_length_le h', List.drop_length]
   simp
theorem cut_to {α : Type} (xs : List α) (k : Nat) : cut xs none (some (k : Int)) = xs.take k := by
 unfold cut
 rw [HT.sIx_nat, HT.sIx_none]
 by_cases h : k <= xs.length
 . rw [Nat.min_eq_left h]; simp
 . have h' : xs.length <= k := by omega
   rw [Nat.min_eq_right h', List.take_of_length_le h']
   simp
theorem cut_both {α : Type} (xs : List α) (j k : Nat) : cut xs (some (j : Int)) (some (k : Int)) = (xs.drop j).take (k - j) := by
 unfold cut
 rw [HT.sIx_nat, HT.sIx_nat]
 by_cases h : j <= xs.length
 . rw [Nat.min_eq_left h]
   by_cases h2 : k <= xs.length
   . rw [Nat.min_eq_left h2]
   . have h3 : xs.length <= k := by omega
     rw [Nat.min_eq_right h3, List.take_of_length_le (by simp), List.take_of_length_le (by simp; omega)]
 . have h' : xs.length <= j := by omega
   rw [Nat.min_eq_right h', List.drop_of_length_le h', List.drop_length]
   simp
theorem flats_cut {ds : List D} {a b : Option Int} (h : flats ds = true) : flats (cut ds a b) = true := flats_all fun d hd => flats_mem h d (cut_sub hd)
theorem atI_get {α : Type} {xs : List α} {i : Int} {a : α} (h0 : 0 <= i) (h : xs[i.toNat]? = some a) : atI xs i = some a := by
 obtain ⟨k, rfl⟩ := Int.eq_ofNat_of_zero_le h0
 exact atI_nat (by simpa using h)
def Itz (K : Frag) (a b : Addr) : It :=
  ⟨fun i H => ∃ xs ys x y, SqL K H a xs /\ SqL K H b ys /\ xs[i]? = some x /\ ys[i]? = some y,
   fun i H z H' => ∃ p x y, H p = none /\ z = .ref p /\ (∀ xs, SqL K H a xs -> xs[i]? = some x) /\ (∀ ys, SqL K H b ys -> ys[i]? = some y) /\ H' = upd H p (.tup [x, y]),
   fun i H => ∃ xs ys, SqL K H a xs /\ SqL K H b ys /\ (xs.length <= i \/ ys.length <= i)⟩
theorem turn_zip {P : Program} {w : World} {K : Frag} {es : List Expr} {kt : Nat} {pt : Pos} (a b z TI TO i1 i2 : Addr) (D : ZipApart z TI TO i1 i2 a b) :
 Turn P w K (.Tuple es kt pt) (Itz K a b) [z, TI, TO, i1, i2] z (fun i h => IsZip h z TI TO .none /\ IsPair h TI (.ref i1) (.ref i2) /\ (∃ u v, IsPair h TO u v) /\ h.IsListIter i1 a i /\ h.IsListIter i2 b i) where
 mem := by simp
 obj := fun i h st c hc => by
  obtain ⟨hz, hTI, ⟨u, v, hTO⟩, ⟨o1, e1, c1, d1⟩, ⟨o2, e2, c2, d2⟩⟩ := st
  simp only [mem_cons, not_mem_nil, or_false] at hc
  rcases hc with rfl | rfl | rfl | rfl | rfl
  . exact ⟨_, hz, fun v q => by
     have q' : Data.fields _ = Data.cell v := q
     cases q'⟩
  . exact ⟨_, hTI, fun v q => by
     have q' : Data.seq _ _ = Data.cell v := q
     cases q'⟩
  . exact ⟨_, hTO, fun v q => by
     have q' : Data.seq _ _ = Data.cell v := q
     cases q'⟩
  . exact ⟨o1, e1, fun v q => by rw [d1] at q; cases q⟩
  . exact ⟨o2, e2, fun v q => by rw [d2] at q; cases q⟩
 keep := fun i h h' st k => by
  obtain ⟨hz, hTI, ⟨u, v, hTO⟩, h1, h2⟩ := st
  exact ⟨k z (by simp) _ hz, k TI (by simp) _ hTI, ⟨u, v, k TO (by simp) _ hTO⟩, h1.at fun o q => k i1 (by simp) o q, h2.at fun o q => k i2 (by simp) o q⟩
 item := by
  intro X hP hw hK hc i pins s σ H E I hf st hg
  subst hP hw hK
  obtain ⟨hz, hTI, ⟨u0, v0, hTO⟩, h1, h2⟩ := st
  obtain ⟨xs, ys, x, y, hqa, hqb, hx, hy⟩ := hg
  obtain ⟨its, rv, p, hsz⟩ := I.list hqa
  obtain ⟨its2, rv2, p2, hsz2⟩ := I.list hqb
  obtain ⟨u, hu, ru⟩ := rv.get hx
  obtain ⟨v, hv, rv'⟩ := rv2.get hy
  refine wpAny_pyNext_zip_item D hz hTI hTO h1 h2 p.isList p2.isList (x := u) (y := v) (by simpa using hu) (by simpa using hv) fun h' hz1 hTO1 h11 h21 ht1 hsz1 hk1 => ?_
  refine ⟨_, rfl, wpAny_letOwnedTupleGo_zip (s := { s with heap := h' }) hz1 fun h2' hz2 sb2 => ?_⟩
  have hlt : z < s.heap.objs.size := lt_size hz
  have kk : ∀ c o, c ∉ [z, TI, TO, i1, i2] -> s.heap.get? c = some o -> h2'.get? c = some o := fun c o hc q => by
   simp only [mem_cons, not_mem_nil, or_false, not_or] at hc
   exact (sb2.2 c hc.1).trans (hk1 c o hc.1 hc.2.2.1 hc.2.2.2.1 hc.2.2.2.2 q)
  have I2 : Inv X pins σ H { s with heap := h2', toks := s.toks } := turnedL I kk hf
  have fresh := I.hok.fresh (Nat.le_refl s.heap.objs.size)
  have tup : h2'.get? s.heap.objs.size = some { cls := .type "tuple", data := .seq #[u, v] } := (sb2.2 _ (Nat.ne_of_gt hlt)).trans ht1
  have I3 := track (o := .tup [x, y]) I2 (I.fpOk (Nat.le_refl _) fresh) (Nat.le_trans I.sz (Nat.le_refl _)) ⟨by show 2 <= sizeLine; exact Nat.le_of_lt (small1000 (by decide)), [u, v], .cons ru (.cons rv' .nil), ⟨_, tup, rfl, _, rfl⟩⟩
  refine ⟨.ref s.heap.objs.size, _, I3, rfl, ⟨s.heap.objs.size, x, y, fresh, rfl, fun zs hs => by rw [I.list_inj hs hqa]; exact hx, fun zs hs => by rw [I.list_inj hs hqb]; exact hy, rfl⟩, ⟨hz2, ?_, ⟨u, v, ?_⟩, ?_, ?_⟩, fun c hc => ?_⟩
  . exact (sb2.2 TI D.TIz).trans (hk1 TI _ D.TIz D.TITO D.TIi1 D.TIi2 hTI)
  . exact (sb2.2 TO D.TOz).trans hTO1
  . obtain ⟨o, q, c, d⟩ := h11
    exact ⟨o, (sb2.2 i1 D.i1z).trans q, c, d⟩
  . obtain ⟨o, q, c, d⟩ := h21
    exact ⟨o, (sb2.2 i2 D.i2z).trans q, c, d⟩
  . have hc' : c < s.heap.objs.size := by
     simp only [mem_cons, not_mem_nil, or_false] at hc
     rcases hc with rfl | rfl | rfl | rfl | rfl
     . exact hlt
     . exact lt_size hTI
     . exact lt_size hTO
     . obtain ⟨o, q, _⟩ := h1; exact lt_size q
     . obtain ⟨o, q, _⟩ := h2; exact lt_size q
    rw [upd_ne (Nat.ne_of_lt hc')]; exact (hf c hc).1
 done := by
  intro X hP hw hK hc i pins s σ H E I hf st hg
  subst hP hw hK
  obtain ⟨hz, hTI, ⟨u0, v0, hTO⟩, h1, h2⟩ := st
  obtain ⟨xs, ys, hqa, hqb, hx⟩ := hg
  obtain ⟨its, rv, p, hsz⟩ := I.list hqa
  obtain ⟨its2, rv2, p2, hsz2⟩ := I.list hqb
  have hl := rv.length
  have hl2 := rv2.length
  refine wpAny_pyNext_zip_end (I.ok.hd hc) D hz hTI hTO h1 h2 p.isList p2.isList (by
   rcases hx with h | h
   . left; simp; omega
   . right; simp; omega) fun h' eb => ⟨rfl, turnedL (t' := s.toks) (ch := [z, TI, TO, i1, i2]) I (fun c o hc q => ?_) hf⟩
  simp only [mem_cons, not_mem_nil, or_false, not_or] at hc
  exact eb c o hc.1 hc.2.2.1 hc.2.2.2.1 hc.2.2.2.2 q
 self := fun _ _ _ _ _ st h => wpAny_pyIter_zip st.1 h
section
variable {X : Cx} {ρ : List (Option D)} {m m1 m2 : Bool} {es : List Expr} {kt : Nat} {pt p pos : Pos} {a b : Expr} {ds es' : List D}
def iZip (K : Frag) (ta : TA) : TI := fun σ H R => ta σ H fun vs H1 => ∃ l l', vs = [.ref l, .ref l'] /\ (∃ xs, SqL K H1 l xs) /\ (∃ xs, SqL K H1 l' xs) /\ R (Itz K l l') H1
theorem pi_zip {ta : TA} (hg : Gl X "zip") (hm : X.mg "zip" = none) (ha : PA X [a, b] ta) (hs : starEach [a, b] X.env = [(false, eval a X.env), (false, eval b X.env)] := by rfl) (hs2 : starEach [b] X.env = [(false, eval b X.env)] := by rfl) : PI X (.Tuple es kt pt) (.Call (.Name "zip" p) [a, b] [] pos) (iZip X.K ta) := by
 intro pins s σ H R I h
 refine Call_ (ld_blt I hg hm boot_zip (PyProof.Rows.callWith_type1 (thn (ha pos pins s σ H _ I h) fun us s1 ⟨vs, H1, I1, r1, q1⟩ => ?_) (by rw [hs, <- hs2]) (by rw [hs2]; rfl)))
 obtain ⟨l, l', e, ⟨xs, hq⟩, ⟨ys, hq'⟩, q⟩ := q1
 subst e
 cases r1 with
 | cons ra rr =>
  cases rr with
  | cons rb rn =>
   cases rn
   cases ra
   cases rb
   obtain ⟨its, rv, pl, hz⟩ := I1.list hq
   obtain ⟨its2, rv2, pl2, hz2⟩ := I1.list hq'
   obtain ⟨o1, _, g1, _⟩ := id pl
   obtain ⟨o2, _, g2, _⟩ := id pl2
   refine call_zip_2 pl.isList pl2.isList fun h' hz' hTI hTO hit1 hit2 hsz hk => ?_
   have I2 : Inv X pins σ H1 { s1 with heap := h' } := I1.kept (t' := s1.toks) hk
   refine wpAny_pyIter_zip (s := { s1 with heap := h' }) hz' ⟨s1.heap.objs.size + 4, [s1.heap.objs.size + 4, s1.heap.objs.size + 2, s1.heap.objs.size + 3, s1.heap.objs.size, s1.heap.objs.size + 1], _, _, H1, rfl, I2, turn_zip l l' _ _ _ _ _ (zipApart_new (lt_size g1) (lt_size g2)), ⟨hz', hTI, ⟨_, _, hTO⟩, hit1, hit2⟩, fun c hc => ?_, q⟩
   have hge : s1.heap.objs.size <= c := by
    simp only [mem_cons, not_mem_nil, or_false] at hc
    rcases hc with rfl | rfl | rfl | rfl | rfl
    . exact Nat.le_add_right _ _
    . exact Nat.le_add_right _ _
    . exact Nat.le_add_right _ _
    . exact Nat.le_refl _
    . exact Nat.le_add_right _ _
   exact I1.fpOk hge (I1.hok.fresh hge)
def zipD (ds es : List D) : List D := (ds.zip es).map fun p => D.tup [p.1, p.2]
theorem zipD_get {i : Nat} {d : D} (h : (zipD ds es')[i]? = some d) : ∃ d1 d2, ds[i]? = some d1 /\ es'[i]? = some d2 /\ d = .tup [d1, d2] := by
 unfold zipD at h
 rw [getElem?_map] at h
 cases q : (ds.zip es')[i]? with
 | none => rw [q] at h; cases h
 | some p =>
  rw [q] at h
  cases h
  have := List.getElem?_zip_eq_some.mp q
  exact ⟨p.1, p.2, this.1, this.2, rfl⟩
theorem zipD_len : (zipD ds es').length = min ds.length es'.length := by simp [zipD]
theorem it_zip (h : E X m1 ρ a (.lst ds)) (h2 : E X m2 ρ b (.lst es')) (hm : X.mg "zip" = none) (hg : Gl X "zip" := by rfl) (hs : starEach [a, b] X.env = [(false, eval a X.env), (false, eval b X.env)] := by rfl) (hs2 : starEach [b] X.env = [(false, eval b X.env)] := by rfl) :
 IT X (.Tuple es kt pt) false ρ (.Call (.Name "zip" p) [a, b] [] pos) (zipD ds es') := PI.mono (pi_zip hg hm (ea_cons h (ea_one h2 (by rw [hs2]; rfl)) (by rw [hs, hs2])) hs hs2) fun σ H R z0 => el13 z0 fun Z oz en k => ⟨Z, oz, en, fun vs H1 s1 i1 => by
 obtain ⟨v1, r1, rfl, j1, jr⟩ := ins_cons.mp i1
 obtain ⟨v2, r2, rfl, j2, jr2⟩ := ins_cons.mp jr
 cases ins_nil.mp jr2
 obtain ⟨l, xs, rfl, at1, jx⟩ := in_lst.mp j1
 obtain ⟨l', ys, rfl, at2, jy⟩ := in_lst.mp j2
 refine ⟨l, l', rfl, ⟨xs, at1.sq⟩, ⟨ys, at2.sq⟩, k _ H1 [.ref l, .ref l'] [.lst ds, .lst es'] s1 i1 ⟨fun Z2 H2 o2 j2 i d e => ?_, fun Z2 H2 o2 j2 => ?_⟩⟩
 . obtain ⟨d1, d2, e1, e2, rfl⟩ := zipD_get e
   obtain ⟨w, r, q1, j3, j4⟩ := ins_cons.mp j2
   cases q1
   obtain ⟨w2, r2, q2, j5, j6⟩ := ins_cons.mp j4
   cases q2
   obtain ⟨a1, us, q3, l3, j7⟩ := in_lst.mp j3
   cases q3
   obtain ⟨a2, ws, q4, l4, j8⟩ := in_lst.mp j5
   cases q4
   obtain ⟨v, e3, iv⟩ := j7.get e1
   obtain ⟨v', e4, iv'⟩ := j8.get e2
   refine ⟨⟨us, ws, v, v', l3.sq, l4.sq, e3, e4⟩, fun x H3 ⟨q, y, y', hq, ex, hy, hy', eH⟩ => ?_⟩
   subst ex eH
   have t1 := hy us l3.sq
   rw [e3] at t1
   cases t1
   have t2 := hy' ws l4.sq
   rw [e4] at t2
   cases t2
   exact ⟨same_new hq, in_tup.mpr ⟨q, _, rfl, upd_same, ins_cons.mpr ⟨_, _, rfl, iv.same (same_new hq), Ins.one (iv'.same (same_new hq))⟩⟩⟩
 . obtain ⟨w, r, q1, j3, j4⟩ := ins_cons.mp j2
   cases q1
   obtain ⟨w2, r2, q2, j5, j6⟩ := ins_cons.mp j4
   cases q2
   obtain ⟨a1, us, q3, l3, j7⟩ := in_lst.mp j3
   cases q3
   obtain ⟨a2, ws, q4, l4, j8⟩ := in_lst.mp j5
   cases q4
   refine ⟨us, ws, l3.sq, l4.sq, ?_⟩
   rw [zipD_len, <- j7.length, <- j8.length]
   omega⟩
end
end Y
namespace Y
open PySem PyProof.Rows Builtin Builtin.Str StrLaws
abbrev cl (z : Str) : List Nat := z.cps.toList
def mkS (l : List Nat) : Str := ⟨l.toArray⟩
theorem mkS_cl (z : Str) : mkS (cl z) = z := by simp [cl, mkS]
theorem cl_inj {a b : Str} (h : cl a = cl b) : a = b := by rw [<- mkS_cl a, <- mkS_cl b, h]
end Y
namespace Y
open PySem PyProof.Rows Builtin Builtin.Str StrLaws
def W36 : Str := "abcdefghijklmnopqrstuvwxyz0123456789"
def sgB (c : Nat) : Bool := decide (c ∈ cl W36)
end Y
namespace Y
open PySem PyProof.Rows Builtin Builtin.Str StrLaws
def joinL (sep : List Nat) : List (List Nat) -> List Nat
 | [] => []
 | [x] => x
 | x :: y :: r => x ++ sep ++ joinL sep (y :: r)
end Y
namespace Y
open PySem PySem.Spec PyProof.Rows L2
variable [Tabs]
def cellAt (ns : List Int) (k : Nat) : Int := ns.getD k 0
def gCellAt (ds : List D) (d : D) : Prop := ∃ (ns : List Int) (k : Nat), ns.length <= 1000 /\ ds = [.lst (ns.map D.int), .int k] /\ d = .int (cellAt ns k)
def part (c k m : Int) : Int := (c % 99991 + 17) * (48271 + 7919 * k) % 65537 * (k + 3) % 8191 % m
theorem part_nn (c k : Int) {m : Int} (h : 0 < m) : 0 <= part c k m := Int.emod_nonneg _ (by omega)
def gPart (ds : List D) (d : D) : Prop := ∃ c k m : Int, 0 < m /\ ds = [.int c, .int k, .int m] /\ d = .int (part c k m)
def sgnAt (n : Int) : Nat := W36.cps.toList.getD (n % 36).toNat 0
theorem atI_sgn (n : Int) : atI W36.cps.toList (n % 36) = some (sgnAt n) := by
 have h0 := Int.emod_nonneg n (show (36 : Int) ≠ 0 by decide)
 have h1 := Int.emod_lt_of_pos n (show (0 : Int) < 36 by decide)
 have hl : W36.cps.toList.length = 36 := by decide +kernel
 obtain ⟨k, hk⟩ := Int.eq_ofNat_of_zero_le h0
 unfold sgnAt
 rw [hk]
 refine atI_nat ?_
 have : k < W36.cps.toList.length := by omega
 simp at this
 simp [this]
def sizeA (one : Int) : Int := 1 + part one 0 12
def atA (one other : Int) : Int := part other 1 (sizeA one)
def numA (one other k : Int) (j : Int) : Int := if j = atA one other /\ part other 20 2 = 0 then part one (j + 2) 36 + k else part one (j + 2) 36
def wordA (one other k : Int) (n : Nat) : Str := ⟨((List.range n).map fun j => sgnAt (numA one other k (0 + (j : Nat)))).toArray⟩
def takeA (one other k : Int) : Str := Txt.slice (wordA one other k 12) none (some (if part other 20 2 = 0 then sizeA one else 1 + (sizeA one + k) % 12))
def wordsA (one other : Int) : List Str := (List.range 4).map fun k => takeA one other (0 + (k : Nat))
theorem wordA_len (one other k : Int) (n : Nat) : (wordA one other k n).length = n := by show Array.size _ = n; simp [wordA]
theorem wordA_succ (one other k : Int) (n : Nat) : wordA one other k (n + 1) = wordA one other k n ++ ⟨#[sgnAt (numA one other k (0 + (n : Nat)))]⟩ := by
 apply Str.ext'
 rw [Str.cps_append]
 unfold wordA
 rw [range_succ, map_append]
 simp
theorem wordsA_len (one other : Int) : (wordsA one other).length = 4 := by simp [wordsA]
def strsD (ws : List Str) : D := .lst (ws.map D.str)
def intsD (ns : List Int) : D := .lst (ns.map D.int)
def rowsD (rows : List (List Str)) : D := .lst (rows.map strsD)
def gWordsA (ds : List D) (d : D) : Prop := ∃ one other : Int, ds = [.int one, .int other] /\ d = strsD (wordsA one other)
def pickA (ws : List Str) (c : Int) : Str := ws.getD (([0, 0, 1, 2, 3] : List Nat).getD (part c 21 6).toNat 0) ""
def stepA (ws : List Str) (rows : List (List Str)) (c : Int) : List (List Str) := if part c 21 6 < 5 then rows.dropLast ++ [rows.getLast?.getD [] ++ [pickA ws c]] else rows ++ [[]]
def rowsA (ws : List Str) (cells : List Int) : List (List Str) := cells.foldl (stepA ws) [[]]
theorem rowsA_snoc (ws : List Str) (cells : List Int) (c : Int) : rowsA ws (cells ++ [c]) = stepA ws (rowsA ws cells) c := by
 unfold rowsA; rw [List.foldl_append]; rfl
theorem snoc_ind {α : Type} {p : List α -> Prop} (h0 : p []) (hs : ∀ l a, p l -> p (l ++ [a])) (l : List α) : p l := by
 have : ∀ n (l : List α), l.length = n -> p l := by
  intro n
  induction n with
  | zero => intro l h; cases l with
   | nil => exact h0
   | cons => simp at h
  | succ n ih =>
   intro l h
   have hne : l ≠ [] := by intro e; subst e; simp at h
   rw [<- List.dropLast_concat_getLast hne]
   exact hs _ _ (ih _ (by simp [h]))
 exact this _ l rfl
theorem rowsA_last (ws : List Str) (cells : List Int) : ∃ init last, rowsA ws cells = init ++ [last] := by
 refine snoc_ind (p := fun cells => ∃ init last, rowsA ws cells = init ++ [last]) ⟨[], [], rfl⟩ (fun l c ⟨init, last, e⟩ => ?_) cells
 rw [rowsA_snoc]
 unfold stepA
 split
 . exact ⟨_, _, rfl⟩
 . exact ⟨_, _, rfl⟩
theorem rowsA_len (ws : List Str) (cells : List Int) : (rowsA ws cells).length <= cells.length + 1 /\ ∀ r ∈ rowsA ws cells, r.length <= cells.length /\ ∀ x ∈ r, x ∈ ws \/ x = "" := by
 refine snoc_ind (p := fun cells => (rowsA ws cells).length <= cells.length + 1 /\ ∀ r ∈ rowsA ws cells, r.length <= cells.length /\ ∀ x ∈ r, x ∈ ws \/ x = "") ⟨Nat.le_refl _, by intro r hr; simp [rowsA] at hr; subst hr; simp⟩ (fun l c ih => ?_) cells
 obtain ⟨init, last, e⟩ := rowsA_last ws l
 rw [rowsA_snoc]
 rw [e] at ih
 obtain ⟨ih1, ih2⟩ := ih
 have hpick : pickA ws c ∈ ws \/ pickA ws c = "" := by
  unfold pickA
  generalize (([0, 0, 1, 2, 3] : List Nat).getD (part c 21 6).toNat 0) = n
  by_cases hn : n < ws.length
  . left; simp [hn]
  . right; simp [Nat.not_lt.mp hn]
 unfold stepA
 rw [e]
 split
 . refine ⟨by simp at ih1 ⊢; omega, fun r hr => ?_⟩
   simp at hr
   rcases hr with hr | hr
   . have := ih2 r (by simp [hr])
     exact ⟨by simp; omega, this.2⟩
   . subst hr
     have := ih2 last (by simp)
     refine ⟨by simp; omega, fun x hx => ?_⟩
     simp at hx
     rcases hx with hx | hx
     . exact this.2 x hx
     . subst hx; exact hpick
 . refine ⟨by simp at ih1 ⊢; omega, fun r hr => ?_⟩
   simp at hr
   rcases hr with hr | hr | hr
   . have := ih2 r (by simp [hr]); exact ⟨by simp; omega, this.2⟩
   . have := ih2 r (by simp [hr]); exact ⟨by simp; omega, this.2⟩
   . subst hr; simp
def gRowsA (ds : List D) (d : D) : Prop := ∃ (ws : List Str) (cells : List Int), ws.length = 4 /\ cells.length <= 63 /\ ds = [strsD ws, intsD cells] /\ d = rowsD (rowsA ws cells)
theorem idx5 {k : Int} (h0 : 0 <= k) (h5 : k < 5) : atI [D.int 0, .int 0, .int 1, .int 2, .int 3] k = some (.int ((([0, 0, 1, 2, 3] : List Nat).getD k.toNat 0 : Nat) : Int)) := by
 obtain ⟨n, rfl⟩ := Int.eq_ofNat_of_zero_le h0
 have hn : n < 5 := by omega
 match n, hn with
 | 0, _ => rfl
 | 1, _ => rfl
 | 2, _ => rfl
 | 3, _ => rfl
 | 4, _ => rfl
theorem idx5_lt {k : Int} (h0 : 0 <= k) (h5 : k < 5) : ([0, 0, 1, 2, 3] : List Nat).getD k.toNat 0 < 4 := by
 obtain ⟨n, rfl⟩ := Int.eq_ofNat_of_zero_le h0
 have hn : n < 5 := by omega
 match n, hn with
 | 0, _ => decide
 | 1, _ => decide
 | 2, _ => decide
 | 3, _ => decide
 | 4, _ => decide
theorem strs_get {ws : List Str} {n : Nat} (h : n < ws.length) : (ws.map D.str)[n]? = some (.str (ws.getD n "")) := by simp [h]
def plD (p : Nat × Nat) : D := .tup [.int p.1, .int p.2]
def plsD (ps : List (Nat × Nat)) : D := .lst (ps.map plD)
def tot (rows : List (List Str)) : Nat := (rows.map List.length).sum
def allPn (rows : List (List Str)) (n : Nat) : List (Nat × Nat) := (List.range n).flatMap fun r => (List.range (rows.getD r []).length).map fun a => (r, a)
def allP (rows : List (List Str)) : List (Nat × Nat) := allPn rows rows.length
theorem allPn_succ (rows : List (List Str)) (n : Nat) : allPn rows (n + 1) = allPn rows n ++ (List.range (rows.getD n []).length).map fun a => (n, a) := by
 unfold allPn
 rw [range_succ, List.flatMap_append]
 simp
theorem allPn_len (rows : List (List Str)) : ∀ n, n <= rows.length -> (allPn rows n).length = ((rows.take n).map List.length).sum
 | 0, _ => by simp [allPn]
 | n + 1, h => by
  have hn : n < rows.length := by omega
  have e : rows.take (n + 1) = rows.take n ++ [rows.getD n []] := by
   rw [take_add_one]; simp [hn]
  rw [allPn_succ, List.length_append, allPn_len rows n (by omega), length_map, length_range, e, map_append, List.sum_append]
  simp
theorem sum_take_le : ∀ (l : List (List Str)) (n : Nat), ((l.take n).map List.length).sum <= (l.map List.length).sum
 | [], n => by simp
 | a :: l, 0 => by simp
 | a :: l, n + 1 => by
  have := sum_take_le l n
  simp at this ⊢
  omega
theorem tot_take (rows : List (List Str)) (n : Nat) (h : n <= rows.length) : (allPn rows n).length <= tot rows := by
 rw [allPn_len rows n h]; exact sum_take_le rows n
theorem tot_row {rows : List (List Str)} {n : Nat} {row : List Str} (h : rows[n]? = some row) (m : Nat) (hm : m <= row.length) : (allPn rows n).length + m <= tot rows := by
 have hn : n < rows.length := (List.getElem?_eq_some_iff.mp h).1
 have h1 := tot_take rows (n + 1) (by omega)
 rw [allPn_succ, List.length_append] at h1
 simp [h] at h1
 omega
def gAll (ds : List D) (d : D) : Prop := ∃ rows, tot rows <= 900 /\ ds = [rowsD rows] /\ d = plsD (allP rows)
def endAt (rows : List (List Str)) (p : Nat × Nat) : List Str := (rows.getD p.1 []).drop p.2
def gEnd (ds : List D) (d : D) : Prop := ∃ (rows : List (List Str)) (p : Nat × Nat), p.1 < rows.length /\ ds = [rowsD rows, plD p] /\ d = strsD (endAt rows p)
theorem rangeD0_get {n i : Nat} {d : D} (h : (rangeD 0 n)[i]? = some d) : i < n /\ d = .int (i : Nat) := by
 obtain ⟨h1, h2⟩ := rangeD_get h
 exact ⟨h1, by rw [h2, Int.zero_add]⟩
theorem flat_range {lo : Int} {n : Nat} : ∀ d ∈ rangeD lo n, d.flat = true := fun d hd => by obtain ⟨i, _, rfl⟩ := mem_map.mp hd; rfl
def tupS (ws : List Str) : D := .tup (ws.map D.str)
theorem flat_tupS (ws : List Str) : (tupS ws).flat = true := by
 show flats (ws.map D.str) = true
 exact flats_strs ws
theorem flats_pls (ps : List (Nat × Nat)) : flats (ps.map plD) = true := flats_all fun d hd => by obtain ⟨i, _, rfl⟩ := mem_map.mp hd; rfl
theorem told_strs : Told strsD := told_list told_str
theorem told_plD : Told plD := fun p q => by
 obtain ⟨a, b⟩ := p
 obtain ⟨c, d⟩ := q
 simp only [plD, deq, deqs, Bool.and_true]
 by_cases h1 : a = c
 . by_cases h2 : b = d
   . simp [h1, h2]
   . simp [h1, h2]; omega
 . simp [h1]; omega
theorem deps_le {n : Nat} : ∀ {ds : List D}, (∀ d ∈ ds, d.dep <= n) -> deps ds <= n
 | [], _ => by simp [deps]
 | d :: ds, h => by
  have h1 := h d mem_cons_self
  have h2 : deps ds <= n := deps_le fun e he => h e (mem_cons_of_mem _ he)
  simp [deps]; omega
theorem dep_lst {n : Nat} {ds : List D} (h : ∀ d ∈ ds, d.dep <= n) : (D.lst ds).dep <= n + 1 := by
 have := deps_le h
 simp [D.dep]; omega
theorem dep_strs (ws : List Str) : (strsD ws).dep <= 1 := dep_lst fun d hd => by obtain ⟨i, _, rfl⟩ := mem_map.mp hd; simp [D.dep]
theorem dep_plD (p : Nat × Nat) : (plD p).dep <= 1 := by simp [plD, D.dep, deps]
theorem dep_pls (ps : List (Nat × Nat)) : (plsD ps).dep <= 2 := dep_lst fun d hd => by obtain ⟨i, _, rfl⟩ := mem_map.mp hd; exact dep_plD i
theorem roomD {k n : Nat} {A : Around} {d : D} (r : Room k A) (h : d.dep <= n) (hn : n <= 200 := by decide) : A.units + d.dep < cLine := by have := r.un; omega
theorem tot_append (a b : List (List Str)) : tot (a ++ b) = tot a + tot b := by simp [tot]
theorem rowsA_tot (ws : List Str) (cells : List Int) : tot (rowsA ws cells) <= cells.length := by
 refine snoc_ind (p := fun cells => tot (rowsA ws cells) <= cells.length) (by simp [rowsA, tot]) (fun l c ih => ?_) cells
 obtain ⟨init, last, e⟩ := rowsA_last ws l
 rw [rowsA_snoc]
 rw [e] at ih
 rw [tot_append] at ih
 unfold stepA
 rw [e]
 split
 . simp [tot] at ih ⊢; omega
 . rw [tot_append, tot_append]; simp [tot] at ih ⊢; omega
theorem allP_mem {rows : List (List Str)} {p : Nat × Nat} (h : p ∈ allP rows) : p.1 < rows.length /\ p.2 < (rows.getD p.1 []).length := by
 unfold allP allPn at h
 obtain ⟨r, hr, hp⟩ := List.mem_flatMap.mp h
 obtain ⟨a, ha, rfl⟩ := mem_map.mp hp
 exact ⟨List.mem_range.mp hr, List.mem_range.mp ha⟩
theorem take_succ_eq {α : Type} {xs ys : List α} {n : Nat} (h : xs.take n = ys.take n) (h2 : xs[n]? = ys[n]?) : xs.take (n + 1) = ys.take (n + 1) := by
 rw [take_add_one, take_add_one, h, h2]
theorem big5000 : 5000 <= sizeLine := by decide
theorem smallN {n : Nat} (h : n <= 5000) : n <= sizeLine := Nat.le_trans h big5000
theorem T.castB {X : Cx} {ρ : List (Option D)} {e : Expr} {b b' : Bool} (h : T X ρ e b) (q : b = b') : T X ρ e b' := q ▸ h
def ahead (sep : Str) (ps : List Str) : Str := if ps = [] then "" else Txt.join sep ps ++ sep
theorem it_rangeL {X : Cx} {ρ : List (Option D)} {m1 : Bool} {tg a : Expr} {p pos : Pos} {n : Nat} (h : E X m1 ρ a (.int (n : Nat))) (hm : X.mg "range" = none) (hn : n < 2 ^ 62 := by first | omega | (simp only [length_map]; omega)) (hg : Gl X "range" := by rfl) (hs : starEach [a] X.env = [(false, eval a X.env)] := by rfl) :
 IT X tg true ρ (.Call (.Name "range" p) [a] [] pos) (rangeD 0 n) := it_range (n := ((n : Nat) : Int)) h (by omega) (by omega) hm hg hs
def comm : List Str -> List Str -> Nat
 | a :: as, b :: bs => if a = b then comm as bs + 1 else 0
 | _, _ => 0
theorem comm_le : ∀ (a b : List Str), comm a b <= a.length /\ comm a b <= b.length
 | [], b => by simp [comm]
 | a :: as, [] => by simp [comm]
 | a :: as, b :: bs => by
  have := comm_le as bs
  unfold comm
  split <;> simp <;> omega
theorem comm_take : ∀ (a b : List Str), a.take (comm a b) = b.take (comm a b)
 | [], b => by simp [comm]
 | a :: as, [] => by simp [comm]
 | a :: as, b :: bs => by
  unfold comm
  split
  . rename_i h; subst h; simp [comm_take as bs]
  . simp
theorem comm_stop : ∀ (a b : List Str) (x y : Str), a[comm a b]? = some x -> b[comm a b]? = some y -> x ≠ y
 | [], b, x, y, h, _ => by simp at h
 | a :: as, [], x, y, _, h => by simp at h
 | a :: as, b :: bs, x, y, h1, h2 => by
  unfold comm at h1 h2
  split at h1
  . rename_i h
    rw [if_pos h] at h2
    simp at h1 h2
    exact comm_stop as bs x y h1 h2
  . rename_i h
    rw [if_neg h] at h2
    simp at h1 h2
    subst h1 h2
    exact h
theorem comm_is {a b : List Str} {n : Nat} (ha : n <= a.length) (hb : n <= b.length) (ht : a.take n = b.take n) (hs : n = a.length \/ n = b.length \/ ∃ x y, a[n]? = some x /\ b[n]? = some y /\ x ≠ y) : n = comm a b := by
 have hc := comm_le a b
 have hct := comm_take a b
 rcases Nat.lt_trichotomy n (comm a b) with h | h | h
 . exfalso
   have e : a[n]? = b[n]? := by
    have := congrArg (·[n]?) hct
    rwa [List.getElem?_take_of_lt h, List.getElem?_take_of_lt h] at this
   rcases hs with z | z | ⟨x, y, h1, h2, h3⟩
   . omega
   . omega
   . rw [h1, h2] at e
     exact h3 (Option.some.inj e)
 . exact h
 . exfalso
   have h1 : comm a b < a.length := by omega
   have h2 : comm a b < b.length := by omega
   have e : a[comm a b]? = b[comm a b]? := by
    have := congrArg (·[comm a b]?) ht
    rwa [List.getElem?_take_of_lt h, List.getElem?_take_of_lt h] at this
   rw [List.getElem?_eq_getElem h1, List.getElem?_eq_getElem h2] at e
   exact comm_stop a b _ _ (List.getElem?_eq_getElem h1) (List.getElem?_eq_getElem h2) (Option.some.inj e)
def gCommon (ds : List D) (d : D) : Prop := ∃ a b : List Str, ds = [strsD a, strsD b] /\ d = .int (comm a b)
def lastE (rows : List (List Str)) (ps : List (Nat × Nat)) : List Str := (ps.getLast?.map (endAt rows)).getD []
def shL (rows : List (List Str)) (ps : List (Nat × Nat)) : List Nat := (List.range ps.length).map fun i => comm (lastE rows (ps.take i)) (endAt rows (ps.getD i (0, 0)))
theorem shL_snoc (rows : List (List Str)) (ps : List (Nat × Nat)) (p : Nat × Nat) : shL rows (ps ++ [p]) = shL rows ps ++ [comm (lastE rows ps) (endAt rows p)] := by
 unfold shL
 rw [List.length_append, List.length_singleton, range_succ, map_append]
 congr 1
 . apply map_congr_left
   intro i hi
   have hi' := List.mem_range.mp hi
   rw [List.take_append_of_le_length (by omega), List.getD_eq_getElem?_getD, List.getD_eq_getElem?_getD, getElem?_append_left hi']
 . simp
theorem shL_len (rows : List (List Str)) (ps : List (Nat × Nat)) : (shL rows ps).length = ps.length := by simp [shL]
theorem lastE_snoc (rows : List (List Str)) (ps : List (Nat × Nat)) (p : Nat × Nat) : lastE rows (ps ++ [p]) = endAt rows p := by simp [lastE]
def natsD (ns : List Nat) : D := .lst (ns.map fun n => .int (n : Nat))
def PlOk (rows : List (List Str)) (ps : List (Nat × Nat)) : Prop := ∀ p ∈ ps, p.1 < rows.length
def gShares (ds : List D) (d : D) : Prop := ∃ (rows : List (List Str)) (ps : List (Nat × Nat)), PlOk rows ps /\ ps.length <= 900 /\ ds = [rowsD rows, plsD ps] /\ d = natsD (shL rows ps)
def getI (r : Rho) (i : Nat) : Int := match r[i]? with
 | some (some (.pl _ (.int m))) => m
 | _ => 0
theorem pls_get {ps : List (Nat × Nat)} {n : Nat} (h : n < ps.length) : (ps.map plD)[n]? = some (plD (ps.getD n (0, 0))) := by simp [h]
theorem getD_mem {α : Type} {l : List α} {n : Nat} {d : α} (h : n < l.length) : l.getD n d ∈ l := by
 rw [List.getD_eq_getElem?_getD, List.getElem?_eq_getElem h]
 exact getElem_mem h
theorem lastE_take {rows : List (List Str)} {ps : List (Nat × Nat)} {n : Nat} (h0 : 0 < n) (hn : n < ps.length) : lastE rows (ps.take n) = endAt rows (ps.getD (n - 1) (0, 0)) := by
 have e : ps.take n = ps.take (n - 1) ++ [ps.getD (n - 1) (0, 0)] := by
  have h1 : n - 1 < ps.length := by omega
  conv => lhs; rw [show n = (n - 1) + 1 by omega]
  rw [take_add_one, List.getD_eq_getElem?_getD, List.getElem?_eq_getElem h1]
  rfl
 rw [e, lastE_snoc]
end Y
namespace Y
open PySem PySem.Spec PyProof.Rows L2 PySem.SeqAt AutoSeq1 MeetsSeq MeetsSeq2 MeetsSeq3
def RoAt (op : CmpOp) (A : Around) (s : Shared) (y x : Value) (b : Bool) : Prop :=
 ∀ (prog : Program) (w : World) (E : Value -> Shared -> Prop) (Q : Value -> Shared -> Prop), Q (.bool b) s -> wpAny (model prog w) A (richCompare op y x) Q E s
def walkB (e r : Nat -> Bool) (z : Bool) : List Nat -> Bool
 | [] => z
 | j :: js => if e j then walkB e r z js else r j
theorem loopLt (l b : Addr) (its its2 : Array Value) (n n2 : Nat) (dd dd2 : Option Addr) (sl sl2 : Array (Option Value)) (e r : Nat -> Bool) (k : Nat) :
 ∀ i : Nat, min its.size its2.size - i = k -> Meets (Builtin.«list.__eq__.loop» ⟨[.ref l, .ref b, rawInt i, rawInt 0], []⟩)
  (fun A R s => s.heap.get? l = some { cls := .type "list", dict := dd, data := .seq its n, slots := sl } /\ s.heap.get? b = some { cls := .type "list", dict := dd2, data := .seq its2 n2, slots := sl2 } /\
   (∀ j (h1 : j < its.size) (h2 : j < its2.size), EqAt A.in1 s its[j] its2[j] (e j)) /\ (∀ j (h1 : j < its.size) (h2 : j < its2.size), e j = false -> RoAt .Lt A.in1 s its[j] its2[j] (r j)) /\
   R (.ok (.ret (.bool (walkB e r (decide (its.size < its2.size)) ((List.range (min its.size its2.size)).drop i))))) s) := by
 induction k with
 | zero =>
  intro i hk prog w A R s hyp
  obtain ⟨hp, g, d, tk, os⟩ := s
  obtain ⟨hl, hb, he, ho, fin⟩ := hyp
  wp_walk using wpAny_loadPart' hl, wpAny_loadPart' hb
  have hd : (List.range (min its.size its2.size)).drop i = [] := by simp; omega
  rw [hd] at fin
  by_cases h1 : i < its.size
  . have e1 : its[((i : Nat) : Int).toNat]? = some its[i] := by simp [h1]
    have e2 : its2[((i : Nat) : Int).toNat]? = none := by simp; omega
    rw [e1, e2]
    wp_walk using wpAny_loadPart' hl, wpAny_loadPart' hb
    exact fin
  . have e1 : its[((i : Nat) : Int).toNat]? = none := by simp; omega
    rw [e1]
    cases e2 : its2[((i : Nat) : Int).toNat]?
    . wp_walk using wpAny_loadPart' hl, wpAny_loadPart' hb
      exact fin
    . wp_walk using wpAny_loadPart' hl, wpAny_loadPart' hb
      exact fin
 | succ k ih =>
  intro i hk prog w A R s hyp
  obtain ⟨hp, g, d, tk, os⟩ := s
  obtain ⟨hl, hb, he, ho, fin⟩ := hyp
  wp_walk using wpAny_loadPart' hl, wpAny_loadPart' hb
  have h1 : i < its.size := by omega
  have h2 : i < its2.size := by omega
  have e1 : its[((i : Nat) : Int).toNat]? = some its[i] := by simp [h1]
  have e2 : its2[((i : Nat) : Int).toNat]? = some its2[i] := by simp [h2]
  have hm : i < min its.size its2.size := by omega
  have hd : (List.range (min its.size its2.size)).drop i = i :: (List.range (min its.size its2.size)).drop (i + 1) := by simp [List.drop_eq_getElem_cons, hm]
  have hc : ((i : Int) + 1) = ((i + 1 : Nat) : Int) := by push_cast; rfl
  rw [hd] at fin
  rw [e1, e2]
  refine wpAny_bind (he i h1 h2 prog w _ _ ?_)
  cases hq : e i with
  | true =>
   have fin' : R (.ok (.ret (.bool (walkB e r (decide (its.size < its2.size)) ((List.range (min its.size its2.size)).drop (i + 1)))))) ⟨hp, g, d, tk, os⟩ := by simpa [walkB, hq] using fin
   wp_walk
   rw [hc]
   exact ⟨plainId_quiet plain_eq_loop _, codeAny_builtin entry_eq_loop (by
    rw [Around.under_plainId plain_eq_loop _]
    exact ih (i + 1) (by omega) prog w A R _ ⟨hl, hb, he, ho, fin'⟩)⟩
  | false =>
   have fin' : R (.ok (.ret (.bool (r i)))) ⟨hp, g, d, tk, os⟩ := by simpa [walkB, hq] using fin
   wp_walk using wpAny_loadPart' hl, wpAny_loadPart' hb
   rw [e1, e2]
   refine wpAny_bind (ho i h1 h2 hq prog w _ _ ?_)
   wp_walk
   exact fin'
theorem listLt (l b : Addr) (its its2 : Array Value) (n n2 : Nat) (dd dd2 : Option Addr) (sl sl2 : Array (Option Value)) (e r : Nat -> Bool) :
 Meets (Builtin.«list.__lt__» ⟨[.ref l, .ref b], []⟩)
  (fun A R s => s.heap.get? l = some { cls := .type "list", dict := dd, data := .seq its n, slots := sl } /\ s.heap.get? b = some { cls := .type "list", dict := dd2, data := .seq its2 n2, slots := sl2 } /\
   (∀ j (h1 : j < its.size) (h2 : j < its2.size), EqAt A.in1 s its[j] its2[j] (e j)) /\ (∀ j (h1 : j < its.size) (h2 : j < its2.size), e j = false -> RoAt .Lt A.in1 s its[j] its2[j] (r j)) /\
   R (.ok (.ret (.bool (walkB e r (decide (its.size < its2.size)) (List.range (min its.size its2.size)))))) s) := by
 intro prog w A R s hyp
 obtain ⟨hp, g, d, tk, os⟩ := s
 obtain ⟨hl, hb, he, ho, fin⟩ := hyp
 have f3 := AutoSeq1.sub_list_list
 wp_walk using wpAny_loadPart' hl, wpAny_loadPart' hb
 all_goals exact ⟨plainId_quiet plain_eq_loop _, codeAny_builtin entry_eq_loop (by
  rw [Around.under_plainId plain_eq_loop _]
  exact loopLt l b its its2 n n2 dd dd2 sl sl2 e r _ 0 rfl prog w A R _ ⟨hl, hb, he, ho, by simpa using fin⟩)⟩
theorem roListLt {A : Around} {s : Shared} {l b : Addr} {its its2 : Array Value} {e r : Nat -> Bool} (hl : s.heap.IsList l its) (hb : s.heap.IsList b its2) (hu : A.units < cLine)
 (he : ∀ j (h1 : j < its.size) (h2 : j < its2.size), EqAt A.in1 s its[j] its2[j] (e j)) (ho : ∀ j (h1 : j < its.size) (h2 : j < its2.size), e j = false -> RoAt .Lt A.in1 s its[j] its2[j] (r j)) :
 RoAt .Lt A s (.ref l) (.ref b) (walkB e r (decide (its.size < its2.size)) (List.range (min its.size its2.size))) := fun prog w E Q h => by
 obtain ⟨⟨cls, dd, data, sl⟩, g1, hc, n, hd⟩ := id hl
 obtain ⟨⟨cls2, dd2, data2, sl2⟩, g2, hc2, n2, hd2⟩ := id hb
 simp only at hc hd hc2 hd2
 subst hc hd hc2 hd2
 exact richCompare_meets_room (op := .Lt) ⟨_, g1, rfl⟩ ⟨_, g2, rfl⟩ F.slot_list_lt F.entry_list_lt (F.args_list_lt_2 _ _) (listLt l b its its2 n n2 dd dd2 sl sl2 e r)
  ⟨g1, g2, he, ho, (fun x => nomatch x), h⟩ hu
theorem tupleLt (l b : Addr) (its its2 : Array Value) (n n2 : Nat) (dd dd2 : Option Addr) (sl sl2 : Array (Option Value)) (e r : Nat -> Bool) :
 Meets (Builtin.«tuple.__lt__» ⟨[.ref l, .ref b], []⟩)
  (fun A R s => s.heap.get? l = some { cls := .type "tuple", dict := dd, data := .seq its n, slots := sl } /\ s.heap.get? b = some { cls := .type "tuple", dict := dd2, data := .seq its2 n2, slots := sl2 } /\
   (∀ j (h1 : j < its.size) (h2 : j < its2.size), EqAt A.in1 s its[j] its2[j] (e j)) /\ (∀ j (h1 : j < its.size) (h2 : j < its2.size), e j = false -> RoAt .Lt A.in1 s its[j] its2[j] (r j)) /\
   R (.ok (.ret (.bool (walkB e r (decide (its.size < its2.size)) (List.range (min its.size its2.size)))))) s) :=
 .of_wp fun prog w A R s hyp => by
  obtain ⟨hp, g, d, tk, os⟩ := s
  obtain ⟨hl, hb, he, ho, fin⟩ := hyp
  have f2 := AutoSeq1.sub_tuple_tuple
  have hZ : (its.toList.zip its2.toList).length = min its.size its2.size := by simp
  wp_walk using wpAny_loadPart' hl, wpAny_loadPart' hb, wpAny_forIn_list _ (fun rest c s' => c.1 = none /\ s' = ⟨hp, g, d, tk, os⟩ /\ ∃ i, rest = (its.toList.zip its2.toList).drop i /\
   R (.ok (.ret (.bool (walkB e r (decide (its.size < its2.size)) ((List.range (min its.size its2.size)).drop i))))) ⟨hp, g, d, tk, os⟩) _
  case turn =>
   rintro ⟨y, x⟩ rest c s' ⟨hc', rfl, i, hz, hR⟩
   have hlt : i < (its.toList.zip its2.toList).length := by
    rcases Nat.lt_or_ge i (its.toList.zip its2.toList).length with q | q
    . exact q
    . rw [List.drop_of_length_le q] at hz; cases hz
   have hm : i < min its.size its2.size := by omega
   have h1 : i < its.size := by omega
   have h2 : i < its2.size := by omega
   rw [List.drop_eq_getElem_cons hlt] at hz
   injection hz with hyx hrest
   have hy : y = its[i] := by have t := congrArg Prod.fst hyx; simpa using t
   have hx : x = its2[i] := by have t := congrArg Prod.snd hyx; simpa using t
   subst hy hx
   have hd : (List.range (min its.size its2.size)).drop i = i :: (List.range (min its.size its2.size)).drop (i + 1) := by simp [List.drop_eq_getElem_cons, hm]
   rw [hd] at hR
   refine wpAny_bind (he i h1 h2 prog w _ _ ?_)
   cases hq : e i with
   | true =>
    have fin' : R (.ok (.ret (.bool (walkB e r (decide (its.size < its2.size)) ((List.range (min its.size its2.size)).drop (i + 1)))))) ⟨hp, g, d, tk, os⟩ := by simpa [walkB, hq] using hR
    wp_walk
    exact ⟨rfl, rfl, i + 1, hrest, fin'⟩
   | false =>
    have fin' : R (.ok (.ret (.bool (r i)))) ⟨hp, g, d, tk, os⟩ := by simpa [walkB, hq] using hR
    rw [if_pos (show (!false) = true from rfl)]
    refine wpAny_bind (wpAny_rule (wpAny_bind (ho i h1 h2 hq prog w _ _ ?_)))
    wp_walk
    exact ⟨_, rfl, fin'⟩
  case fin =>
   rintro ⟨c1, c2⟩ s' ⟨hc', rfl, i, hz, hR⟩
   simp only at hc'
   subst hc'
   have hge : min its.size its2.size <= i := by
    rcases Nat.lt_or_ge i (its.toList.zip its2.toList).length with q | q
    . rw [List.drop_eq_getElem_cons q] at hz; cases hz
    . omega
   rw [List.drop_of_length_le (by simpa using hge)] at hR
   wp_walk
   exact ⟨_, rfl, by simpa [Builtin.Tuple.tupleCompareSizes, walkB] using hR⟩
  case h =>
   exact ⟨rfl, rfl, 0, rfl, by simpa using fin⟩
theorem roTupLt {A : Around} {s : Shared} {l b : Addr} {its its2 : Array Value} {e r : Nat -> Bool} (hl : s.heap.IsTuple l its) (hb : s.heap.IsTuple b its2) (hu : A.units < cLine)
 (he : ∀ j (h1 : j < its.size) (h2 : j < its2.size), EqAt A.in1 s its[j] its2[j] (e j)) (ho : ∀ j (h1 : j < its.size) (h2 : j < its2.size), e j = false -> RoAt .Lt A.in1 s its[j] its2[j] (r j)) :
 RoAt .Lt A s (.ref l) (.ref b) (walkB e r (decide (its.size < its2.size)) (List.range (min its.size its2.size))) := fun prog w E Q h => by
 obtain ⟨⟨cls, dd, data, sl⟩, g1, hc, n, hd⟩ := id hl
 obtain ⟨⟨cls2, dd2, data2, sl2⟩, g2, hc2, n2, hd2⟩ := id hb
 simp only at hc hd hc2 hd2
 subst hc hd hc2 hd2
 exact richCompare_meets_room (op := .Lt) ⟨_, g1, rfl⟩ ⟨_, g2, rfl⟩ F.slot_tuple_lt F.entry_tuple_lt (F.args_tuple_lt_2 _ _) (tupleLt l b its its2 n n2 dd dd2 sl sl2 e r)
  ⟨g1, g2, he, ho, (fun x => nomatch x), h⟩ hu
theorem loopLtE (l b : Addr) (its its2 : Array Value) (n n2 : Nat) (dd dd2 : Option Addr) (sl sl2 : Array (Option Value)) (e r : Nat -> Bool) (k : Nat) :
 ∀ i : Nat, min its.size its2.size - i = k -> Meets (Builtin.«list.__eq__.loop» ⟨[.ref l, .ref b, rawInt i, rawInt 1], []⟩)
  (fun A R s => s.heap.get? l = some { cls := .type "list", dict := dd, data := .seq its n, slots := sl } /\ s.heap.get? b = some { cls := .type "list", dict := dd2, data := .seq its2 n2, slots := sl2 } /\
   (∀ j (h1 : j < its.size) (h2 : j < its2.size), EqAt A.in1 s its[j] its2[j] (e j)) /\ (∀ j (h1 : j < its.size) (h2 : j < its2.size), e j = false -> RoAt .LtE A.in1 s its[j] its2[j] (r j)) /\
   R (.ok (.ret (.bool (walkB e r (decide (its.size <= its2.size)) ((List.range (min its.size its2.size)).drop i))))) s) := by
 induction k with
 | zero =>
  intro i hk prog w A R s hyp
  obtain ⟨hp, g, d, tk, os⟩ := s
  obtain ⟨hl, hb, he, ho, fin⟩ := hyp
  wp_walk using wpAny_loadPart' hl, wpAny_loadPart' hb
  have hd : (List.range (min its.size its2.size)).drop i = [] := by simp; omega
  rw [hd] at fin
  by_cases h1 : i < its.size
  . have e1 : its[((i : Nat) : Int).toNat]? = some its[i] := by simp [h1]
    have e2 : its2[((i : Nat) : Int).toNat]? = none := by simp; omega
    rw [e1, e2]
    wp_walk using wpAny_loadPart' hl, wpAny_loadPart' hb
    exact fin
  . have e1 : its[((i : Nat) : Int).toNat]? = none := by simp; omega
    rw [e1]
    cases e2 : its2[((i : Nat) : Int).toNat]?
    . wp_walk using wpAny_loadPart' hl, wpAny_loadPart' hb
      exact fin
    . wp_walk using wpAny_loadPart' hl, wpAny_loadPart' hb
      exact fin
 | succ k ih =>
  intro i hk prog w A R s hyp
  obtain ⟨hp, g, d, tk, os⟩ := s
  obtain ⟨hl, hb, he, ho, fin⟩ := hyp
  wp_walk using wpAny_loadPart' hl, wpAny_loadPart' hb
  have h1 : i < its.size := by omega
  have h2 : i < its2.size := by omega
  have e1 : its[((i : Nat) : Int).toNat]? = some its[i] := by simp [h1]
  have e2 : its2[((i : Nat) : Int).toNat]? = some its2[i] := by simp [h2]
  have hm : i < min its.size its2.size := by omega
  have hd : (List.range (min its.size its2.size)).drop i = i :: (List.range (min its.size its2.size)).drop (i + 1) := by simp [List.drop_eq_getElem_cons, hm]
  have hc : ((i : Int) + 1) = ((i + 1 : Nat) : Int) := by push_cast; rfl
  rw [hd] at fin
  rw [e1, e2]
  refine wpAny_bind (he i h1 h2 prog w _ _ ?_)
  cases hq : e i with
  | true =>
   have fin' : R (.ok (.ret (.bool (walkB e r (decide (its.size <= its2.size)) ((List.range (min its.size its2.size)).drop (i + 1)))))) ⟨hp, g, d, tk, os⟩ := by simpa [walkB, hq] using fin
   wp_walk
   rw [hc]
   exact ⟨plainId_quiet plain_eq_loop _, codeAny_builtin entry_eq_loop (by
    rw [Around.under_plainId plain_eq_loop _]
    exact ih (i + 1) (by omega) prog w A R _ ⟨hl, hb, he, ho, fin'⟩)⟩
  | false =>
   have fin' : R (.ok (.ret (.bool (r i)))) ⟨hp, g, d, tk, os⟩ := by simpa [walkB, hq] using fin
   wp_walk using wpAny_loadPart' hl, wpAny_loadPart' hb
   rw [e1, e2]
   refine wpAny_bind (ho i h1 h2 hq prog w _ _ ?_)
   wp_walk
   exact fin'
theorem listLtE (l b : Addr) (its its2 : Array Value) (n n2 : Nat) (dd dd2 : Option Addr) (sl sl2 : Array (Option Value)) (e r : Nat -> Bool) :
 Meets (Builtin.«list.__le__» ⟨[.ref l, .ref b], []⟩)
  (fun A R s => s.heap.get? l = some { cls := .type "list", dict := dd, data := .seq its n, slots := sl } /\ s.heap.get? b = some { cls := .type "list", dict := dd2, data := .seq its2 n2, slots := sl2 } /\
   (∀ j (h1 : j < its.size) (h2 : j < its2.size), EqAt A.in1 s its[j] its2[j] (e j)) /\ (∀ j (h1 : j < its.size) (h2 : j < its2.size), e j = false -> RoAt .LtE A.in1 s its[j] its2[j] (r j)) /\
   R (.ok (.ret (.bool (walkB e r (decide (its.size <= its2.size)) (List.range (min its.size its2.size)))))) s) := by
 intro prog w A R s hyp
 obtain ⟨hp, g, d, tk, os⟩ := s
 obtain ⟨hl, hb, he, ho, fin⟩ := hyp
 have f3 := AutoSeq1.sub_list_list
 wp_walk using wpAny_loadPart' hl, wpAny_loadPart' hb
 all_goals exact ⟨plainId_quiet plain_eq_loop _, codeAny_builtin entry_eq_loop (by
  rw [Around.under_plainId plain_eq_loop _]
  exact loopLtE l b its its2 n n2 dd dd2 sl sl2 e r _ 0 rfl prog w A R _ ⟨hl, hb, he, ho, by simpa using fin⟩)⟩
theorem roListLtE {A : Around} {s : Shared} {l b : Addr} {its its2 : Array Value} {e r : Nat -> Bool} (hl : s.heap.IsList l its) (hb : s.heap.IsList b its2) (hu : A.units < cLine)
 (he : ∀ j (h1 : j < its.size) (h2 : j < its2.size), EqAt A.in1 s its[j] its2[j] (e j)) (ho : ∀ j (h1 : j < its.size) (h2 : j < its2.size), e j = false -> RoAt .LtE A.in1 s its[j] its2[j] (r j)) :
 RoAt .LtE A s (.ref l) (.ref b) (walkB e r (decide (its.size <= its2.size)) (List.range (min its.size its2.size))) := fun prog w E Q h => by
 obtain ⟨⟨cls, dd, data, sl⟩, g1, hc, n, hd⟩ := id hl
 obtain ⟨⟨cls2, dd2, data2, sl2⟩, g2, hc2, n2, hd2⟩ := id hb
 simp only at hc hd hc2 hd2
 subst hc hd hc2 hd2
 exact richCompare_meets_room (op := .LtE) ⟨_, g1, rfl⟩ ⟨_, g2, rfl⟩ F.slot_list_le F.entry_list_le (F.args_list_le_2 _ _) (listLtE l b its its2 n n2 dd dd2 sl sl2 e r)
  ⟨g1, g2, he, ho, (fun x => nomatch x), h⟩ hu
theorem tupleLtE (l b : Addr) (its its2 : Array Value) (n n2 : Nat) (dd dd2 : Option Addr) (sl sl2 : Array (Option Value)) (e r : Nat -> Bool) :
 Meets (Builtin.«tuple.__le__» ⟨[.ref l, .ref b], []⟩)
  (fun A R s => s.heap.get? l = some { cls := .type "tuple", dict := dd, data := .seq its n, slots := sl } /\ s.heap.get? b = some { cls := .type "tuple", dict := dd2, data := .seq its2 n2, slots := sl2 } /\
   (∀ j (h1 : j < its.size) (h2 : j < its2.size), EqAt A.in1 s its[j] its2[j] (e j)) /\ (∀ j (h1 : j < its.size) (h2 : j < its2.size), e j = false -> RoAt .LtE A.in1 s its[j] its2[j] (r j)) /\
   R (.ok (.ret (.bool (walkB e r (decide (its.size <= its2.size)) (List.range (min its.size its2.size)))))) s) :=
 .of_wp fun prog w A R s hyp => by
  obtain ⟨hp, g, d, tk, os⟩ := s
  obtain ⟨hl, hb, he, ho, fin⟩ := hyp
  have f2 := AutoSeq1.sub_tuple_tuple
  have hZ : (its.toList.zip its2.toList).length = min its.size its2.size := by simp
  wp_walk using wpAny_loadPart' hl, wpAny_loadPart' hb, wpAny_forIn_list _ (fun rest c s' => c.1 = none /\ s' = ⟨hp, g, d, tk, os⟩ /\ ∃ i, rest = (its.toList.zip its2.toList).drop i /\
   R (.ok (.ret (.bool (walkB e r (decide (its.size <= its2.size)) ((List.range (min its.size its2.size)).drop i))))) ⟨hp, g, d, tk, os⟩) _
  case turn =>
   rintro ⟨y, x⟩ rest c s' ⟨hc', rfl, i, hz, hR⟩
   have hlt : i < (its.toList.zip its2.toList).length := by
    rcases Nat.lt_or_ge i (its.toList.zip its2.toList).length with q | q
    . exact q
    . rw [List.drop_of_length_le q] at hz; cases hz
   have hm : i < min its.size its2.size := by omega
   have h1 : i < its.size := by omega
   have h2 : i < its2.size := by omega
   rw [List.drop_eq_getElem_cons hlt] at hz
   injection hz with hyx hrest
   have hy : y = its[i] := by have t := congrArg Prod.fst hyx; simpa using t
   have hx : x = its2[i] := by have t := congrArg Prod.snd hyx; simpa using t
   subst hy hx
   have hd : (List.range (min its.size its2.size)).drop i = i :: (List.range (min its.size its2.size)).drop (i + 1) := by simp [List.drop_eq_getElem_cons, hm]
   rw [hd] at hR
   refine wpAny_bind (he i h1 h2 prog w _ _ ?_)
   cases hq : e i with
   | true =>
    have fin' : R (.ok (.ret (.bool (walkB e r (decide (its.size <= its2.size)) ((List.range (min its.size its2.size)).drop (i + 1)))))) ⟨hp, g, d, tk, os⟩ := by simpa [walkB, hq] using hR
    wp_walk
    exact ⟨rfl, rfl, i + 1, hrest, fin'⟩
   | false =>
    have fin' : R (.ok (.ret (.bool (r i)))) ⟨hp, g, d, tk, os⟩ := by simpa [walkB, hq] using hR
    rw [if_pos (show (!false) = true from rfl)]
    refine wpAny_bind (wpAny_rule (wpAny_bind (ho i h1 h2 hq prog w _ _ ?_)))
    wp_walk
    exact ⟨_, rfl, fin'⟩
  case fin =>
   rintro ⟨c1, c2⟩ s' ⟨hc', rfl, i, hz, hR⟩
   simp only at hc'
   subst hc'
   have hge : min its.size its2.size <= i := by
    rcases Nat.lt_or_ge i (its.toList.zip its2.toList).length with q | q
    . rw [List.drop_eq_getElem_cons q] at hz; cases hz
    . omega
   rw [List.drop_of_length_le (by simpa using hge)] at hR
   wp_walk
   exact ⟨_, rfl, by simpa [Builtin.Tuple.tupleCompareSizes, walkB] using hR⟩
  case h =>
   exact ⟨rfl, rfl, 0, rfl, by simpa using fin⟩
theorem roTupLtE {A : Around} {s : Shared} {l b : Addr} {its its2 : Array Value} {e r : Nat -> Bool} (hl : s.heap.IsTuple l its) (hb : s.heap.IsTuple b its2) (hu : A.units < cLine)
 (he : ∀ j (h1 : j < its.size) (h2 : j < its2.size), EqAt A.in1 s its[j] its2[j] (e j)) (ho : ∀ j (h1 : j < its.size) (h2 : j < its2.size), e j = false -> RoAt .LtE A.in1 s its[j] its2[j] (r j)) :
 RoAt .LtE A s (.ref l) (.ref b) (walkB e r (decide (its.size <= its2.size)) (List.range (min its.size its2.size))) := fun prog w E Q h => by
 obtain ⟨⟨cls, dd, data, sl⟩, g1, hc, n, hd⟩ := id hl
 obtain ⟨⟨cls2, dd2, data2, sl2⟩, g2, hc2, n2, hd2⟩ := id hb
 simp only at hc hd hc2 hd2
 subst hc hd hc2 hd2
 exact richCompare_meets_room (op := .LtE) ⟨_, g1, rfl⟩ ⟨_, g2, rfl⟩ F.slot_tuple_le F.entry_tuple_le (F.args_tuple_le_2 _ _) (tupleLtE l b its its2 n n2 dd dd2 sl sl2 e r)
  ⟨g1, g2, he, ho, (fun x => nomatch x), h⟩ hu
theorem loopGtE (l b : Addr) (its its2 : Array Value) (n n2 : Nat) (dd dd2 : Option Addr) (sl sl2 : Array (Option Value)) (e r : Nat -> Bool) (k : Nat) :
 ∀ i : Nat, min its.size its2.size - i = k -> Meets (Builtin.«list.__eq__.loop» ⟨[.ref l, .ref b, rawInt i, rawInt 5], []⟩)
  (fun A R s => s.heap.get? l = some { cls := .type "list", dict := dd, data := .seq its n, slots := sl } /\ s.heap.get? b = some { cls := .type "list", dict := dd2, data := .seq its2 n2, slots := sl2 } /\
   (∀ j (h1 : j < its.size) (h2 : j < its2.size), EqAt A.in1 s its[j] its2[j] (e j)) /\ (∀ j (h1 : j < its.size) (h2 : j < its2.size), e j = false -> RoAt .GtE A.in1 s its[j] its2[j] (r j)) /\
   R (.ok (.ret (.bool (walkB e r (decide (its.size ≥ its2.size)) ((List.range (min its.size its2.size)).drop i))))) s) := by
 induction k with
 | zero =>
  intro i hk prog w A R s hyp
  obtain ⟨hp, g, d, tk, os⟩ := s
  obtain ⟨hl, hb, he, ho, fin⟩ := hyp
  wp_walk using wpAny_loadPart' hl, wpAny_loadPart' hb
  have hd : (List.range (min its.size its2.size)).drop i = [] := by simp; omega
  rw [hd] at fin
  by_cases h1 : i < its.size
  . have e1 : its[((i : Nat) : Int).toNat]? = some its[i] := by simp [h1]
    have e2 : its2[((i : Nat) : Int).toNat]? = none := by simp; omega
    rw [e1, e2]
    wp_walk using wpAny_loadPart' hl, wpAny_loadPart' hb
    exact fin
  . have e1 : its[((i : Nat) : Int).toNat]? = none := by simp; omega
    rw [e1]
    cases e2 : its2[((i : Nat) : Int).toNat]?
    . wp_walk using wpAny_loadPart' hl, wpAny_loadPart' hb
      exact fin
    . wp_walk using wpAny_loadPart' hl, wpAny_loadPart' hb
      exact fin
 | succ k ih =>
  intro i hk prog w A R s hyp
  obtain ⟨hp, g, d, tk, os⟩ := s
  obtain ⟨hl, hb, he, ho, fin⟩ := hyp
  wp_walk using wpAny_loadPart' hl, wpAny_loadPart' hb
  have h1 : i < its.size := by omega
  have h2 : i < its2.size := by omega
  have e1 : its[((i : Nat) : Int).toNat]? = some its[i] := by simp [h1]
  have e2 : its2[((i : Nat) : Int).toNat]? = some its2[i] := by simp [h2]
  have hm : i < min its.size its2.size := by omega
  have hd : (List.range (min its.size its2.size)).drop i = i :: (List.range (min its.size its2.size)).drop (i + 1) := by simp [List.drop_eq_getElem_cons, hm]
  have hc : ((i : Int) + 1) = ((i + 1 : Nat) : Int) := by push_cast; rfl
  rw [hd] at fin
  rw [e1, e2]
  refine wpAny_bind (he i h1 h2 prog w _ _ ?_)
  cases hq : e i with
  | true =>
   have fin' : R (.ok (.ret (.bool (walkB e r (decide (its.size ≥ its2.size)) ((List.range (min its.size its2.size)).drop (i + 1)))))) ⟨hp, g, d, tk, os⟩ := by simpa [walkB, hq] using fin
   wp_walk
   rw [hc]
   exact ⟨plainId_quiet plain_eq_loop _, codeAny_builtin entry_eq_loop (by
    rw [Around.under_plainId plain_eq_loop _]
    exact ih (i + 1) (by omega) prog w A R _ ⟨hl, hb, he, ho, fin'⟩)⟩
  | false =>
   have fin' : R (.ok (.ret (.bool (r i)))) ⟨hp, g, d, tk, os⟩ := by simpa [walkB, hq] using fin
   wp_walk using wpAny_loadPart' hl, wpAny_loadPart' hb
   rw [e1, e2]
   refine wpAny_bind (ho i h1 h2 hq prog w _ _ ?_)
   wp_walk
   exact fin'
theorem listGtE (l b : Addr) (its its2 : Array Value) (n n2 : Nat) (dd dd2 : Option Addr) (sl sl2 : Array (Option Value)) (e r : Nat -> Bool) :
 Meets (Builtin.«list.__ge__» ⟨[.ref l, .ref b], []⟩)
  (fun A R s => s.heap.get? l = some { cls := .type "list", dict := dd, data := .seq its n, slots := sl } /\ s.heap.get? b = some { cls := .type "list", dict := dd2, data := .seq its2 n2, slots := sl2 } /\
   (∀ j (h1 : j < its.size) (h2 : j < its2.size), EqAt A.in1 s its[j] its2[j] (e j)) /\ (∀ j (h1 : j < its.size) (h2 : j < its2.size), e j = false -> RoAt .GtE A.in1 s its[j] its2[j] (r j)) /\
   R (.ok (.ret (.bool (walkB e r (decide (its.size ≥ its2.size)) (List.range (min its.size its2.size)))))) s) := by
 intro prog w A R s hyp
 obtain ⟨hp, g, d, tk, os⟩ := s
 obtain ⟨hl, hb, he, ho, fin⟩ := hyp
 have f3 := AutoSeq1.sub_list_list
 wp_walk using wpAny_loadPart' hl, wpAny_loadPart' hb
 all_goals exact ⟨plainId_quiet plain_eq_loop _, codeAny_builtin entry_eq_loop (by
  rw [Around.under_plainId plain_eq_loop _]
  exact loopGtE l b its its2 n n2 dd dd2 sl sl2 e r _ 0 rfl prog w A R _ ⟨hl, hb, he, ho, by simpa using fin⟩)⟩
theorem roListGtE {A : Around} {s : Shared} {l b : Addr} {its its2 : Array Value} {e r : Nat -> Bool} (hl : s.heap.IsList l its) (hb : s.heap.IsList b its2) (hu : A.units < cLine)
 (he : ∀ j (h1 : j < its.size) (h2 : j < its2.size), EqAt A.in1 s its[j] its2[j] (e j)) (ho : ∀ j (h1 : j < its.size) (h2 : j < its2.size), e j = false -> RoAt .GtE A.in1 s its[j] its2[j] (r j)) :
 RoAt .GtE A s (.ref l) (.ref b) (walkB e r (decide (its.size ≥ its2.size)) (List.range (min its.size its2.size))) := fun prog w E Q h => by
 obtain ⟨⟨cls, dd, data, sl⟩, g1, hc, n, hd⟩ := id hl
 obtain ⟨⟨cls2, dd2, data2, sl2⟩, g2, hc2, n2, hd2⟩ := id hb
 simp only at hc hd hc2 hd2
 subst hc hd hc2 hd2
 exact richCompare_meets_room (op := .GtE) ⟨_, g1, rfl⟩ ⟨_, g2, rfl⟩ F.slot_list_ge F.entry_list_ge (F.args_list_ge_2 _ _) (listGtE l b its its2 n n2 dd dd2 sl sl2 e r)
  ⟨g1, g2, he, ho, (fun x => nomatch x), h⟩ hu
theorem tupleGtE (l b : Addr) (its its2 : Array Value) (n n2 : Nat) (dd dd2 : Option Addr) (sl sl2 : Array (Option Value)) (e r : Nat -> Bool) :
 Meets (Builtin.«tuple.__ge__» ⟨[.ref l, .ref b], []⟩)
  (fun A R s => s.heap.get? l = some { cls := .type "tuple", dict := dd, data := .seq its n, slots := sl } /\ s.heap.get? b = some { cls := .type "tuple", dict := dd2, data := .seq its2 n2, slots := sl2 } /\
   (∀ j (h1 : j < its.size) (h2 : j < its2.size), EqAt A.in1 s its[j] its2[j] (e j)) /\ (∀ j (h1 : j < its.size) (h2 : j < its2.size), e j = false -> RoAt .GtE A.in1 s its[j] its2[j] (r j)) /\
   R (.ok (.ret (.bool (walkB e r (decide (its.size ≥ its2.size)) (List.range (min its.size its2.size)))))) s) :=
 .of_wp fun prog w A R s hyp => by
  obtain ⟨hp, g, d, tk, os⟩ := s
  obtain ⟨hl, hb, he, ho, fin⟩ := hyp
  have f2 := AutoSeq1.sub_tuple_tuple
  have hZ : (its.toList.zip its2.toList).length = min its.size its2.size := by simp
  wp_walk using wpAny_loadPart' hl, wpAny_loadPart' hb, wpAny_forIn_list _ (fun rest c s' => c.1 = none /\ s' = ⟨hp, g, d, tk, os⟩ /\ ∃ i, rest = (its.toList.zip its2.toList).drop i /\
   R (.ok (.ret (.bool (walkB e r (decide (its.size ≥ its2.size)) ((List.range (min its.size its2.size)).drop i))))) ⟨hp, g, d, tk, os⟩) _
  case turn =>
   rintro ⟨y, x⟩ rest c s' ⟨hc', rfl, i, hz, hR⟩
   have hlt : i < (its.toList.zip its2.toList).length := by
    rcases Nat.lt_or_ge i (its.toList.zip its2.toList).length with q | q
    . exact q
    . rw [List.drop_of_length_le q] at hz; cases hz
   have hm : i < min its.size its2.size := by omega
   have h1 : i < its.size := by omega
   have h2 : i < its2.size := by omega
   rw [List.drop_eq_getElem_cons hlt] at hz
   injection hz with hyx hrest
   have hy : y = its[i] := by have t := congrArg Prod.fst hyx; simpa using t
   have hx : x = its2[i] := by have t := congrArg Prod.snd hyx; simpa using t
   subst hy hx
   have hd : (List.range (min its.size its2.size)).drop i = i :: (List.range (min its.size its2.size)).drop (i + 1) := by simp [List.drop_eq_getElem_cons, hm]
   rw [hd] at hR
   refine wpAny_bind (he i h1 h2 prog w _ _ ?_)
   cases hq : e i with
   | true =>
    have fin' : R (.ok (.ret (.bool (walkB e r (decide (its.size ≥ its2.size)) ((List.range (min its.size its2.size)).drop (i + 1)))))) ⟨hp, g, d, tk, os⟩ := by simpa [walkB, hq] using hR
    wp_walk
    exact ⟨rfl, rfl, i + 1, hrest, fin'⟩
   | false =>
    have fin' : R (.ok (.ret (.bool (r i)))) ⟨hp, g, d, tk, os⟩ := by simpa [walkB, hq] using hR
    rw [if_pos (show (!false) = true from rfl)]
    refine wpAny_bind (wpAny_rule (wpAny_bind (ho i h1 h2 hq prog w _ _ ?_)))
    wp_walk
    exact ⟨_, rfl, fin'⟩
  case fin =>
   rintro ⟨c1, c2⟩ s' ⟨hc', rfl, i, hz, hR⟩
   simp only at hc'
   subst hc'
   have hge : min its.size its2.size <= i := by
    rcases Nat.lt_or_ge i (its.toList.zip its2.toList).length with q | q
    . rw [List.drop_eq_getElem_cons q] at hz; cases hz
    . omega
   rw [List.drop_of_length_le (by simpa using hge)] at hR
   wp_walk
   exact ⟨_, rfl, by simpa [Builtin.Tuple.tupleCompareSizes, walkB] using hR⟩
  case h =>
   exact ⟨rfl, rfl, 0, rfl, by simpa using fin⟩
theorem roTupGtE {A : Around} {s : Shared} {l b : Addr} {its its2 : Array Value} {e r : Nat -> Bool} (hl : s.heap.IsTuple l its) (hb : s.heap.IsTuple b its2) (hu : A.units < cLine)
 (he : ∀ j (h1 : j < its.size) (h2 : j < its2.size), EqAt A.in1 s its[j] its2[j] (e j)) (ho : ∀ j (h1 : j < its.size) (h2 : j < its2.size), e j = false -> RoAt .GtE A.in1 s its[j] its2[j] (r j)) :
 RoAt .GtE A s (.ref l) (.ref b) (walkB e r (decide (its.size ≥ its2.size)) (List.range (min its.size its2.size))) := fun prog w E Q h => by
 obtain ⟨⟨cls, dd, data, sl⟩, g1, hc, n, hd⟩ := id hl
 obtain ⟨⟨cls2, dd2, data2, sl2⟩, g2, hc2, n2, hd2⟩ := id hb
 simp only at hc hd hc2 hd2
 subst hc hd hc2 hd2
 exact richCompare_meets_room (op := .GtE) ⟨_, g1, rfl⟩ ⟨_, g2, rfl⟩ F.slot_tuple_ge F.entry_tuple_ge (F.args_tuple_ge_2 _ _) (tupleGtE l b its its2 n n2 dd dd2 sl sl2 e r)
  ⟨g1, g2, he, ho, (fun x => nomatch x), h⟩ hu
end Y
namespace Y
open PySem PySem.Spec PyProof.Rows L2 PySem.SeqAt
variable [Tabs]
inductive Od where
 | lt | le | ge
def Od.op : Od -> CmpOp
 | .lt => .Lt
 | .le => .LtE
 | .ge => .GtE
def Od.sz : Od -> Nat -> Nat -> Bool
 | .lt, m, n => decide (m < n)
 | .le, m, n => decide (m <= n)
 | .ge, m, n => decide (m ≥ n)
def Od.int : Od -> Int -> Int -> Bool
 | .lt, m, n => decide (m < n)
 | .le, m, n => decide (m <= n)
 | .ge, m, n => decide (n <= m)
def Od.str : Od -> Str -> Str -> Bool
 | .lt, a, b => decide (cl a < cl b)
 | .le, a, b => !decide (cl b < cl a)
 | .ge, a, b => !decide (cl a < cl b)
mutual
def dor (o : Od) : D -> D -> Bool
 | .int a, .int b => o.int a b
 | .str a, .str b => o.str a b
 | .lst a, .lst b => dors o a b
 | .tup a, .tup b => dors o a b
 | _, _ => false
def dors (o : Od) : List D -> List D -> Bool
 | [], bs => o.sz 0 bs.length
 | a :: as, [] => o.sz (as.length + 1) 0
 | a :: as, b :: bs => if deq a b then dors o as bs else dor o a b
end
mutual
def cmpb : D -> D -> Bool
 | .int _, .int _ => true
 | .str _, .str _ => true
 | .lst a, .lst b => cmpbs a b
 | .tup a, .tup b => cmpbs a b
 | _, _ => false
def cmpbs : List D -> List D -> Bool
 | [], _ => true
 | _ :: _, [] => true
 | a :: as, b :: bs => cmpb a b && cmpbs as bs
end
theorem Od.sz_succ (o : Od) (m n : Nat) : o.sz (m + 1) (n + 1) = o.sz m n := by cases o <;> simp [Od.sz]
theorem walk_map (e r : Nat -> Bool) (z : Bool) : ∀ l : List Nat, walkB e r z (l.map Nat.succ) = walkB (fun j => e (j + 1)) (fun j => r (j + 1)) z l
 | [] => rfl
 | j :: l => by
  rw [map_cons, walkB, walkB, walk_map e r z l]
theorem walk_dors (o : Od) : ∀ (ds es : List D), walkB (fun j => deq (ds.getD j .non) (es.getD j .non)) (fun j => dor o (ds.getD j .non) (es.getD j .non)) (o.sz ds.length es.length) (List.range (min ds.length es.length)) = dors o ds es
 | [], es => by simp [walkB, dors]
 | a :: as, [] => by simp [walkB, dors]
 | a :: as, b :: bs => by
  have ih := walk_dors o as bs
  have hm : min (a :: as).length (b :: bs).length = min as.length bs.length + 1 := by simp <;> omega
  rw [hm, List.range_succ_eq_map, walkB, walk_map, dors]
  simp only [List.getD_cons_zero, List.getD_cons_succ, length_cons, Od.sz_succ]
  rw [ih]
theorem cmpbs_at : ∀ (ds es : List D), cmpbs ds es = true -> ∀ j, j < ds.length -> j < es.length -> cmpb (ds.getD j .non) (es.getD j .non) = true
 | [], es, _, j, h, _ => by simp at h
 | a :: as, [], _, j, _, h => by simp at h
 | a :: as, b :: bs, hc, j, h1, h2 => by
  unfold cmpbs at hc
  rw [Bool.and_eq_true] at hc
  cases j with
  | zero => exact hc.1
  | succ j => exact cmpbs_at as bs hc.2 j (by simpa using h1) (by simpa using h2)
section
variable {X : Cx} {pins : List (Addr × Obj)} {σ : St} {H : Hp} {s : Shared} {Z Z' : Zone}
theorem ro_int (o : Od) {A : Around} (a b : Int) (t u : Tok) : RoAt o.op A s (.int a t) (.int b u) (o.int a b) := fun prog w E Q h => by
 cases o
 . exact PyProof.Rows.lt_int h
 . exact PyProof.Rows.le_int h
 . exact PyProof.Rows.ge_int h
theorem ro_str (o : Od) {A : Around} (a b : Str) (t u : Tok) : RoAt o.op A s (.str a t) (.str b u) (o.str a b) := fun prog w E Q h => by
 cases o
 . exact PyProof.Rows.lt_str h
 . exact PySem.P.le_str h
 . exact PySem.P.ge_str h
theorem roL (o : Od) {A : Around} {l b : Addr} {its its2 : Array Value} {e r : Nat -> Bool} (hl : s.heap.IsList l its) (hb : s.heap.IsList b its2) (hu : A.units < cLine)
 (he : ∀ j (h1 : j < its.size) (h2 : j < its2.size), EqAt A.in1 s its[j] its2[j] (e j)) (ho : ∀ j (h1 : j < its.size) (h2 : j < its2.size), e j = false -> RoAt o.op A.in1 s its[j] its2[j] (r j)) :
 RoAt o.op A s (.ref l) (.ref b) (walkB e r (o.sz its.size its2.size) (List.range (min its.size its2.size))) := by
 cases o
 . exact roListLt hl hb hu he ho
 . exact roListLtE hl hb hu he ho
 . exact roListGtE hl hb hu he ho
theorem roT (o : Od) {A : Around} {l b : Addr} {its its2 : Array Value} {e r : Nat -> Bool} (hl : s.heap.IsTuple l its) (hb : s.heap.IsTuple b its2) (hu : A.units < cLine)
 (he : ∀ j (h1 : j < its.size) (h2 : j < its2.size), EqAt A.in1 s its[j] its2[j] (e j)) (ho : ∀ j (h1 : j < its.size) (h2 : j < its2.size), e j = false -> RoAt o.op A.in1 s its[j] its2[j] (r j)) :
 RoAt o.op A s (.ref l) (.ref b) (walkB e r (o.sz its.size its2.size) (List.range (min its.size its2.size))) := by
 cases o
 . exact roTupLt hl hb hu he ho
 . exact roTupLtE hl hb hu he ho
 . exact roTupGtE hl hb hu he ho
theorem roAt_D (o : Od) (I : Inv X pins σ H s) : ∀ (n : Nat) {A : Around} {d d' : D} {v v' : V} {u u' : Value}, In X.K H Z d v -> In X.K H Z' d' v' -> RelV v u -> RelV v' u' -> cmpb d d' = true -> d.dep <= n -> A.units + n < cLine -> RoAt o.op A s u u' (dor o d d') := by
 intro n
 induction n with
 | zero =>
  intro A d d' v v' u u' i i' r r' hc hd hu
  cases d with
  | non => cases d' <;> simp [cmpb] at hc
  | bl x => cases d' <;> simp [cmpb] at hc
  | dct x => cases d' <;> simp [cmpb] at hc
  | ktup x => cases d' <;> simp [cmpb] at hc
  | agg s x => cases d' <;> simp [cmpb] at hc
  | lst ds => unfold D.dep at hd; omega
  | tup ds => unfold D.dep at hd; omega
  | int x =>
   cases d' <;> simp [cmpb] at hc
   cases in_int.mp i
   cases in_int.mp i'
   obtain ⟨t, rfl⟩ := r
   obtain ⟨t', rfl⟩ := r'
   simp only [dor]
   exact ro_int o _ _ _ _
  | str x =>
   cases d' <;> simp [cmpb] at hc
   cases in_str.mp i
   cases in_str.mp i'
   obtain ⟨t, rfl⟩ := r
   obtain ⟨t', rfl⟩ := r'
   simp only [dor]
   exact ro_str o _ _ _ _
 | succ n ih =>
  intro A d d' v v' u u' i i' r r' hc hd hu
  have hu0 : A.units < cLine := by omega
  have hu1 : A.in1.units + n < cLine := by show A.units + 1 + n < cLine; omega
  have both : ∀ {ds es : List D} {xs ys : List V} {its its2 : List Value}, deps ds <= n -> cmpbs ds es = true -> Ins X.K H Z ds xs -> Ins X.K H Z' es ys -> Vals xs its -> Vals ys its2 -> ∀ j (h1 : j < its.toArray.size) (h2 : j < its2.toArray.size),
   EqAt A.in1 s its.toArray[j] its2.toArray[j] (deq (ds.getD j .non) (es.getD j .non)) /\ RoAt o.op A.in1 s its.toArray[j] its2.toArray[j] (dor o (ds.getD j .non) (es.getD j .non)) := fun {ds es xs ys its its2} hdn hcs jx jy rx ry j h1 h2 => by
   have z1 := jx.length; have z2 := jy.length; have z3 := rx.length; have z4 := ry.length
   simp at h1 h2
   have k1 : j < ds.length := by omega
   have k2 : j < es.length := by omega
   obtain ⟨x, ex, ix⟩ := jx.get (i := j) (d := ds[j]) (by simp [k1])
   obtain ⟨y, ey, iy⟩ := jy.get (i := j) (d := es[j]) (by simp [k2])
   obtain ⟨w1, f1, q1⟩ := rx.get ex
   obtain ⟨w2, f2, q2⟩ := ry.get ey
   have g1 : its.toArray[j] = w1 := by
    have t := (List.getElem?_eq_some_iff.mp f1).2
    simpa using t
   have g2 : its2.toArray[j] = w2 := by
    have t := (List.getElem?_eq_some_iff.mp f2).2
    simpa using t
   have hcj := cmpbs_at ds es hcs j k1 k2
   have e1 : ds.getD j .non = ds[j] := by simp [k1]
   have e2 : es.getD j .non = es[j] := by simp [k2]
   rw [e1, e2] at hcj ⊢
   rw [g1, g2]
   have hdj := Nat.le_trans (deps_mem (getElem_mem k1)) hdn
   exact ⟨eqAt_D I n ix iy q1 q2 hdj hu1, ih ix iy q1 q2 hcj hdj hu1⟩
  cases d with
  | non => cases d' <;> simp [cmpb] at hc
  | bl x => cases d' <;> simp [cmpb] at hc
  | dct x => cases d' <;> simp [cmpb] at hc
  | ktup x => cases d' <;> simp [cmpb] at hc
  | agg s x => cases d' <;> simp [cmpb] at hc
  | int x => exact ih i i' r r' hc (by simp [D.dep]) (by omega)
  | str x => exact ih i i' r r' hc (by simp [D.dep]) (by omega)
  | lst ds =>
   have hdn : deps ds <= n := by unfold D.dep at hd; omega
   cases d' with
   | lst es =>
    have hcs : cmpbs ds es = true := by simpa [cmpb] using hc
    obtain ⟨a, xs, rfl, l, j⟩ := in_lst.mp i
    obtain ⟨a', ys, rfl, l', j'⟩ := in_lst.mp i'
    cases r
    cases r'
    obtain ⟨its, rx, pl, _⟩ := I.list l.sq
    obtain ⟨its2, ry, pl2, _⟩ := I.list l'.sq
    have z1 := j.length; have z2 := j'.length; have z3 := rx.length; have z4 := ry.length
    have key := roL o (e := fun k => deq (ds.getD k .non) (es.getD k .non)) (r := fun k => dor o (ds.getD k .non) (es.getD k .non)) pl.isList pl2.isList hu0 (fun k h1 h2 => (both hdn hcs j j' rx ry k h1 h2).1) (fun k h1 h2 _ => (both hdn hcs j j' rx ry k h1 h2).2)
    have e1 : its.toArray.size = ds.length := by simp; omega
    have e2 : its2.toArray.size = es.length := by simp; omega
    rw [e1, e2, walk_dors] at key
    simpa only [dor] using key
   | _ => simp [cmpb] at hc
  | tup ds =>
   have hdn : deps ds <= n := by unfold D.dep at hd; omega
   cases d' with
   | tup es =>
    have hcs : cmpbs ds es = true := by simpa [cmpb] using hc
    obtain ⟨a, xs, rfl, l, j⟩ := in_tupS i
    obtain ⟨a', ys, rfl, l', j'⟩ := in_tupS i'
    cases r
    cases r'
    obtain ⟨its, rx, pl, _⟩ := I.tuple l
    obtain ⟨its2, ry, pl2, _⟩ := I.tuple l'
    have z1 := j.length; have z2 := j'.length; have z3 := rx.length; have z4 := ry.length
    have key := roT o (e := fun k => deq (ds.getD k .non) (es.getD k .non)) (r := fun k => dor o (ds.getD k .non) (es.getD k .non)) pl pl2 hu0 (fun k h1 h2 => (both hdn hcs j j' rx ry k h1 h2).1) (fun k h1 h2 _ => (both hdn hcs j j' rx ry k h1 h2).2)
    have e1 : its.toArray.size = ds.length := by simp; omega
    have e2 : its2.toArray.size = es.length := by simp; omega
    rw [e1, e2, walk_dors] at key
    simpa only [dor] using key
   | _ => simp [cmpb] at hc
end
section
variable {X : Cx}
theorem op_dor (o : Od) : OpR X (compareOp o.op) (fun x y H Q => ∃ d d' Z Z', In X.K H Z d x /\ In X.K H Z' d' y /\ cmpb d d' = true /\ X.A.units + d.dep < cLine /\ Q (.bl (dor o d d')) H) := by
 intro pins s σ H x y v u Q I rx ry h
 obtain ⟨d, d', Z, Z', i, i', hc, hu, q⟩ := h
 have key := roAt_D o I d.dep i i' rx ry hc (Nat.le_refl _) hu X.prog X.w X.xe (EP X pins σ Q) ⟨.bl (dor o d d'), H, I, rfl, q⟩
 cases o <;> exact key
variable {ρ : List (Option D)} {m1 m2 : Bool} {a b : Expr} {d d' : D} {pos : Pos}
theorem e_ltD (ha : E X m1 ρ a d) (hb : E X m2 ρ b d') (hp : cmpb d d' = true) (hu : X.A.units + d.dep < cLine) : E X true ρ (.Compare a [.Lt] [b] pos) (.bl (dor .lt d d')) :=
 e_cmp (op_dor .lt) ha hb (fun x y H Z Q _ i1 i2 k => ⟨d, d', Z, Z, i1, i2, hp, hu, k _ _ (Same.refl H) (in_bl.mpr rfl)⟩) (nomark _)
theorem t_ltD (ha : E X m1 ρ a d) (hb : E X m2 ρ b d') (hp : cmpb d d' = true) (hu : X.A.units + d.dep < cLine) : T X ρ (.Compare a [.Lt] [b] pos) (dor .lt d d') :=
 t_cmp (op_dor .lt) ha hb (fun x y H Z Q _ i1 i2 k => ⟨d, d', Z, Z, i1, i2, hp, hu, k _ (Same.refl H)⟩) (nomark _)
theorem e_leD (ha : E X m1 ρ a d) (hb : E X m2 ρ b d') (hp : cmpb d d' = true) (hu : X.A.units + d.dep < cLine) : E X true ρ (.Compare a [.LtE] [b] pos) (.bl (dor .le d d')) :=
 e_cmp (op_dor .le) ha hb (fun x y H Z Q _ i1 i2 k => ⟨d, d', Z, Z, i1, i2, hp, hu, k _ _ (Same.refl H) (in_bl.mpr rfl)⟩) (nomark _)
end
end Y
namespace Y
open PySem PySem.Spec PyProof.Rows L2
structure SB (kd : SortKind) (a0 : Array Keyed) (st : SortSt) : Prop where
 pm : (arrOf st).Perm a0
 kd : kindOf st = kd
 ok : failedOf st = none
 pd : pendingOf st = #[]
section
variable {kd : SortKind} {a0 : Array Keyed} {κ : PyProof.Rows.KeyKind} {st : SortSt}
theorem SB.sz (h : SB kd a0 st) : (arrOf st).size = a0.size := h.pm.size_eq
theorem SB.arr (h : SB kd a0 st) {xs : Array Keyed} (p : xs.Perm (arrOf st)) : SB kd a0 (setArr st xs) := ⟨p.trans h.pm, h.kd, h.ok, h.pd⟩
abbrev ky (κ : PyProof.Rows.KeyKind) (st : SortSt) (i : Nat) : κ.α := KK κ (arrOf st) i
abbrev Up (κ : PyProof.Rows.KeyKind) (st : SortSt) (n : Nat) : Prop := SortedToK κ (arrOf st) n
abbrev Down (κ : PyProof.Rows.KeyKind) (st : SortSt) (n : Nat) : Prop := NonIncK κ (arrOf st) n
theorem up_more {xs : Array Keyed} {n : Nat} (h : SortedToK κ xs n) (h1 : n = 0 \/ κ.kle (KK κ xs (n - 1)) (KK κ xs n)) : SortedToK κ xs (n + 1) := fun i j le lt => by
 rcases Nat.lt_or_ge j n with a | a
 . exact h i j le a
 . obtain rfl : j = n := by omega
   rcases Nat.lt_or_ge i j with b | b
   . rcases h1 with z | z
     . omega
     . exact KeyOrd.kle_trans (h i (j - 1) (by omega) (by omega)) z
   . obtain rfl : i = j := by omega
     exact KeyOrd.kle_refl _
theorem down_more {xs : Array Keyed} {n : Nat} (h : NonIncK κ xs n) (h1 : n = 0 \/ κ.kle (KK κ xs n) (KK κ xs (n - 1))) : NonIncK κ xs (n + 1) := fun i j le lt => by
 rcases Nat.lt_or_ge j n with a | a
 . exact h i j le a
 . obtain rfl : j = n := by omega
   rcases Nat.lt_or_ge i j with b | b
   . rcases h1 with z | z
     . omega
     . exact KeyOrd.kle_trans z (h i (j - 1) (by omega) (by omega))
   . obtain rfl : i = j := by omega
     exact KeyOrd.kle_refl _
theorem up_one {xs : Array Keyed} : SortedToK κ xs 1 := fun i j le lt => by
 obtain rfl : i = j := by omega
 exact KeyOrd.kle_refl _
theorem nonInc_congr {xs ys : Array Keyed} {n : Nat} (h : NonIncK κ xs n) (e : ∀ k, KK κ ys k = KK κ xs k) : NonIncK κ ys n := fun i j le lt => by
 rw [e, e]; exact h i j le lt
variable {prog : Program} {w : World} {A : Around} {E : Value -> Shared -> Prop} {s : Shared}
def Asks (κ : PyProof.Rows.KeyKind) (kd : SortKind) (a0 : Array Keyed) (prog : Program) (w : World) (A : Around) (E : Value -> Shared -> Prop) (s : Shared) : Prop :=
 ∀ (st : SortSt) (i j : Nat) (Q : Option Bool -> SortSt -> Prop), SB kd a0 st -> i < a0.size -> j < a0.size -> Q (some (κ.blt (ky κ st i) (ky κ st j))) st -> wpS (model prog w) A E s (ltAt' i j) Q st
theorem run_up (hA : Asks κ kd a0 prog w A E s) {a n : Nat} {Q : AscSt -> SortSt -> Prop} (hn : n <= a0.size) (ha : 1 <= a) (han : a <= n) (hB : SB kd a0 st) (hs : Up κ st a)
 (fin : ∀ m, a <= m -> m <= n -> Up κ st m -> (m = n \/ κ.klt (ky κ st m) (ky κ st (m - 1))) -> Q (none, m) st) : wpS (model prog w) A E s (ascLoop a n) Q st := by
 unfold ascLoop
 refine wpS_forRange (I := fun m c t => (t = st /\ c = (none, m)) /\ Up κ st m) (fun m c t g1 g2 ⟨⟨e1, e2⟩, up⟩ => ?_) (fun c t ⟨⟨e1, e2⟩, up⟩ => ?_) ⟨⟨rfl, rfl⟩, hs⟩
 . subst e1 e2
   dsimp only
   refine wpS_bind (hA t m (m - 1) _ hB (by omega) (by omega) ?_)
   cases q : κ.blt (ky κ t m) (ky κ t (m - 1)) with
   | true => dsimp only; rw [if_pos rfl]; exact wpS_pure (fin m g1 (by omega) up (.inr q))
   | false => dsimp only; rw [if_neg Bool.false_ne_true]; exact wpS_pure ⟨⟨rfl, rfl⟩, up_more up (.inr q)⟩
 . subst e1 e2
   have e : max a n = n := by omega
   rw [e] at up ⊢
   exact fin n han (Nat.le_refl n) up (.inl rfl)
theorem run_back (hA : Asks κ kd a0 prog w A E s) {m n : Nat} {Q : Option Nat -> SortSt -> Prop} (hn : n <= a0.size) (h1 : 1 <= m) (hm : m <= n) (hB : SB kd a0 st) (hs : Down κ st m)
 (fin : ∀ k t, SB kd a0 t -> 1 <= k -> k <= n -> Up κ t k -> Q (some k) t) : wpS (model prog w) A E s (tail3 m n) Q st := by
 unfold tail3
 have hz : m <= (arrOf st).size := by rw [hB.sz]; omega
 have hB2 := hB.arr (mirror_perm (arrOf st) 0 m ((m - 0) / 2))
 have up : Up κ (setArr st (mirror (arrOf st) 0 m ((m - 0) / 2))) m := fun i j le lt => by
  have e : ∀ k, k < m -> KK κ (mirror (arrOf st) 0 m ((m - 0) / 2)) k = KK κ (arrOf st) (0 + m - 1 - k) := fun k hk => by rw [KK_mirror hz, if_pos ⟨Nat.zero_le k, hk⟩]
  show κ.kle (KK κ (mirror (arrOf st) 0 m ((m - 0) / 2)) i) (KK κ (mirror (arrOf st) 0 m ((m - 0) / 2)) j)
  rw [e i (by omega), e j lt]
  exact hs _ _ (by omega) (by omega)
 exact wpS_bind (wpS_reverse (wpS_bind (run_up hA hn h1 hm hB2 up fun k a b c _ => wpS_pure (fin k _ hB2 (by omega) b c))))
theorem run_down (hA : Asks κ kd a0 prog w A E s) {m n : Nat} {Q : DescSt -> SortSt -> Prop} (hn : n <= a0.size) (h1 : 1 <= m) (hm : m <= n) (hB : SB kd a0 st) (hs : Down κ st m)
 (fin : ∀ k q t, SB kd a0 t -> m <= k -> k <= n -> Down κ t k -> q + 1 <= k -> (∀ i, k - (q + 1) <= i -> i < k -> ky κ t i = ky κ t (k - 1)) -> Q (none, k, q) t) : wpS (model prog w) A E s (descLoop m n) Q st := by
 unfold descLoop
 refine wpS_forRange (I := fun k c t => ∃ q, c = (none, k, q) /\ SB kd a0 t /\ Down κ t k /\ q + 1 <= k /\ ∀ i, k - (q + 1) <= i -> i < k -> ky κ t i = ky κ t (k - 1)) (fun k c t g1 g2 ⟨q, e, hb, dn, hq, same⟩ => ?_) (fun c t ⟨q, e, hb, dn, hq, same⟩ => ?_) ⟨0, rfl, hB, hs, by omega, fun i a b => by rw [show i = m - 1 by omega]⟩
 . subst e
   dsimp only
   have hz : k <= (arrOf t).size := by rw [hb.sz]; omega
   refine wpS_bind (hA t k (k - 1) _ hb (by omega) (by omega) ?_)
   cases lo : κ.blt (ky κ t k) (ky κ t (k - 1)) with
   | true =>
    dsimp only
    rw [if_pos rfl]
    have dn2 : Down κ t (k + 1) := down_more dn (.inr (KeyOrd.kle_of_klt lo))
    by_cases q0 : q > 0
    . rw [if_pos q0]
      exact wpS_bind (wpS_reverse (wpS_pure ⟨0, rfl, hb.arr (mirror_perm _ _ _ _), nonInc_congr dn2 (KK_mirror_equal hz same), by omega, fun i a b => by rw [show i = k + 1 - 1 by omega]⟩))
    . rw [if_neg q0]
      exact wpS_pure ⟨0, rfl, hb, dn2, by omega, fun i a b => by rw [show i = k + 1 - 1 by omega]⟩
   | false =>
    dsimp only
    rw [if_neg Bool.false_ne_true]
    refine wpS_bind (hA t (k - 1) k _ hb (by omega) (by omega) ?_)
    cases hi : κ.blt (ky κ t (k - 1)) (ky κ t k) with
    | true => dsimp only; rw [if_pos rfl]; exact wpS_pure (fin k q t hb g1 (by omega) dn hq same)
    | false =>
     dsimp only
     rw [if_neg Bool.false_ne_true]
     have eq : ky κ t k = ky κ t (k - 1) := KeyOrd.kle_antisymm hi lo
     refine wpS_pure ⟨q + 1, rfl, hb, down_more dn (.inr (by show κ.kle (ky κ t k) (ky κ t (k - 1)); rw [eq]; exact KeyOrd.kle_refl _)), by omega, fun i a b => ?_⟩
     have ek : k + 1 - 1 = k := by omega
     rw [ek]
     rcases Nat.lt_or_ge i k with z | z
     . rw [same i (by omega) z, eq]
     . rw [show i = k by omega]
 . subst e
   have e : max m n = n := by omega
   rw [e] at dn hq same ⊢
   exact fin n q t hb hm (Nat.le_refl n) dn hq same
theorem run_desc (hA : Asks κ kd a0 prog w A E s) {m n : Nat} {Q : Option Nat -> SortSt -> Prop} (hn : n <= a0.size) (hm : m + 1 <= n) (hB : SB kd a0 st) (hs : Down κ st (m + 1))
 (fin : ∀ k t, SB kd a0 t -> 1 <= k -> k <= n -> Up κ t k -> Q (some k) t) : wpS (model prog w) A E s (descPart m n) Q st := by
 unfold descPart
 refine wpS_bind (wpS_lift (wpAny_rule ⟨rfl, wpS_bind (run_down hA hn (by omega) hm hB hs fun k q t hb a b dn hq same => ?_)⟩))
 dsimp only
 have hz : k <= (arrOf t).size := by rw [hb.sz]; omega
 by_cases q0 : q > 0
 . rw [if_pos q0]
   exact wpS_bind (wpS_reverse (run_back hA hn (by omega) b (hb.arr (mirror_perm _ _ _ _)) (nonInc_congr dn (KK_mirror_equal hz same)) fin))
 . rw [if_neg q0]
   exact run_back hA hn (by omega) b hb dn fin
theorem run_count (hA : Asks κ kd a0 prog w A E s) {n : Nat} {Q : Option Nat -> SortSt -> Prop} (hn : n <= a0.size) (h1 : 1 <= n) (hB : SB kd a0 st)
 (fin : ∀ k t, SB kd a0 t -> 1 <= k -> k <= n -> Up κ t k -> Q (some k) t) : wpS (model prog w) A E s (countRun' 0 n) Q st := by
 rw [countRun0_eq]
 refine wpS_bind (run_up hA hn (Nat.le_refl 1) h1 hB up_one fun m a b up why => ?_)
 dsimp only
 by_cases all : m = n
 . rw [if_pos (by simpa using all)]
   exact wpS_pure (fin m st hB a b up)
 . rw [if_neg (by simpa using all)]
   have lo : κ.klt (ky κ st m) (ky κ st (m - 1)) := why.resolve_left all
   by_cases m1 : m > 1
   . rw [if_pos m1]
     refine wpS_bind (hA st 0 (m - 1) _ hB (by omega) (by omega) ?_)
     cases rose : κ.blt (ky κ st 0) (ky κ st (m - 1)) with
     | true => dsimp only; rw [if_pos rfl]; exact wpS_pure (fin m st hB a b up)
     | false =>
      dsimp only
      rw [if_neg Bool.false_ne_true]
      have hz : m <= (arrOf st).size := by rw [hB.sz]; omega
      have same : ∀ i, 0 <= i -> i < m -> KK κ (arrOf st) i = KK κ (arrOf st) (m - 1) := fun i _ im => KeyOrd.kle_antisymm (up i (m - 1) (by omega) (by omega)) (KeyOrd.kle_trans rose (up 0 i (by omega) im))
      have dn : Down κ st m := fun i j le lt => by rw [same i (by omega) (by omega), same j (by omega) lt]; exact KeyOrd.kle_refl _
      exact wpS_bind (wpS_reverse (run_desc hA hn (by omega) (hB.arr (mirror_perm _ _ _ _)) (nonInc_congr (down_more dn (.inr (KeyOrd.kle_of_klt lo))) (KK_mirror_equal hz same)) fin))
   . rw [if_neg m1]
     obtain rfl : m = 1 := by omega
     exact run_desc hA hn (by omega) hB (down_more (fun i j le lt => by rw [show i = j by omega]; exact KeyOrd.kle_refl _) (.inr (KeyOrd.kle_of_klt lo))) fin
theorem up_move {xs : Array Keyed} {k l : Nat} (hk : k < xs.size) (hl : l <= k) (up : SortedToK κ xs k) (below : ∀ i, i < l -> κ.kle (KK κ xs i) (KK κ xs k)) (above : ∀ i, l <= i -> i < k -> κ.klt (KK κ xs k) (KK κ xs i)) : SortedToK κ (bubble xs k (k - l)) (k + 1) := by
 have e : ∀ i, KK κ (bubble xs k (k - l)) i = if i = l then KK κ xs k else if l < i /\ i <= k then KK κ xs (i - 1) else KK κ xs i := fun i => by
  rw [KK_bubble hk (by omega), show k - (k - l) = l by omega]
 intro i j le lt
 rw [e, e]
 by_cases ji : j = l
 . rw [if_pos ji]
   by_cases ii : i = l
   . rw [if_pos ii]; exact KeyOrd.kle_refl _
   . rw [if_neg ii, if_neg (by omega)]; exact below i (by omega)
 . rw [if_neg ji]
   by_cases jl : l < j /\ j <= k
   . rw [if_pos jl]
     by_cases ii : i = l
     . rw [if_pos ii]; exact KeyOrd.kle_of_klt (above (j - 1) (by omega) (by omega))
     . rw [if_neg ii]
       by_cases il : l < i /\ i <= k
       . rw [if_pos il]; exact up _ _ (by omega) (by omega)
       . rw [if_neg il]; exact up _ _ (by omega) (by omega)
   . rw [if_neg jl, if_neg (by omega), if_neg (by omega)]; exact up _ _ le (by omega)
theorem run_ins (hA : Asks κ kd a0 prog w A E s) {n ok : Nat} {Q : Bool -> SortSt -> Prop} (hn : n <= a0.size) (hok : ok <= n) (hB : SB kd a0 st) (up0 : Up κ st ok) (fin : ∀ t, SB kd a0 t -> Up κ t n -> Q true t) : wpS (model prog w) A E s (binarySort' 0 n ok) Q st := by
 rw [binarySort'_eq]
 simp only [Nat.zero_add]
 have seek : ∀ (t : SortSt) (k : Nat), SB kd a0 t -> k < a0.size -> Up κ t k -> ∀ (R : Option Bool × Nat × Nat -> SortSt -> Prop), (∀ l r, l <= k -> (∀ i, i < l -> κ.kle (ky κ t i) (ky κ t k)) -> (∀ i, l <= i -> i < k -> κ.klt (ky κ t k) (ky κ t i)) -> R (none, l, r) t) ->
  wpS (model prog w) A E s (forIn [0:k] ((none, 0, k) : Option Bool × Nat × Nat) fun _ c => if c.2.1 ≥ c.2.2 then pure (ForInStep.done (none, c.2.1, c.2.2)) else do
   let x <- ltAt' k ((c.2.1 + c.2.2) / 2)
   match x with
   | some less => if less = true then pure (ForInStep.yield (none, c.2.1, (c.2.1 + c.2.2) / 2)) else pure (ForInStep.yield (none, (c.2.1 + c.2.2) / 2 + 1, c.2.2))
   | _ => pure (ForInStep.done (some false, c.2.1, c.2.2))) R t := by
  intro t k hb hk up R put
  refine wpS_forRange (I := fun x c t' => t' = t /\ ∃ l r, c = (none, l, r) /\ (l <= r /\ r <= k /\ r - l <= k - x) /\ (∀ i, i < l -> κ.kle (ky κ t i) (ky κ t k)) /\ ∀ i, r <= i -> i < k -> κ.klt (ky κ t k) (ky κ t i)) ?turn ?over ⟨rfl, 0, k, rfl, ⟨by omega, by omega, by omega⟩, fun i z => by omega, fun i z1 z2 => by omega⟩
  case turn =>
   rintro x c t' q1 q2 ⟨e1, l, r, e2, ⟨b1, b2, b3⟩, below, above⟩
   subst e1 e2
   dsimp only
   by_cases over : l ≥ r
   . rw [if_pos over]
     obtain rfl : l = r := by omega
     exact wpS_pure (put l l b2 below above)
   . rw [if_neg over]
     refine wpS_bind (hA t' k ((l + r) / 2) _ hb hk (by omega) ?_)
     cases less : κ.blt (ky κ t' k) (ky κ t' ((l + r) / 2)) with
     | true =>
      dsimp only
      rw [if_pos rfl]
      exact wpS_pure ⟨rfl, l, (l + r) / 2, rfl, ⟨by omega, by omega, by omega⟩, below, fun i z1 z2 => KeyOrd.klt_of_klt_of_kle less (up _ _ z1 z2)⟩
     | false =>
      dsimp only
      rw [if_neg Bool.false_ne_true]
      exact wpS_pure ⟨rfl, (l + r) / 2 + 1, r, rfl, ⟨by omega, by omega, by omega⟩, fun i z => KeyOrd.kle_trans (up i ((l + r) / 2) (by omega) (by omega)) less, above⟩
  case over =>
   rintro c t' ⟨e1, l, r, e2, ⟨b1, b2, b3⟩, below, above⟩
   subst e1 e2
   obtain rfl : l = r := by omega
   exact put l l b2 below above
 refine wpS_bind (wpS_mono (wpS_forRange (I := fun k c t => c = (none, ()) /\ SB kd a0 t /\ Up κ t (min k n)) (Q := fun c t => c = (none, ()) /\ SB kd a0 t /\ Up κ t n) ?turn ?over ?start) ?last)
 case last =>
  rintro c t ⟨e, hb, up⟩
  subst e
  exact wpS_pure (fin t hb up)
 case start =>
  refine ⟨rfl, hB, fun i j le lt => ?_⟩
  rcases Nat.eq_zero_or_pos ok with z | z
  . rw [show i = j by omega]; exact KeyOrd.kle_refl _
  . exact up0 i j le (by omega)
 case over =>
  rintro c t ⟨e, hb, up⟩
  rw [show min (max (max ok 1) n) n = n by omega] at up
  exact ⟨e, hb, up⟩
 case turn =>
  rintro k c t g1 g2 ⟨e, hb, up⟩
  subst e
  rw [show min k n = k by omega] at up
  refine wpS_bind (seek t k hb (by omega) up _ fun l r lk below above => ?_)
  show wpS _ _ _ _ (do moveDown' k l; pure (ForInStep.yield (none, ()))) _ _
  rw [moveDown'_eq]
  refine wpS_bind (wpS_modify (wpS_pure ⟨rfl, hb.arr (bubble_perm _ _ _), ?_⟩))
  rw [show min (k + 1) n = k + 1 by omega]
  exact up_move (by rw [hb.sz]; omega) lk up below above
theorem run_sort (hA : Asks κ kd a0 prog w A E s) {Q : Unit -> SortSt -> Prop} (h2 : 2 <= a0.size) (h64 : a0.size < 64) (hB : SB kd a0 st)
 (fin : ∀ t, (arrOf t).Perm a0 -> failedOf t = none -> Up κ t a0.size -> Q () t) : wpS (model prog w) A E s sortRuns' Q st := by
 rw [sortRuns'_eq]
 refine wpS_bind (wpS_get ?_)
 dsimp only
 have hmr : minRun' a0.size a0.size 0 = a0.size := by
  match hq : a0.size, h2 with
  | f + 1, _ => rw [minRun'_succ, if_pos (by omega)]
 simp only [hB.sz, hmr]
 refine wpS_bind (wpS_mono (wpS_forRange (I := fun x c t => (x = 0 /\ c = (none, 0) /\ SB kd a0 t) \/ (0 < x /\ c = (none, a0.size) /\ (arrOf t).Perm a0 /\ failedOf t = none /\ pendingOf t = #[(0, a0.size, 0)] /\ Up κ t a0.size))
  (Q := fun c t => c = (none, a0.size) /\ (arrOf t).Perm a0 /\ failedOf t = none /\ pendingOf t = #[(0, a0.size, 0)] /\ Up κ t a0.size) ?turn ?over (.inl ⟨rfl, rfl, hB⟩)) ?last)
 case turn =>
  rintro x c t g1 g2 (⟨rfl, rfl, hb⟩ | ⟨x0, rfl, rest⟩)
  . dsimp only
    rw [if_neg (by omega)]
    simp only [Nat.sub_zero, Nat.min_self, Nat.zero_add]
    have push : ∀ t' : SortSt, SB kd a0 t' -> Up κ t' a0.size -> (arrOf (setPending t' ((pendingOf t').push (0, a0.size, 0)))).Perm a0 /\ failedOf (setPending t' ((pendingOf t').push (0, a0.size, 0))) = none /\ pendingOf (setPending t' ((pendingOf t').push (0, a0.size, 0))) = #[(0, a0.size, 0)] /\ Up κ (setPending t' ((pendingOf t').push (0, a0.size, 0))) a0.size := fun t' b u =>
     ⟨b.pm, b.ok, by show (pendingOf t').push _ = _; rw [b.pd]; rfl, u⟩
    refine wpS_bind (run_count hA (Nat.le_refl _) (by omega) hb fun m t2 hb2 m1 m2 up2 => ?_)
    dsimp only
    by_cases few : m < a0.size
    . rw [if_pos few]
      refine wpS_bind (wpS_lift (wpAny_rule ⟨rfl, wpS_bind (run_ins hA (Nat.le_refl _) m2 hb2 up2 fun t3 hb3 up3 => ?_)⟩))
      simp only [Bool.not_true, Bool.false_eq_true, if_false]
      refine wpS_bind (wpS_get ?_)
      rw [show (pendingOf t3).back? = none by rw [hb3.pd]; rfl]
      dsimp only
      exact wpS_bind (wpS_modify (wpS_pure (.inr ⟨by omega, rfl, push t3 hb3 up3⟩)))
    . rw [if_neg few]
      obtain rfl : m = a0.size := by omega
      refine wpS_bind (wpS_get ?_)
      rw [show (pendingOf t2).back? = none by rw [hb2.pd]; rfl]
      dsimp only
      exact wpS_bind (wpS_modify (wpS_pure (.inr ⟨by omega, rfl, push t2 hb2 up2⟩)))
  . dsimp only
    rw [if_pos (Nat.le_refl _)]
    exact wpS_pure ⟨rfl, rest⟩
 case over =>
  rintro c t (⟨z, _⟩ | ⟨_, z⟩)
  . omega
  . exact z
 case last =>
  rintro c t ⟨e, p1, p2, p3, p4⟩
  subst e
  dsimp only
  refine wpS_bind (wpS_mono (wpS_forRange (I := fun _ c t' => t' = t /\ c = (none, ())) (Q := fun c t' => t' = t /\ c = (none, ())) ?one (fun _ _ q => q) ⟨rfl, rfl⟩) ?two)
  case one =>
   rintro x c t' _ _ ⟨e1, e2⟩
   subst e1 e2
   refine wpS_bind (wpS_get ?_)
   rw [if_pos (by rw [p3]; exact Nat.le_refl 1)]
   exact wpS_pure ⟨rfl, rfl⟩
  case two =>
   rintro c t' ⟨e1, e2⟩
   subst e1 e2
   exact wpS_pure (fin _ p1 p2 p4)
end
end Y
namespace Y
open PySem PySem.Spec PyProof.Rows L2 PySem.SeqAt
variable [Tabs]
structure Lin (P : D -> Prop) : Prop where
 ir : ∀ a, P a -> dor .lt a a = false
 tr : ∀ a b c, P a -> P b -> P c -> dor .lt a b = true -> dor .lt b c = true -> dor .lt a c = true
 tt : ∀ a b, P a -> P b -> dor .lt a b = false -> dor .lt b a = false -> a = b
 cm : ∀ a b, P a -> P b -> cmpb a b = true
 eq : ∀ a b, P a -> P b -> deq a b = true -> a = b
def Fts : (Nat -> D -> Prop) -> List D -> Prop
 | _, [] => True
 | P, d :: ds => P 0 d /\ Fts (fun i => P (i + 1)) ds
theorem fits_all {P : D -> Prop} : ∀ {ds : List D}, (∀ d ∈ ds, P d) -> Fts (fun _ => P) ds
 | [], _ => trivial
 | d :: ds, h => ⟨h d (by simp), fits_all fun x hx => h x (by simp [hx])⟩
theorem fits_ir : ∀ {P : Nat -> D -> Prop}, (∀ i, Lin (P i)) -> ∀ ds, Fts P ds -> dors .lt ds ds = false
 | P, L, [], _ => by simp [dors, Od.sz]
 | P, L, d :: ds, h => by
  unfold dors
  rw [deq_refl, if_pos rfl]
  exact fits_ir (fun i => L (i + 1)) ds h.2
theorem fits_eq : ∀ {P : Nat -> D -> Prop}, (∀ i, Lin (P i)) -> ∀ ds es, Fts P ds -> Fts P es -> deqs ds es = true -> ds = es
 | P, L, [], [], _, _, _ => rfl
 | P, L, [], e :: es, _, _, h => by simp [deqs] at h
 | P, L, d :: ds, [], _, _, h => by simp [deqs] at h
 | P, L, d :: ds, e :: es, h1, h2, h => by
  rw [deqs, Bool.and_eq_true] at h
  rw [(L 0).eq d e h1.1 h2.1 h.1, fits_eq (fun i => L (i + 1)) ds es h1.2 h2.2 h.2]
theorem fits_cm : ∀ {P : Nat -> D -> Prop}, (∀ i, Lin (P i)) -> ∀ ds es, Fts P ds -> Fts P es -> cmpbs ds es = true
 | P, L, [], es, _, _ => by simp [cmpbs]
 | P, L, d :: ds, [], _, _ => by simp [cmpbs]
 | P, L, d :: ds, e :: es, h1, h2 => by
  rw [cmpbs, (L 0).cm d e h1.1 h2.1, fits_cm (fun i => L (i + 1)) ds es h1.2 h2.2]; rfl
theorem fits_tt : ∀ {P : Nat -> D -> Prop}, (∀ i, Lin (P i)) -> ∀ ds es, Fts P ds -> Fts P es -> dors .lt ds es = false -> dors .lt es ds = false -> ds = es
 | P, L, [], [], _, _, _, _ => rfl
 | P, L, [], e :: es, _, _, h, _ => by simp [dors, Od.sz] at h
 | P, L, d :: ds, [], _, _, _, h => by simp [dors, Od.sz] at h
 | P, L, d :: ds, e :: es, h1, h2, ha, hb => by
  unfold dors at ha hb
  cases q : deq d e with
  | true =>
   obtain rfl := (L 0).eq d e h1.1 h2.1 q
   rw [deq_refl, if_pos rfl] at ha hb
   rw [fits_tt (fun i => L (i + 1)) ds es h1.2 h2.2 ha hb]
  | false =>
   have q2 : deq e d = false := by
    cases z : deq e d with
    | false => rfl
    | true => obtain rfl := (L 0).eq e d h2.1 h1.1 z; rw [deq_refl] at q; cases q
   rw [q] at ha; rw [q2] at hb
   rw [if_neg Bool.false_ne_true] at ha hb
   obtain rfl := (L 0).tt d e h1.1 h2.1 ha hb
   rw [deq_refl] at q; cases q
theorem fits_tr : ∀ {P : Nat -> D -> Prop}, (∀ i, Lin (P i)) -> ∀ ds es fs, Fts P ds -> Fts P es -> Fts P fs -> dors .lt ds es = true -> dors .lt es fs = true -> dors .lt ds fs = true
 | P, L, ds, [], fs, _, _, _, h, _ => by cases ds <;> simp [dors, Od.sz] at h
 | P, L, ds, e :: es, [], _, _, _, _, h => by simp [dors, Od.sz] at h
 | P, L, [], e :: es, f :: fs, _, _, _, _, _ => by simp [dors, Od.sz]
 | P, L, d :: ds, e :: es, f :: fs, h1, h2, h3, ha, hb => by
  unfold dors at ha hb ⊢
  have no : ∀ {x y : D}, P 0 x -> P 0 y -> dor .lt x y = true -> deq x y = false := fun {x y} px py lt => by
   cases z : deq x y with
   | false => rfl
   | true => obtain rfl := (L 0).eq x y px py z; rw [(L 0).ir x px] at lt; cases lt
  cases q : deq d e with
  | true =>
   obtain rfl := (L 0).eq d e h1.1 h2.1 q
   rw [q, if_pos rfl] at ha
   cases q2 : deq d f with
   | true =>
    rw [q2, if_pos rfl] at hb
    rw [if_pos rfl]
    exact fits_tr (fun i => L (i + 1)) ds es fs h1.2 h2.2 h3.2 ha hb
   | false => rw [q2] at hb; exact hb
  | false =>
   rw [q, if_neg Bool.false_ne_true] at ha
   cases q2 : deq e f with
   | true =>
    obtain rfl := (L 0).eq e f h2.1 h3.1 q2
    rw [q, if_neg Bool.false_ne_true]
    exact ha
   | false =>
    rw [q2, if_neg Bool.false_ne_true] at hb
    have lt := (L 0).tr d e f h1.1 h2.1 h3.1 ha hb
    rw [no h1.1 h3.1 lt, if_neg Bool.false_ne_true]
    exact lt
def isInt (d : D) : Prop := ∃ i, d = .int i
def isStr (d : D) : Prop := ∃ x, d = .str x
def isLst (P : D -> Prop) (d : D) : Prop := ∃ ds, d = .lst ds /\ Fts (fun _ => P) ds
def isTup (P : Nat -> D -> Prop) (d : D) : Prop := ∃ ds, d = .tup ds /\ Fts P ds
def pr2 (A B : D -> Prop) : Nat -> D -> Prop
 | 0 => A
 | _ + 1 => B
theorem lin_int : Lin isInt where
 ir := by rintro _ ⟨i, rfl⟩; simp [dor, Od.int]
 tr := by rintro _ _ _ ⟨i, rfl⟩ ⟨j, rfl⟩ ⟨k, rfl⟩ a b; simp [dor, Od.int] at *; omega
 tt := by rintro _ _ ⟨i, rfl⟩ ⟨j, rfl⟩ a b; simp [dor, Od.int] at *; omega
 cm := by rintro _ _ ⟨i, rfl⟩ ⟨j, rfl⟩; rfl
 eq := by rintro _ _ ⟨i, rfl⟩ ⟨j, rfl⟩ a; simpa [deq] using a
theorem lin_str : Lin isStr where
 ir := by
  rintro _ ⟨i, rfl⟩
  have h : ¬ cl i < cl i := List.lt_irrefl _
  simp [dor, Od.str, h]
 tr := by
  rintro _ _ _ ⟨i, rfl⟩ ⟨j, rfl⟩ ⟨k, rfl⟩ a b
  simp only [dor, Od.str, decide_eq_true_eq] at *
  exact List.lt_trans a b
 tt := by
  rintro _ _ ⟨i, rfl⟩ ⟨j, rfl⟩ a b
  simp only [dor, Od.str, decide_eq_false_iff_not] at *
  rw [cl_inj (List.le_antisymm (List.not_lt.mp b) (List.not_lt.mp a))]
 cm := by rintro _ _ ⟨i, rfl⟩ ⟨j, rfl⟩; rfl
 eq := by rintro _ _ ⟨i, rfl⟩ ⟨j, rfl⟩ a; simpa [deq] using a
theorem lin_lst {P : D -> Prop} (L : Lin P) : Lin (isLst P) where
 ir := by rintro _ ⟨i, rfl, h⟩; simp only [dor]; exact fits_ir (fun _ => L) _ h
 tr := by rintro _ _ _ ⟨i, rfl, h1⟩ ⟨j, rfl, h2⟩ ⟨k, rfl, h3⟩ a b; simp only [dor] at *; exact fits_tr (fun _ => L) _ _ _ h1 h2 h3 a b
 tt := by rintro _ _ ⟨i, rfl, h1⟩ ⟨j, rfl, h2⟩ a b; simp only [dor] at *; rw [fits_tt (fun _ => L) _ _ h1 h2 a b]
 cm := by rintro _ _ ⟨i, rfl, h1⟩ ⟨j, rfl, h2⟩; simp only [cmpb]; exact fits_cm (fun _ => L) _ _ h1 h2
 eq := by rintro _ _ ⟨i, rfl, h1⟩ ⟨j, rfl, h2⟩ a; simp only [deq] at a; rw [fits_eq (fun _ => L) _ _ h1 h2 a]
theorem lin_tup {P : Nat -> D -> Prop} (L : ∀ i, Lin (P i)) : Lin (isTup P) where
 ir := by rintro _ ⟨i, rfl, h⟩; simp only [dor]; exact fits_ir L _ h
 tr := by rintro _ _ _ ⟨i, rfl, h1⟩ ⟨j, rfl, h2⟩ ⟨k, rfl, h3⟩ a b; simp only [dor] at *; exact fits_tr L _ _ _ h1 h2 h3 a b
 tt := by rintro _ _ ⟨i, rfl, h1⟩ ⟨j, rfl, h2⟩ a b; simp only [dor] at *; rw [fits_tt L _ _ h1 h2 a b]
 cm := by rintro _ _ ⟨i, rfl, h1⟩ ⟨j, rfl, h2⟩; simp only [cmpb]; exact fits_cm L _ _ h1 h2
 eq := by rintro _ _ ⟨i, rfl, h1⟩ ⟨j, rfl, h2⟩ a; simp only [deq] at a; rw [fits_eq L _ _ h1 h2 a]
theorem lin_pr2 {A B : D -> Prop} (a : Lin A) (b : Lin B) : ∀ i, Lin (pr2 A B i)
 | 0 => a
 | _ + 1 => b
section
variable {X : Cx} {pins : List (Addr × Obj)} {σ : St} {H : Hp} {s : Shared} {Z Z' : Zone}
theorem in_one (I : Inv X pins σ H s) : ∀ (n : Nat) {d d' : D} {v : V}, d.dep <= n -> In X.K H Z d v -> In X.K H Z' d' v -> d = d' := fun _ _ _ _ _ i i' => In.inj I i i'
def Tells (K : Frag) (H : Hp) (Z : Zone) (u : Value) (d : D) : Prop := ∃ v, RelV v u /\ In K H Z d v
theorem Tells.one (I : Inv X pins σ H s) {u : Value} {d d' : D} (a : Tells X.K H Z u d) (b : Tells X.K H Z' u d') : d = d' := by
 obtain ⟨v, r, i⟩ := a
 obtain ⟨v', r', i'⟩ := b
 cases r.inj r'
 exact in_one I d.dep (Nat.le_refl _) i i'
end
def OneL (b : Bool) (A : Around) (s : Shared) (x y : Value) (r : Bool) : Prop :=
 ∀ (prog : Program) (w : World) (E : Value -> Shared -> Prop) (Q : Bool -> Shared -> Prop), Q r s -> wpAny (model prog w) A (oneLt' b x y) Q E s
def KeyL (kd : SortKind) (A : Around) (s : Shared) (x y : Value) (r : Bool) : Prop :=
 ∀ (prog : Program) (w : World) (E : Value -> Shared -> Prop) (Q : Bool -> Shared -> Prop), Q r s -> wpAny (model prog w) A (keyLt' kd x y) Q E s
section
variable {X : Cx} {pins : List (Addr × Obj)} {σ : St} {H : Hp} {s : Shared} {Z Z' : Zone} {A : Around}
theorem oneL_ro {x y : Value} {r : Bool} (h : RoAt .Lt A s x y r) : OneL false A s x y r := fun prog w E Q q => by
 rw [oneLt'_eq]
 simp only [Bool.false_eq_true, if_false]
 exact wpAny_bind (h prog w E _ (wpAny_truthy_bool q))
theorem oneL_list {l b : Addr} {its its2 : Array Value} {e r : Nat -> Bool} (hl : s.heap.IsList l its) (hb : s.heap.IsList b its2) (hu : A.units < cLine)
 (he : ∀ j (h1 : j < its.size) (h2 : j < its2.size), EqAt A.in1 s its[j] its2[j] (e j)) (ho : ∀ j (h1 : j < its.size) (h2 : j < its2.size), e j = false -> RoAt .Lt A.in1 s its[j] its2[j] (r j)) :
 OneL true A s (.ref l) (.ref b) (walkB e r (decide (its.size < its2.size)) (List.range (min its.size its2.size))) := fun prog w E Q h => by
 obtain ⟨⟨cls, dd, data, sl⟩, g1, hc, n, hd⟩ := id hl
 obtain ⟨⟨cls2, dd2, data2, sl2⟩, g2, hc2, n2, hd2⟩ := id hb
 simp only at hc hd hc2 hd2
 subst hc hd hc2 hd2
 rw [oneLt'_eq]
 simp only [if_true]
 refine wpAny_bind (wpAny_cRoomFor hu ?_)
 refine wpAny_bind (wpAny_callSpecialIfBound?_slot (T := "list") ⟨_, g1, rfl⟩ F.slot_list_lt (call_meets F.slot_list_lt ⟨_, g1, rfl⟩ F.entry_list_lt (F.args_list_lt_2 _ _) (listLt l b its its2 n n2 dd dd2 sl sl2 e r) ⟨g1, g2, he, ho, ?_⟩))
 exact wpAny_truthy_bool h
def plainK : D -> Bool
 | .int _ => true
 | .str _ => true
 | .lst _ => true
 | _ => false
theorem oneL_D (b : Bool) (I : Inv X pins σ H s) {d d' : D} {u u' : Value} (t : Tells X.K H Z u d) (t' : Tells X.K H Z' u' d') (hc : cmpb d d' = true) (hp : plainK d = true) (hu : A.units + d.dep < cLine) : OneL b A s u u' (dor .lt d d') := by
 obtain ⟨v, r, i⟩ := t
 obtain ⟨v', r', i'⟩ := t'
 cases b with
 | false => exact oneL_ro (roAt_D .lt I d.dep i i' r r' hc (Nat.le_refl _) hu)
 | true =>
  cases d with
  | int x =>
   cases d' <;> simp [cmpb] at hc
   cases in_int.mp i
   cases in_int.mp i'
   obtain ⟨t, rfl⟩ := r
   obtain ⟨t', rfl⟩ := r'
   simp only [dor]
   exact fun prog w E Q q => oneLt_int q
  | str x =>
   cases d' <;> simp [cmpb] at hc
   cases in_str.mp i
   cases in_str.mp i'
   obtain ⟨t, rfl⟩ := r
   obtain ⟨t', rfl⟩ := r'
   simp only [dor]
   exact fun prog w E Q q => oneLt_str q
  | lst ds =>
   cases d' with
   | lst es =>
    have hcs : cmpbs ds es = true := by simpa [cmpb] using hc
    have hu' : A.units + (deps ds + 1) < cLine := by unfold D.dep at hu; exact hu
    have hu1 : A.in1.units + deps ds < cLine := by show A.units + 1 + deps ds < cLine; omega
    obtain ⟨a, xs, rfl, l, j⟩ := in_lst.mp i
    obtain ⟨a', ys, rfl, l', j'⟩ := in_lst.mp i'
    cases r
    cases r'
    obtain ⟨its, rx, pl, _⟩ := I.list l.sq
    obtain ⟨its2, ry, pl2, _⟩ := I.list l'.sq
    have z1 := j.length; have z2 := j'.length; have z3 := rx.length; have z4 := ry.length
    have both : ∀ k (h1 : k < its.toArray.size) (h2 : k < its2.toArray.size), EqAt A.in1 s its.toArray[k] its2.toArray[k] (deq (ds.getD k .non) (es.getD k .non)) /\ RoAt .Lt A.in1 s its.toArray[k] its2.toArray[k] (dor .lt (ds.getD k .non) (es.getD k .non)) := fun k h1 h2 => by
     simp at h1 h2
     have k1 : k < ds.length := by omega
     have k2 : k < es.length := by omega
     obtain ⟨x, ex, ix⟩ := j.get (i := k) (d := ds[k]) (by simp [k1])
     obtain ⟨y, ey, iy⟩ := j'.get (i := k) (d := es[k]) (by simp [k2])
     obtain ⟨w1, f1, q1⟩ := rx.get ex
     obtain ⟨w2, f2, q2⟩ := ry.get ey
     have g1 : its.toArray[k] = w1 := by
      have t := (List.getElem?_eq_some_iff.mp f1).2
      simpa using t
     have g2 : its2.toArray[k] = w2 := by
      have t := (List.getElem?_eq_some_iff.mp f2).2
      simpa using t
     have hck := cmpbs_at ds es hcs k k1 k2
     have e1 : ds.getD k .non = ds[k] := by simp [k1]
     have e2 : es.getD k .non = es[k] := by simp [k2]
     rw [e1, e2] at hck ⊢
     rw [g1, g2]
     have hdk := deps_mem (getElem_mem k1)
     exact ⟨eqAt_D I _ ix iy q1 q2 hdk hu1, roAt_D .lt I _ ix iy q1 q2 hck hdk hu1⟩
    have key := oneL_list (A := A) (e := fun k => deq (ds.getD k .non) (es.getD k .non)) (r := fun k => dor .lt (ds.getD k .non) (es.getD k .non)) pl.isList pl2.isList (by omega) (fun k h1 h2 => (both k h1 h2).1) (fun k h1 h2 _ => (both k h1 h2).2)
    have e1 : its.toArray.size = ds.length := by simp; omega
    have e2 : its2.toArray.size = es.length := by simp; omega
    rw [e1, e2] at key
    have key2 := walk_dors .lt ds es
    simp only [Od.sz] at key2
    rw [key2] at key
    simpa only [dor] using key
   | _ => simp [cmpb] at hc
  | _ => simp [plainK] at hp
inductive Cmps (A : Around) (s : Shared) (b : Bool) : Nat -> List Value -> List Value -> List D -> List D -> Prop
 | nil {n : Nat} {us ws : List Value} {ds es : List D} (h : us.zip ws = []) (g : us.length = ds.length) (g2 : ws.length = es.length) : Cmps A s b n us ws ds es
 | cons {n : Nat} {u w : Value} {us ws : List Value} {d e : D} {ds es : List D} (h : EqAt A s u w (deq d e)) (o : deq d e = false -> OneL (b && n == 0) A s u w (dor .lt d e)) (t : Cmps A s b (n + 1) us ws ds es) : Cmps A s b n (u :: us) (w :: ws) (d :: ds) (e :: es)
theorem keyL_walk {b : Bool} {x y : Addr} {us ws : List Value} {ds es : List D} (hx : s.heap.IsTuple x us.toArray) (hy : s.heap.IsTuple y ws.toArray) (c : Cmps A s b 0 us ws ds es) (l1 : us.length = ds.length) (l2 : ws.length = es.length) : KeyL (tuples' b) A s (.ref x) (.ref y) (dors .lt ds es) := by
 intro prog w E Q q
 obtain ⟨o, h1, h2, n1, h3⟩ := hx
 obtain ⟨o', h1', h2', n1', h3'⟩ := hy
 show wpAny _ _ (do
  let xs <- Builtin.List.listItems (.ref x); let ys <- Builtin.List.listItems (.ref y)
  for ((p, q), i) in (xs.toList.zip ys.toList).zipIdx do
   if !(<- eqBool p q) then return <- oneLt' (b && i == 0) p q
  return decide (xs.size < ys.size)) _ _ _
 refine wpAny_bind (listItems_at h1 h3 ?_)
 refine wpAny_bind (listItems_at h1' h3' ?_)
 have walk : ∀ {n : Nat} {us' ws' : List Value} {ds' es' : List D}, Cmps A s b n us' ws' ds' es' -> ∀ (R : Option Bool × PUnit -> Shared -> Prop),
  (∀ r, (r = none -> dors .lt ds' es' = decide (us'.length < ws'.length)) -> (∀ v, r = some v -> v = dors .lt ds' es') -> R (r, ⟨⟩) s) ->
  wpAny (model prog w) A (forIn ((us'.zip ws').zipIdx n) ((none, ⟨⟩) : Option Bool × PUnit) fun x c => do
   let r <- eqBool x.1.1 x.1.2
   if (!r) = true then do let z <- oneLt' (b && x.2 == 0) x.1.1 x.1.2; pure (ForInStep.done (some z, ⟨⟩)) else pure (ForInStep.yield (none, ⟨⟩))) R E s := by
  intro n us' ws' ds' es' c
  induction c with
  | nil h g g2 =>
   intro R k
   rw [h]
   refine wpAny_pure (k none (fun z0 => ?_) (fun v e => nomatch e))
   rename_i us' ws' ds' es'
   cases us' with
   | nil =>
    cases ds' with
    | nil => simp [dors, Od.sz, g2]
    | cons _ _ => simp at g
   | cons _ _ =>
    cases ws' with
    | cons _ _ => simp at h
    | nil =>
     cases es' with
     | cons _ _ => simp at g2
     | nil =>
      cases ds' with
      | nil => simp [dors, Od.sz]
      | cons _ _ => simp [dors, Od.sz]
  | cons h o t ih =>
   intro R k
   rename_i n' u w' us2 ws2 d e ds2 es2
   simp only [List.zip_cons_cons, List.zipIdx_cons, List.forIn_cons]
   refine wpAny_bind (wpAny_bind (h prog w E _ ?_))
   cases hq : deq d e with
   | true =>
    simp only [Bool.not_true, Bool.false_eq_true, if_false]
    refine wpAny_pure ?_
    dsimp only
    refine ih R fun r a1 a2 => k r (fun z => ?_) (fun v z => ?_)
    . rw [dors, hq, if_pos rfl, a1 z]; simp
    . rw [dors, hq, if_pos rfl]; exact a2 v z
   | false =>
    simp only [Bool.not_false, if_true]
    refine wpAny_bind (o hq prog w E _ (wpAny_pure ?_))
    dsimp only
    refine wpAny_pure (k _ (fun z => nomatch z) fun v z => ?_)
    cases z
    rw [dors, hq, if_neg Bool.false_ne_true]
 refine wpAny_bind (walk c _ fun r a1 a2 => ?_)
 cases r with
 | none =>
  dsimp only
  refine wpAny_pure ?_
  rw [a1 rfl] at q
  simpa using q
 | some v =>
  dsimp only
  refine wpAny_pure ?_
  rw [a2 v rfl]; exact q
end
section
variable {X : Cx} {pins : List (Addr × Obj)} {σ : St} {H : Hp} {s : Shared} {Z Z' : Zone} {A : Around}
theorem keyL_tail (I : Inv X pins σ H s) {b : Bool} : ∀ {ds es : List D} {xs ys : List V} {us ws : List Value} (n : Nat), Ins X.K H Z ds xs -> Ins X.K H Z' es ys -> Vals xs us -> Vals ys ws -> cmpbs ds es = true -> (n = 0 -> b = true -> ∀ d r, ds = d :: r -> plainK d = true) -> A.units + deps ds < cLine -> Cmps A s b n us ws ds es := by
 intro ds
 induction ds with
 | nil =>
  intro es xs ys us ws n j j' r r' _ _ _
  have z1 := j.length; have z2 := j'.length; have z3 := r.length; have z4 := r'.length
  have u0 : us = [] := List.length_eq_zero_iff.mp (by simp at z1; omega)
  subst u0
  exact .nil rfl rfl (by omega)
 | cons d ds ih =>
  intro es xs ys us ws n j j' r r' hc hp hu
  cases es with
  | nil =>
   have z1 := j.length; have z2 := j'.length; have z3 := r.length; have z4 := r'.length
   have u0 : ws = [] := List.length_eq_zero_iff.mp (by simp at z2; omega)
   subst u0
   exact .nil (by simp) (by omega) rfl
  | cons e es =>
   obtain ⟨x, xs', rfl, i, j⟩ := ins_cons.mp j
   obtain ⟨y, ys', rfl, i', j'⟩ := ins_cons.mp j'
   cases r with
   | cons q r =>
   cases r' with
   | cons q' r' =>
   rw [cmpbs, Bool.and_eq_true] at hc
   have hm : A.units + max d.dep (deps ds) < cLine := by unfold deps at hu; exact hu
   refine .cons (eqAt_D I _ i i' q q' (Nat.le_refl _) (by omega)) (fun _ => ?_) (ih (n + 1) j j' r r' hc.2 (fun z => by omega) (by omega))
   cases n with
   | succ n =>
    have e : (b && n + 1 == 0) = false := by cases b <;> simp
    rw [e]
    exact oneL_ro (roAt_D .lt I _ i i' q q' hc.1 (Nat.le_refl _) (by omega))
   | zero =>
    cases b with
    | false => exact oneL_ro (roAt_D .lt I _ i i' q q' hc.1 (Nat.le_refl _) (by omega))
    | true => exact oneL_D true I ⟨_, q, i⟩ ⟨_, q', i'⟩ hc.1 (hp rfl rfl d ds rfl) (by omega)
theorem keyL_D {b : Bool} (I : Inv X pins σ H s) {ds es : List D} {u u' : Value} (t : Tells X.K H Z u (.tup ds)) (t' : Tells X.K H Z' u' (.tup es)) (hc : cmpb (.tup ds) (.tup es) = true) (hp : b = true -> ∀ d r, ds = d :: r -> plainK d = true) (hu : A.units + deps ds < cLine) : KeyL (tuples' b) A s u u' (dor .lt (.tup ds) (.tup es)) := by
 obtain ⟨v, r, i⟩ := t
 obtain ⟨v', r', i'⟩ := t'
 obtain ⟨a, xs, rfl, l, j⟩ := in_tupS i
 obtain ⟨a', ys, rfl, l', j'⟩ := in_tupS i'
 cases r
 cases r'
 obtain ⟨its, rx, pl, _⟩ := I.tuple l
 obtain ⟨its2, ry, pl2, _⟩ := I.tuple l'
 have z1 := j.length; have z2 := j'.length; have z3 := rx.length; have z4 := ry.length
 simp only [dor]
 exact keyL_walk pl pl2 (keyL_tail I 0 j j' rx ry (by simpa [cmpb] using hc) (fun _ => hp) hu) (by omega) (by omega)
theorem keyL_one (I : Inv X pins σ H s) {d d' : D} {u u' : Value} (t : Tells X.K H Z u d) (t' : Tells X.K H Z' u' d') (hc : cmpb d d' = true) (hp : plainK d = true) (hu : A.units + d.dep < cLine) : KeyL oneType' A s u u' (dor .lt d d') := fun prog w E Q q => by
 rw [keyLt'_oneType]
 exact oneL_D true I t t' hc hp hu prog w E Q q
def tyD : D -> String
 | .int _ => "int"
 | .str _ => "str"
 | .lst _ => "list"
 | _ => "tuple"
theorem ty_D (I : Inv X pins σ H s) {d : D} {u : Value} (t : Tells X.K H Z u d) (hp : plainK d = true \/ ∃ ds, d = .tup ds) : s.TypeIs u (tyD d) := by
  obtain ⟨v, r, i⟩ := t
  cases d with
  | dct x => rcases hp with h | ⟨_, h⟩
             . exact absurd h (by simp [plainK])
             . cases h
  | agg s x => exact absurd i in_agg
  | ktup x => rcases hp with h | ⟨_, h⟩
              . exact absurd h (by simp [plainK])
              . cases h
  | int x => cases in_int.mp i; obtain ⟨t, rfl⟩ := r; exact typeIs_int s x t
  | str x => cases in_str.mp i; obtain ⟨t, rfl⟩ := r; exact typeIs_str s x t
  | lst ds =>
    obtain ⟨a, xs, rfl, l, j⟩ := in_lst.mp i
    cases r
    obtain ⟨its, rx, pl, _⟩ := I.list l.sq
    obtain ⟨o, h1, h2, n1, h3⟩ := pl.isList
    exact ⟨o, h1, h2⟩
  | tup ds =>
    obtain ⟨a, xs, rfl, l, j⟩ := in_tupS i
    cases r
    obtain ⟨its, rx, pl, _⟩ := I.tuple l
    obtain ⟨o, h1, h2, n1, h3⟩ := pl
    exact ⟨o, h1, h2⟩
  | non => simp [plainK] at hp
  | bl _ => simp [plainK] at hp
variable {M : Model} {E : Value -> Shared -> Prop}
theorem mapM_ex {α β : Type} {f : α -> Sem β} {P : β -> Prop} : ∀ (l : List α) {Q : List β -> Shared -> Prop}, (∀ x ∈ l, ∃ y, P y /\ ∀ Q' : β -> Shared -> Prop, Q' y s -> wpAny M A (f x) Q' E s) -> (∀ ys : List β, ys.length = l.length -> (∀ y ∈ ys, P y) -> Q ys s) -> wpAny M A (l.mapM f) Q E s
 | [], Q, h, k => by rw [List.mapM_nil]; exact wpAny_pure (k [] rfl (by simp))
 | x :: l, Q, h, k => by
  obtain ⟨y, p, w⟩ := h x (by simp)
  rw [List.mapM_cons]
  refine wpAny_bind (w _ (wpAny_bind (mapM_ex l (fun z hz => h z (by simp [hz])) fun ys e ps => wpAny_pure (k (y :: ys) (by simp [e]) fun z hz => ?_))))
  rcases mem_cons.mp hz with rfl | hz
  . exact p
  . exact ps z hz
theorem oneType_ok {T : String} {vs : List Value} {Q : Option Value -> Shared -> Prop} (hT : (Value.type T == Value.type T) = true) (h : ∀ v ∈ vs, s.TypeIs v T) (h0 : vs ≠ []) (q : Q (some (.type T)) s) : wpAny M A (oneTypeOnly' vs.toArray) Q E s := by
 rw [oneTypeOnly'_eq, List.mapM_toArray]
 refine wpAny_bind ?_
 rw [map_eq_pure_bind]
 refine wpAny_bind (mapM_ex (P := fun y => y = Value.type T) vs (fun v hv => ⟨_, rfl, fun Q' z => wpAny_typeOf (h v hv) z⟩) fun ys e ps => wpAny_pure ?_)
 cases ys with
 | nil => exact absurd (List.length_eq_zero_iff.mp e.symm) h0
 | cons y ys =>
  obtain rfl := ps y (by simp)
  have all : (Value.type T :: ys).toArray.all (fun x => x == Value.type T) = true := by
   simp only [List.all_toArray, List.all_eq_true]
   intro z hz
   rw [ps z hz]; exact hT
  have e0 : (Value.type T :: ys).toArray[0]? = some (Value.type T) := by simp
  rw [e0]
  dsimp only
  rw [all, if_pos rfl]
  exact wpAny_pure q
theorem kind_tup {T : String} {us : List Value} {Q : SortKind -> Shared -> Prop} (hT : (Value.type T == Value.type T) = true) (hn : (Value.type T != Value.type "tuple") = true) (h0 : us ≠ [])
 (h : ∀ u ∈ us, ∃ a x its, u = .ref a /\ s.heap.IsTuple a (x :: its).toArray /\ s.TypeIs x T) (q : Q (tuples' true) s) : wpAny M A (keyKind' us.toArray) Q E s := by
 rw [keyKind'_eq, List.mapM_toArray]
 refine wpAny_bind ?_
 rw [map_eq_pure_bind]
 refine wpAny_bind (mapM_ex (P := fun y => ∃ x, y = some x /\ s.TypeIs x T) us (fun u hu => ?_) fun ys e ps => wpAny_pure ?_)
 . obtain ⟨a, x, its, rfl, ⟨o, h1, h2, n1, h3⟩, tx⟩ := h u hu
   refine ⟨some x, ⟨x, rfl, tx⟩, fun Q' z => ?_⟩
   show wpAny _ _ (do
    if (<- typeOf (.ref a)) != .type "tuple" then return none
    return (<- Builtin.List.listItems (.ref a))[0]?) _ _ _
   refine wpAny_bind (wpAny_typeOf (T := "tuple") ⟨o, h1, h2⟩ ?_)
   have e : (Value.type "tuple" != Value.type "tuple") = false := by rfl
   rw [e, if_neg Bool.false_ne_true]
   refine wpAny_bind (listItems_at h1 h3 (wpAny_pure ?_))
   simpa using z
 . have all : ys.toArray.all (fun x => x.isSome) = true := by
    simp only [List.all_toArray, List.all_eq_true]
    intro z hz
    obtain ⟨x, rfl, _⟩ := ps z hz; rfl
   rw [all, if_pos rfl]
   refine wpAny_bind (wpAny_rule ?_)
   have e2 : ys.toArray.filterMap id = (ys.filterMap id).toArray := by simp
   rw [e2]
   refine wpAny_bind (oneType_ok (T := T) hT (fun v hv => ?_) ?_ ?_)
   . obtain ⟨y, hy, e⟩ := List.mem_filterMap.mp hv
     obtain ⟨x, rfl, tx⟩ := ps y hy
     cases e
     exact tx
   . cases ys with
     | nil => exact absurd (List.length_eq_zero_iff.mp e.symm) h0
     | cons y ys => obtain ⟨x, rfl, _⟩ := ps y (by simp); simp
   . simp only [Option.any_some, hn]
     exact wpAny_pure q
theorem kind_one {T : String} {us : List Value} {Q : SortKind -> Shared -> Prop} (hT : (Value.type T == Value.type T) = true) (hn : (Value.type T != Value.type "tuple") = true) (h0 : us ≠ [])
 (h : ∀ u ∈ us, s.TypeIs u T) (q : Q oneType' s) : wpAny M A (keyKind' us.toArray) Q E s := by
 rw [keyKind'_eq, List.mapM_toArray]
 refine wpAny_bind ?_
 rw [map_eq_pure_bind]
 refine wpAny_bind (mapM_ex (P := fun y => y = (none : Option Value)) us (fun u hu => ⟨none, rfl, fun Q' z => ?_⟩) fun ys e ps => wpAny_pure ?_)
 . show wpAny _ _ (do
    if (<- typeOf u) != .type "tuple" then return none
    return (<- Builtin.List.listItems u)[0]?) _ _ _
   refine wpAny_bind (wpAny_typeOf (h u hu) ?_)
   rw [hn, if_pos rfl]
   exact wpAny_pure z
 . cases ys with
   | nil => exact absurd (List.length_eq_zero_iff.mp e.symm) h0
   | cons y ys =>
    obtain rfl := ps y (by simp)
    rw [if_neg (by simp), if_neg (by simp)]
    refine wpAny_bind (oneType_ok hT h h0 ?_)
    exact wpAny_pure q
end
inductive KindOf (P : D -> Prop) : SortKind -> Prop
 | one (T : String) (hT : T = "int" \/ T = "str" \/ T = "list") (h : ∀ d, P d -> plainK d = true /\ tyD d = T) : KindOf P oneType'
 | tup (T : String) (hT : T = "int" \/ T = "str" \/ T = "list") (h : ∀ d, P d -> ∃ x r, d = .tup (x :: r) /\ plainK x = true /\ tyD x = T) : KindOf P (tuples' true)
theorem ty_ok {T : String} (hT : T = "int" \/ T = "str" \/ T = "list") : (Value.type T == Value.type T) = true /\ (Value.type T != Value.type "tuple") = true := by
 rcases hT with rfl | rfl | rfl <;> exact ⟨rfl, by decide⟩
section
variable {X : Cx} {pins : List (Addr × Obj)} {σ : St} {H : Hp} {s : Shared} {Z Z' : Zone} {A : Around} {P : D -> Prop} {kd : SortKind} {M : Model} {E : Value -> Shared -> Prop}
theorem kind_ok (k : KindOf P kd) (I : Inv X pins σ H s) {us : List Value} {Q : SortKind -> Shared -> Prop} (h : ∀ u ∈ us, ∃ d, P d /\ Tells X.K H Z u d) (h0 : us ≠ []) (q : Q kd s) : wpAny M A (keyKind' us.toArray) Q E s := by
 cases k with
 | one T hT hp =>
  refine kind_one (ty_ok hT).1 (ty_ok hT).2 h0 (fun u hu => ?_) q
  obtain ⟨d, pd, t⟩ := h u hu
  rw [<- (hp d pd).2]
  exact ty_D I t (.inl (hp d pd).1)
 | tup T hT hp =>
  refine kind_tup (ty_ok hT).1 (ty_ok hT).2 h0 (fun u hu => ?_) q
  obtain ⟨d, pd, v, r, i⟩ := h u hu
  obtain ⟨x, ds, rfl, px, tx⟩ := hp d pd
  obtain ⟨a, xs, rfl, l, j⟩ := in_tupS i
  cases r
  obtain ⟨y, ys, rfl, iy, j⟩ := ins_cons.mp j
  obtain ⟨its, rx, pl, _⟩ := I.tuple l
  cases rx with
  | cons q rx => exact ⟨a, _, _, rfl, pl, tx ▸ ty_D I ⟨_, q, iy⟩ (.inl px)⟩
theorem keyL_ok (k : KindOf P kd) (L : Lin P) (I : Inv X pins σ H s) {u u' : Value} {d d' : D} (t : Tells X.K H Z u d) (t' : Tells X.K H Z' u' d') (p : P d) (p' : P d') (hu : A.units + d.dep < cLine) : KeyL kd A s u u' (dor .lt d d') := by
 have hc := L.cm d d' p p'
 cases k with
 | one T hT hp => exact keyL_one I t t' hc (hp d p).1 hu
 | tup T hT hp =>
  obtain ⟨x, ds, rfl, px, tx⟩ := hp d p
  obtain ⟨x', ds', rfl, px', tx'⟩ := hp d' p'
  refine keyL_D I t t' hc (fun _ y r e => by cases e; exact px) ?_
  unfold D.dep at hu
  omega
open Classical in
noncomputable def kap (K : Frag) (H : Hp) (Z : Zone) (P : D -> Prop) (L : Lin P) (d0 : {d // P d}) : PyProof.Rows.KeyKind where
 α := {d // P d}
 blt a b := dor .lt a.1 b.1
 irrefl a := L.ir a.1 a.2
 trans a b c := L.tr a.1 b.1 c.1 a.2 b.2 c.2
 negTrans a b c h := by
  cases q : dor .lt a.1 b.1 with
  | true => exact .inl rfl
  | false =>
   refine .inr ?_
   cases q2 : dor .lt b.1 a.1 with
   | true => exact L.tr b.1 a.1 c.1 b.2 a.2 c.2 q2 h
   | false => rw [<- L.tt a.1 b.1 a.2 b.2 q q2]; exact h
 total a b h1 h2 := Subtype.ext (L.tt a.1 b.1 a.2 b.2 h1 h2)
 keyOf u := if h : ∃ d : {d // P d}, Tells K H Z u d.1 then some (Classical.choose h) else none
 dflt := d0
theorem kap_key (I : Inv X pins σ H s) (L : Lin P) {d0 : {d // P d}} {u : Value} {d : D} (p : P d) (t : Tells X.K H Z u d) : (kap X.K H Z P L d0).keyOf u = some ⟨d, p⟩ := by
 have h : ∃ d : {d // P d}, Tells X.K H Z u d.1 := ⟨⟨d, p⟩, t⟩
 unfold kap
 dsimp only
 rw [dif_pos h]
 exact congrArg some (Subtype.ext (Tells.one I (Classical.choose_spec h) t))
theorem asks_ok (k : KindOf P kd) (L : Lin P) (I : Inv X pins σ H s) {d0 : {d // P d}} {a0 : Array Keyed} {w : World} {prog : Program} (h : ∀ p ∈ a0.toList, ∃ d, P d /\ Tells X.K H Z p.1 d /\ A.units + d.dep < cLine) : Asks (kap X.K H Z P L d0) kd a0 prog w A E s := by
 intro st i j Q hB hi hj q
 rw [ltAt'_eq]
 refine wpS_bind (wpS_get ?_)
 show wpS _ _ _ _ (do let x <- elem' (arrOf st) i; let y <- elem' (arrOf st) j; lt' x y) Q st
 have hi' : i < (arrOf st).size := by rw [hB.sz]; exact hi
 have hj' : j < (arrOf st).size := by rw [hB.sz]; exact hj
 have mem : ∀ n (hn : n < (arrOf st).size), (arrOf st)[n] ∈ a0.toList := fun n hn => (Array.perm_iff_toList_perm.mp hB.pm).mem_iff.mp (by simp)
 obtain ⟨d, p, t, hu⟩ := h _ (mem i hi')
 obtain ⟨d', p', t', _⟩ := h _ (mem j hj')
 have e1 : ky (kap X.K H Z P L d0) st i = ⟨d, p⟩ := by
  show KK _ (arrOf st) i = _
  unfold KK
  rw [getElem?_pos (arrOf st) i hi']
  show ((kap X.K H Z P L d0).keyOf (arrOf st)[i].1).getD _ = _
  rw [kap_key I L p t]; rfl
 have e2 : ky (kap X.K H Z P L d0) st j = ⟨d', p'⟩ := by
  show KK _ (arrOf st) j = _
  unfold KK
  rw [getElem?_pos (arrOf st) j hj']
  show ((kap X.K H Z P L d0).keyOf (arrOf st)[j].1).getD _ = _
  rw [kap_key I L p' t']; rfl
 rw [e1, e2] at q
 rw [elem'_eq, elem'_eq, getElem?_pos (arrOf st) i hi', getElem?_pos (arrOf st) j hj']
 refine wpS_bind (wpS_pure (wpS_bind (wpS_pure ?_)))
 rw [lt'_eq]
 refine wpS_bind (wpS_get ?_)
 rw [hB.kd]
 refine wpS_bind (wpS_lift (wpAny_attempt (keyL_ok k L I t t' p p' hu prog w _ _ ⟨rfl, ?_⟩)))
 exact wpS_pure q
theorem up_data (I : Inv X pins σ H s) (L : Lin P) {d0 : {d // P d}} {a0 xs : Array Keyed} (pm : xs.Perm a0) (up : SortedToK (kap X.K H Z P L d0) xs a0.size) {kf : Keyed -> D} (h : ∀ p ∈ a0.toList, P (kf p) /\ Tells X.K H Z p.1 (kf p)) :
 xs.toList.Pairwise fun p q => dor .lt (kf q) (kf p) = false := by
 rw [List.pairwise_iff_getElem]
 intro i j hi hj hij
 have hi' : i < xs.size := by simpa using hi
 have hj' : j < xs.size := by simpa using hj
 have mem : ∀ n (hn : n < xs.size), xs[n] ∈ a0.toList := fun n hn => (Array.perm_iff_toList_perm.mp pm).mem_iff.mp (by simp)
 have e : ∀ n (hn : n < xs.size), KK (kap X.K H Z P L d0) xs n = ⟨kf xs[n], (h _ (mem n hn)).1⟩ := fun n hn => by
  unfold KK
  rw [getElem?_pos xs n hn]
  show ((kap X.K H Z P L d0).keyOf xs[n].1).getD _ = _
  rw [kap_key I L (h _ (mem n hn)).1 (h _ (mem n hn)).2]; rfl
 have key := up i j (by omega) (by rw [<- pm.size_eq]; exact hj')
 rw [e i hi', e j hj'] at key
 have key2 : dor .lt (kf xs[j]) (kf xs[i]) = false := key
 simpa using key2
variable {prog : Program} {w : World} {κ : PyProof.Rows.KeyKind}
theorem sort_at {a : Addr} {us : List Value} {n : Nat} {R : Fin -> Shared -> Prop} (ho : s.heap.get? a = some (seqObj "list" us.toArray n)) (h64 : us.length < 64)
 (hk : ∀ (h' : Heap) (Q : SortKind -> Shared -> Prop), (∀ b o, b ≠ a -> s.heap.get? b = some o -> h'.get? b = some o) -> us ≠ [] -> Q kd { s with heap := h' } -> wpAny (model prog w) A (keyKind' us.toArray) Q E { s with heap := h' })
 (hA : ∀ h' : Heap, (∀ b o, b ≠ a -> s.heap.get? b = some o -> h'.get? b = some o) -> Asks κ kd (pairsOf us) prog w A E { s with heap := h' })
 (h : ∀ t : Array Keyed, t.Perm (pairsOf us) -> SortedToK κ t (pairsOf us).size -> R (.done (.ret .none)) { s with heap := sortedHeap s.heap a us (t.map (·.2)) }) :
 wpAny (model prog w) A (Builtin.«list.sort» ⟨[.ref a], []⟩) R E s := by
 rw [list_sort_plain]
 have la : a < s.heap.objs.size := lt_size ho
 obtain ⟨m, ho1⟩ : ∃ m, (s.heap.update a (Obj.mapSeq fun _ => #[])).get? a = some (seqObj "list" #[] m) := ⟨_, get?_update_seq ho (fun _ => #[])⟩
 refine wpAny_bind (listItems_at ho rfl (wpAny_bind (listUpdate_at ho rfl (wpAny_bind (seqEpoch_at ho1 rfl (wpAny_bind (wpAny_newTuple (wpAny_bind (wpAny_newList (wpAny_holding ?_))))))))))
 have keeps : ∀ b o, b ≠ a -> s.heap.get? b = some o -> (((s.heap.update a (Obj.mapSeq fun _ => #[])).push (seqObj "tuple" us.toArray 0)).push (seqObj "list" #[] 0)).get? b = some o := fun b o ne e => by
  have lb : b < s.heap.objs.size := lt_size e
  rw [Heap.get?_push_ne _ _ _ (by rw [size_push', Heap.size_update]; exact Nat.ne_of_lt (Nat.lt_succ_of_lt lb)), Heap.get?_push_ne _ _ _ (by rw [Heap.size_update]; exact Nat.ne_of_lt lb), Heap.get?_update_ne _ _ _ _ ne]
  exact e
 have hoE : (((s.heap.update a (Obj.mapSeq fun _ => #[])).push (seqObj "tuple" us.toArray 0)).push (seqObj "list" #[] 0)).get? a = some (seqObj "list" #[] m) := by
  rw [Heap.get?_push_ne _ _ _ (by rw [size_push', Heap.size_update]; exact Nat.ne_of_lt (Nat.lt_succ_of_lt la)), Heap.get?_push_ne _ _ _ (by rw [Heap.size_update]; exact Nat.ne_of_lt la)]
  exact ho1
 show wpAny (model prog w) A _ R E { s with heap := ((s.heap.update a (Obj.mapSeq fun _ => #[])).push (seqObj "tuple" us.toArray 0)).push (seqObj "list" #[] 0) }
 dsimp only
 have fits : ∀ t : Array Keyed, t.Perm (pairsOf us) -> (t.map (·.2)).size <= sizeLine + 1 := fun t pm => by
  rw [Array.size_map, pm.size_eq, pairsOf_size, sizeLine_eq]; omega
 by_cases few : us.toArray.size < 2
 . rw [if_pos few, if_pos few]
   refine wpAny_bind (wpAny_pure ?_)
   rw [StateT.run_pure]
   refine wpAny_bind (wpAny_pure ?_)
   dsimp only
   refine wpAny_bind (seqEpoch_at hoE rfl (wpAny_bind (listUpdate_at hoE rfl ?_ (hsz2 := fits _ (Array.Perm.refl _)))))
   simp only [bne_self_eq_false, Bool.false_eq_true, if_false]
   refine wpAny_pure (h _ (Array.Perm.refl _) fun i j le lt => ?_)
   rw [pairsOf_size] at lt
   simp at few
   rw [show i = j by omega]
   exact KeyOrd.kle_refl _
 . rw [if_neg few, if_neg few]
   have l2 : 2 <= (pairsOf us).size := by rw [pairsOf_size]; simp at few; omega
   refine wpAny_bind (hk _ _ keeps (by rintro rfl; simp at few) ?_)
   refine wpAny_bind (wpAny_mono (run_sort (κ := κ) (kd := kd) (a0 := pairsOf us) (st := SortSt.mk' kd (us.toArray.zip us.toArray) #[] 7 none) (Q := fun _ t => (arrOf t).Perm (pairsOf us) /\ failedOf t = none /\ SortedToK κ (arrOf t) (pairsOf us).size)
    (hA (((s.heap.update a (Obj.mapSeq fun _ => #[])).push (seqObj "tuple" us.toArray 0)).push (seqObj "list" #[] 0)) keeps) l2 (by rw [pairsOf_size]; exact h64) ⟨Array.Perm.refl _, rfl, rfl, rfl⟩ fun t a1 a2 a3 => ⟨a1, a2, a3⟩) ?_ fun _ _ e => e)
   rintro ⟨⟨⟩, t⟩ s' ⟨rfl, pm, ok, up⟩
   dsimp only
   refine wpAny_bind (seqEpoch_at hoE rfl (wpAny_bind (listUpdate_at hoE rfl ?_ (hsz2 := fits _ pm))))
   rw [ok]
   simp only [bne_self_eq_false, Bool.false_eq_true, if_false]
   exact wpAny_pure (h _ pm up)
end
def srt (f : D -> D) (ds : List D) : List D := ds.mergeSort fun x y => !dor .lt (f y) (f x)
theorem srt_perm (f : D -> D) (ds : List D) : (srt f ds).Perm ds := List.mergeSort_perm _ _
theorem paired_perm {α β : Type} {R : α -> β -> Prop} {l l' : List α} (p : l'.Perm l) : ∀ {r : List β}, Paired R l r -> ∃ r', r'.Perm r /\ Paired R l' r' := by
 induction p with
 | nil => intro r h; cases h; exact ⟨[], .refl _, .nil⟩
 | cons x p ih =>
  intro r h
  cases h with
  | cons a t =>
   obtain ⟨r', p', h'⟩ := ih t
   exact ⟨_ :: r', p'.cons _, .cons a h'⟩
 | swap x y l =>
  intro r h
  cases h with
  | cons a t => cases t with
   | cons b t => exact ⟨_ :: _ :: _, .swap _ _ _, .cons b (.cons a t)⟩
 | trans p q ih1 ih2 =>
  intro r h
  obtain ⟨r1, p1, h1⟩ := ih2 h
  obtain ⟨r2, p2, h2⟩ := ih1 h1
  exact ⟨r2, p2.trans p1, h2⟩
theorem paired_map {α β γ δ : Type} {R : α -> β -> Prop} {S : γ -> δ -> Prop} {f : α -> γ} {g : β -> δ} : ∀ {l : List α} {r : List β}, Paired R l r -> (∀ a b, a ∈ l -> b ∈ r -> R a b -> S (f a) (g b)) -> Paired S (l.map f) (r.map g)
 | _, _, .nil, _ => .nil
 | _, _, .cons a t, h => .cons (h _ _ (by simp) (by simp) a) (paired_map t fun x y hx hy z => h x y (by simp [hx]) (by simp [hy]) z)
theorem paired_eq {α : Type} : ∀ {l r : List α}, Paired (fun a b => a = b) l r -> l = r
 | _, _, .nil => rfl
 | _, _, .cons a t => by rw [a, paired_eq t]
theorem ins_of_mem {K : Frag} {H : Hp} {Z : Zone} : ∀ {prs : List (V × D)}, (∀ q ∈ prs, In K H Z q.2 q.1) -> Ins K H Z (prs.map (·.2)) (prs.map (·.1))
 | [], _ => ins_nil.mpr rfl
 | q :: prs, h => ins_cons.mpr ⟨_, _, rfl, h q (by simp), ins_of_mem fun x hx => h x (by simp [hx])⟩
section
variable {X : Cx} {pins : List (Addr × Obj)} {σ : St} {H : Hp} {s : Shared} {Z Z' : Zone} {A : Around} {P : D -> Prop} {kd : SortKind} {M : Model} {E : Value -> Shared -> Prop} {f : D -> D}
theorem sort_out (I : Inv X pins σ H s) (L : Lin P) {d0 : {d // P d}} {prs : List (V × D)} {a0 t : Array Keyed} (pr : Paired (fun (p : Keyed) (q : V × D) => RelV q.1 p.2 /\ Tells X.K H Z p.1 (f q.2)) a0.toList prs) (hP : ∀ q ∈ prs, P (f q.2))
 (pm : t.Perm a0) (up : SortedToK (kap X.K H Z P L d0) t a0.size) : ∃ prs' : List (V × D), prs'.Perm prs /\ Vals (prs'.map (·.1)) (t.map (·.2)).toList /\ (prs'.map (·.2)).Pairwise fun x y => dor .lt (f y) (f x) = false := by
 have pl := Array.perm_iff_toList_perm.mp pm
 obtain ⟨prs', pp, pr'⟩ := paired_perm pl pr
 have ex : ∀ p ∈ a0.toList, ∃ q, q ∈ prs /\ Tells X.K H Z p.1 (f q.2) := by
  intro p hp
  have : ∀ {l : List Keyed} {r : List (V × D)}, Paired (fun (p : Keyed) (q : V × D) => RelV q.1 p.2 /\ Tells X.K H Z p.1 (f q.2)) l r -> p ∈ l -> ∃ q, q ∈ r /\ Tells X.K H Z p.1 (f q.2) := by
   intro l r h
   induction h with
   | nil => intro z; simp at z
   | cons a t ih =>
    intro z
    rcases mem_cons.mp z with rfl | z
    . exact ⟨_, by simp, a.2⟩
    . obtain ⟨q, hq, tq⟩ := ih z
      exact ⟨q, by simp [hq], tq⟩
  exact this pr hp
 have hkf : ∃ kf : Keyed -> D, ∀ p ∈ a0.toList, P (kf p) /\ Tells X.K H Z p.1 (kf p) := by
  refine ⟨fun p => open Classical in if h : ∃ d, P d /\ Tells X.K H Z p.1 d then Classical.choose h else .non, fun p hp => ?_⟩
  obtain ⟨q, hq, tq⟩ := ex p hp
  have h : ∃ d, P d /\ Tells X.K H Z p.1 d := ⟨_, hP q hq, tq⟩
  dsimp only
  rw [dif_pos h]
  exact Classical.choose_spec h
 obtain ⟨kf, hkf⟩ := hkf
 have pw := up_data I L pm up hkf
 refine ⟨prs', pp, ?_, ?_⟩
 . rw [Array.toList_map]
   have : ∀ {l : List Keyed} {r : List (V × D)}, Paired (fun (p : Keyed) (q : V × D) => RelV q.1 p.2 /\ Tells X.K H Z p.1 (f q.2)) l r -> Vals (r.map (·.1)) (l.map (·.2)) := by
    intro l r h
    induction h with
    | nil => exact .nil
    | cons a t ih => exact .cons a.1 ih
   exact this pr'
 . have e : t.toList.map kf = prs'.map fun q => f q.2 :=
    paired_eq (paired_map pr' fun p q hp hq z => Tells.one I (hkf p (pl.mem_iff.mp hp)).2 z.2)
   have pw2 : (t.toList.map kf).Pairwise fun x y => dor .lt y x = false := by rw [List.pairwise_map]; exact pw
   rw [e, List.pairwise_map] at pw2
   rw [List.pairwise_map]
   exact pw2
theorem srt_one (L : Lin P) {ds ds' : List D} (hP : ∀ d ∈ ds, P (f d)) (inj : ∀ a ∈ ds, ∀ b ∈ ds, f a = f b -> a = b) (pm : ds'.Perm ds) (pw : ds'.Pairwise fun x y => dor .lt (f y) (f x) = false) : ds' = srt f ds := by
 have P' : ∀ d ∈ ds', P (f d) := fun d hd => hP d (pm.mem_iff.mp hd)
 have neg : ∀ x y z, P (f x) -> P (f y) -> P (f z) -> dor .lt (f y) (f x) = false -> dor .lt (f z) (f y) = false -> dor .lt (f z) (f x) = false := fun x y z px py pz a b => by
  cases q : dor .lt (f z) (f x) with
  | false => rfl
  | true =>
   cases q2 : dor .lt (f x) (f y) with
   | true => rw [L.tr _ _ _ pz px py q q2] at b; cases b
   | false => rw [L.tt _ _ px py q2 a] at q; rw [q] at b; cases b
 have hs : (srt f ds).Pairwise fun x y => dor .lt (f y) (f x) = false := by
  let ds2 : List {d // P (f d)} := ds.attach.map fun d => ⟨d.1, hP d.1 d.2⟩
  have e : ds = ds2.map (·.1) := by simp [ds2]
  have e2 : srt f ds = (ds2.mergeSort fun x y => !dor .lt (f y.1) (f x.1)).map (·.1) := by
   unfold srt
   rw [e]
   exact (List.map_mergeSort (f := fun z : {d // P (f d)} => z.1) (r := fun x y => !dor .lt (f y.1) (f x.1)) (s := fun x y => !dor .lt (f y) (f x)) (fun a _ b _ => rfl)).symm
  rw [e2, List.pairwise_map]
  have := List.pairwise_mergeSort (le := fun (x y : {d // P (f d)}) => !dor .lt (f y.1) (f x.1)) (fun a b c h1 h2 => by
   simp only [Bool.not_eq_true'] at *
   exact neg a.1 b.1 c.1 a.2 b.2 c.2 h1 h2) (fun a b => by
   cases q : dor .lt (f b.1) (f a.1) with
   | false => simp
   | true =>
    have z : dor .lt (f a.1) (f b.1) = false := by
     cases q2 : dor .lt (f a.1) (f b.1) with
     | false => rfl
     | true => have w := L.tr _ _ _ a.2 b.2 a.2 q2 q; rw [L.ir _ a.2] at w; cases w
    simp [z]) ds2
  exact this.imp fun h => by simpa using h
 refine List.Perm.eq_of_pairwise (le := fun x y => dor .lt (f y) (f x) = false) ?_ pw hs (pm.trans (srt_perm f ds).symm)
 intro a b ha hb h1 h2
 have hb' : b ∈ ds := (srt_perm f ds).mem_iff.mp hb
 exact inj a (pm.mem_iff.mp ha) b hb' (L.tt _ _ (P' a ha) (hP b hb') h2 h1)
end
section
variable {X : Cx}
theorem pairs_data {K : Frag} {H : Hp} {Z : Zone} : ∀ {ds : List D} {ys : List V} {its : List Value}, Vals ys its -> Ins K H Z ds ys -> Paired (fun (p : Keyed) (q : V × D) => RelV q.1 p.2 /\ Tells K H Z p.1 (id q.2)) (its.zip its) (ys.zip ds)
 | [], ys, its, r, j => by cases ins_nil.mp j; cases r; exact .nil
 | d :: ds, ys, its, r, j => by
  obtain ⟨v, vs, rfl, i, j⟩ := ins_cons.mp j
  cases r with
  | cons a r => exact .cons ⟨a, v, a, i⟩ (pairs_data r j)
theorem call_sorted : CallR X (.builtin "sorted") (fun xs H Q => ∃ p ys ds Z P kd, xs = [.ref p] /\ SqL X.K H p ys /\ Ins X.K H Z ds ys /\ Lin P /\ KindOf P kd /\ (∀ d ∈ ds, P d /\ X.A.units + 2 + d.dep < cLine) /\ ds.length < 64 /\ ∀ l, H l = none -> ∀ prs : List (V × D), prs.Perm (ys.zip ds) -> prs.map (·.2) = srt id ds -> Q (.ref l) (upd H l (.lst (prs.map (·.1))))) := by
 intro pins s σ H xs us Q I r h
 obtain ⟨p, ys, ds, Z, P, kd, rfl, hq, j, L, kk, hP, h64, q⟩ := h
 obtain ⟨u, rfl, rx⟩ := vals1 r
 cases rx
 obtain ⟨its, rv, pl, hz⟩ := I.list hq
 have z1 := j.length; have z2 := rv.length
 have el : ∀ u ∈ its, ∃ d, P d /\ Tells X.K H Z u d /\ X.A.units + 2 + d.dep < cLine := fun u hu => by
  obtain ⟨n, hn, e⟩ := List.mem_iff_getElem.mp hu
  have hd : n < ds.length := by omega
  obtain ⟨v, ev, iv⟩ := j.get (i := n) (d := ds[n]) (by simp [hd])
  obtain ⟨u', eu, ru⟩ := rv.get ev
  have e2 : u' = u := by
   have t := (List.getElem?_eq_some_iff.mp eu).2
   rw [<- t]; exact e
  exact ⟨ds[n], (hP _ (getElem_mem hd)).1, ⟨v, e2 ▸ ru, iv⟩, (hP _ (getElem_mem hd)).2⟩
 have hI : ∀ (h' : Heap) (t' : Nat), (∀ b o, s.heap.get? b = some o -> h'.get? b = some o) -> Inv X pins σ H { s with heap := h', toks := t' } := fun h' t' k => I.kept k
 refine Calls.call_function_entry kind_sorted plain_sorted entry_sorted (args_sorted1 _) ?_
 unfold Builtin.«sorted»
 refine wpAny_bind (m := checkCount "sorted" 1 1 _) (wpAny_pure ?_)
 refine wpAny_bind (collect_list pl.isList ?_ (by omega))
 refine wpAny_bind (wpAny_newList ?_)
 have hsz : ((s.heap.push (seqObj "list" #[] 0)).update s.heap.objs.size (Obj.mapSeq (· ++ its.toArray))).objs.size = s.heap.objs.size + 1 := by
  rw [Heap.size_update, size_push']
 have hoL : (((s.heap.push (seqObj "list" #[] 0)).update s.heap.objs.size (Obj.mapSeq (· ++ its.toArray))).push (seqObj "list" its.toArray 0)).get? (s.heap.objs.size + 1) = some (seqObj "list" its.toArray 0) := by
  rw [<- hsz]; exact get?_push_size _ rfl
 have kp : ∀ b o, s.heap.get? b = some o -> (((s.heap.push (seqObj "list" #[] 0)).update s.heap.objs.size (Obj.mapSeq (· ++ its.toArray))).push (seqObj "list" its.toArray 0)).get? b = some o := fun b o e => by
  have lb := lt_size e
  rw [Heap.get?_push_ne _ _ _ (by rw [hsz]; exact Nat.ne_of_lt (Nat.lt_succ_of_lt lb)), Heap.get?_update_ne _ _ _ _ (Nat.ne_of_lt lb), Heap.get?_push_ne _ _ _ (Nat.ne_of_lt lb)]
  exact e
 show wpAny _ _ _ _ _ { s with heap := ((s.heap.push (seqObj "list" #[] 0)).update s.heap.objs.size (Obj.mapSeq (· ++ its.toArray))).push (seqObj "list" its.toArray 0) }
 rw [hsz]
 have nn : ∀ b o, s.heap.get? b = some o -> b ≠ s.heap.objs.size + 1 := fun b o e => Nat.ne_of_lt (Nat.lt_succ_of_lt (lt_size e))
 have cost : ∀ d : D, X.A.units + 2 + d.dep < cLine -> X.A.in1.in1.units + d.dep < cLine := fun d h => h
 have lay : ∀ (prs : List (V × D)) (out : Array Value), prs.Perm (ys.zip ds) -> Vals (prs.map (·.1)) out.toList -> prs.map (·.2) = srt id ds -> EP X pins σ Q (.ref (s.heap.objs.size + 1)) { s with heap := sortedAll s.heap its out } := fun prs out pp vv e => by
  obtain ⟨m, ho⟩ := sortedAll_at s.heap its out
  have hl : (prs.map (·.1)).length <= sizeLine := by
   rw [length_map, pp.length_eq, List.length_zip]; omega
  exact ⟨.ref (s.heap.objs.size + 1), _, I.laid (t' := s.toks) (fun _ _ => sortedAll_old) (Nat.le_succ _) (show ObjOk X.prog X.w _ _ _ (.lst (prs.map (·.1))) from ⟨hl, out.toList, m, vv, by simpa using ho⟩), rfl, q _ (I.hok.fresh (Nat.le_succ _)) prs pp e⟩
 have pr := pairs_data rv j
 rw [<- pairsOf_toList] at pr
 by_cases emp : its = []
 . subst emp
   have y0 : ys = [] := List.length_eq_zero_iff.mp (z2.trans rfl)
   have d0 : ds = [] := List.length_eq_zero_iff.mp (z1.trans (z2.trans rfl))
   subst y0 d0
   refine wpAny_bind (wpAny_holding (wpAny_call_entry slot_list_sort ⟨_, hoL, rfl⟩ entry_list_sort (sort_at (kd := kd) (κ := strKind) hoL (by simp) (fun s' Q' _ ne _ => absurd rfl ne) (fun s' _ st i jj Q' hB hi => absurd hi (by simp [pairsOf])) fun t pm _ => ⟨_, rfl, ?_⟩) (args_list_sort _)))
   have t0 : t = #[] := by
    have e := pm.size_eq
    simp [pairsOf] at e
    exact e
   have o0 : (t.map fun (x : Keyed) => x.2).toList = [] := by rw [t0]; simp
   have v0 : Vals (([] : List (V × D)).map (·.1)) (t.map fun (x : Keyed) => x.2).toList := by rw [o0]; exact .nil
   have s0 : ([] : List (V × D)).map (·.2) = srt id [] := by simp [srt]
   exact wpAny_pure ⟨_, rfl, lay [] (t.map fun (x : Keyed) => x.2) (.refl _) v0 s0⟩
 . obtain ⟨u0, hu0⟩ := List.exists_mem_of_ne_nil its emp
   obtain ⟨dd, pd, _, _⟩ := el u0 hu0
   refine wpAny_bind (wpAny_holding (wpAny_call_entry slot_list_sort ⟨_, hoL, rfl⟩ entry_list_sort (sort_at (kd := kd) (κ := kap X.K H Z P L ⟨dd, pd⟩) hoL (by omega) (fun h' Q' kp' ne q' => ?_) (fun h' kp' => ?_) fun t pm up => ⟨_, rfl, ?_⟩) (args_list_sort _)))
   . exact kind_ok (s := { s with heap := h' }) kk (hI h' s.toks fun b o e => kp' b o (nn b o e) (kp b o e)) (fun u hu => let ⟨d, a, b, _⟩ := el u hu; ⟨d, a, b⟩) ne q'
   . refine asks_ok (s := { s with heap := h' }) kk L (hI h' s.toks fun b o e => kp' b o (nn b o e) (kp b o e)) (fun p hp => ?_)
     rw [pairsOf_toList] at hp
     obtain ⟨d, a, b, c⟩ := el p.1 (List.of_mem_zip hp).1
     exact ⟨d, a, b, cost d c⟩
   . obtain ⟨prs, pp, vv, pw⟩ := sort_out I L pr (fun q hq => (hP _ (List.of_mem_zip hq).2).1) pm up
     have e : prs.map (·.2) = srt id ds := srt_one L (f := id) (fun d hd => (hP d hd).1) (fun a _ b _ e => e) (by
      have e2 : (ys.zip ds).map (·.2) = ds := by rw [List.map_snd_zip]; omega
      rw [<- e2]; exact pp.map _) pw
     exact wpAny_pure ⟨_, rfl, lay prs _ pp vv e⟩
theorem ins_zip {K : Frag} {H : Hp} {Z : Zone} : ∀ {ds : List D} {ys : List V}, Ins K H Z ds ys -> ∀ q ∈ ys.zip ds, In K H Z q.2 q.1
 | [], ys, j, q, hq => by simp at hq
 | d :: ds, ys, j, q, hq => by
  obtain ⟨v, vs, rfl, i, j⟩ := ins_cons.mp j
  rcases mem_cons.mp hq with rfl | hq
  . exact i
  . exact ins_zip j q hq
variable {ρ : List (Option D)} {m m1 : Bool} {a : Expr} {ds : List D} {p pos : Pos} {P : D -> Prop} {kd : SortKind}
theorem flats_perm {ds es : List D} (p : es.Perm ds) (h : flats ds = true) : flats es = true := by
 have mem : ∀ {l : List D}, flats l = true ↔ ∀ d ∈ l, d.flat = true := by
  intro l
  induction l with
  | nil => simp [flats]
  | cons x l ih => simp [flats, ih]
 exact mem.mpr fun d hd => mem.mp h d (p.mem_iff.mp hd)
theorem e_sortedL (ha : E X m1 ρ a (.lst ds)) (L : Lin P) (kk : KindOf P kd) (hP : ∀ d ∈ ds, P d /\ X.A.units + 2 + d.dep < cLine) (h64 : ds.length < 64) (hm : X.mg "sorted" = none) (hmm : m = true -> m1 = true \/ flats ds = true := by intro h; first | exact .inl h | cases h)
 (hg : Gl X "sorted" := by rfl) (hs : starEach [a] X.env = [(false, eval a X.env)] := by rfl) : E X m ρ (.Call (.Name "sorted" p) [a] [] pos) (.lst (srt id ds)) :=
 PE.mono (pe_callB call_sorted hg hm boot_sorted (pa_cons ha pa_nil (by rw [hs]; rfl)) (by decide) (by decide) (by rw [hs]; rfl) rfl) fun σ H Q z0 => el13 z0 fun Z oz en k => ⟨Z, oz, en, fun x H1 s1 i1 => by
  obtain ⟨l, xs, rfl, at', j⟩ := in_lst.mp i1
  refine ⟨l, xs, ds, _, P, kd, rfl, at'.sq, j, L, kk, hP, h64, fun q hq prs pp e => k (.ref q) _ (s1.trans (same_new hq)) (in_lst.mpr ⟨q, _, rfl, .inl ⟨upd_same, ?_⟩, ?_⟩)⟩
  . cases m
    . exact oz q (s1.free hq)
    . exact s1.free hq
  . have j0 := ins_of_mem fun z hz => ins_zip j z (pp.mem_iff.mp hz)
    rw [e] at j0
    have jc := j0.same (same_new (o := .lst (prs.map (·.1))) hq)
    cases m
    . cases m1
      . exact jc
      . exact jc.up oz
    . rcases hmm rfl with h | h
      . subst h; exact jc
      . exact jc.flat' (flats_perm (srt_perm _ _) h)⟩
end
theorem sort_key_eq (a fa : Addr) : Builtin.«list.sort» ⟨[.ref a], [(("key" : Str), .ref fa)]⟩ = (do
 let items <- Builtin.List.listItems (.ref a)
 Builtin.List.listUpdate (.ref a) fun _ => #[]
 let before <- seqEpoch a
 let held <- newTuple items.toList
 let store <- newList []
 holding [held, store] do
  rule "list.sort.key"
  for x in items do
   match <- (call (.ref fa) [x]).attempt with
   | .ok k => Builtin.List.listUpdate store (·.push k)
   | .error e =>
    rule "list.sort.key-raised"
    let made <- Builtin.List.listItems store
    Builtin.List.listUpdate store fun _ => #[]
    letGo made.toList.reverse [e]
    Builtin.List.listUpdate (.ref a) (fun _ => items); throw e
  let keys <- Builtin.List.listItems store
  let kind <- if items.size < 2 then pure general' else keyKind' keys
  let ((), st) <- (if items.size < 2 then pure () else sortRuns').run (SortSt.mk' kind (keys.zip items) #[] 7 none)
  Builtin.List.listUpdate store (fun _ => #[])
  letGo ((arrOf st).map (·.1)).toList (failedOf st).toList
  let touched := (<- seqEpoch a) != before
  Builtin.List.listUpdate (.ref a) (fun _ => (arrOf st).map (·.2))
  if let some e := failedOf st then rule "list.sort.comparison-raised"; throw e
  if touched then rule "list.sort.modified"; raiseError "ValueError" "list modified during sort"
  ret .none) := rfl
structure Keys (X : Cx) (A : Around) (σ : St) (fa : Addr) (f : D -> D) (P0 : D -> Prop) (Good : Hp -> Zone -> Prop) : Prop where
 zone : ∀ {H : Hp} {Z Z' : Zone}, (∀ a o, H a = some o -> Z.S a -> Z'.S a) -> (Z.m = false -> Z'.m = false) -> Good H Z -> Good H Z'
 same : ∀ {H H' : Hp} {Z : Zone}, Same H H' -> Good H Z -> Good H' Z
 write : ∀ {H : Hp} {Z : Zone} {l : Addr} {xs ys : List V}, H l = some (.lst xs) -> ¬ Z.S l -> Good H Z -> Good (upd H l (.lst ys)) Z
 run : ∀ (E : Value -> Shared -> Prop) (pins : List (Addr × Obj)) (s : Shared) (H : Hp) (Z : Zone) (u : Value) (d : D) (Q : Value -> Shared -> Prop), Inv X pins σ H s -> Z.Open H -> Good H Z -> Tells X.K H Z u d -> P0 d ->
  (∀ k H' s', Inv X pins σ H' s' -> Same H H' -> Tells X.K H' Z k (f d) -> Q k s') -> wpAny (model X.prog X.w) A (call (.ref fa) [u]) Q E s
theorem TabsOk.updE {H : Hp} {a : Addr} {φ : Heap -> Prop} {o : HO} (t : TabsOk H) (ha : H a = some (.ext φ)) (no : ∀ qn : Str, (fun h : Heap => h.CodeRec (.ref a) qn) ≠ φ) : TabsOk (L2.upd H a o) := fun P hP => by
 obtain ⟨ps, e, tr, k⟩ := t P hP
 refine ⟨ps, by rw [upd_ne (ne_of e ha (by intro z; cases z))]; exact e, tr, fun pos cv q => ?_⟩
 obtain ⟨c, rfl, hc⟩ := k pos cv q
 have : c ≠ a := fun z => by
  subst z
  rw [ha] at hc
  have z2 := Option.some.inj hc
  unfold recO at z2
  injection z2 with z3
  exact no P.2 z3.symm
 exact ⟨c, rfl, by rw [upd_ne this]; exact hc⟩
theorem pairs_key {K : Frag} {H : Hp} {Z : Zone} {f : D -> D} : ∀ {ds : List D} {xs : List V} {us : List Value} {kvs : List V} {ks : List Value}, xs.length = ds.length -> Vals xs us -> Ins K H Z (ds.map f) kvs -> Vals kvs ks ->
 Paired (fun (p : Keyed) (q : V × D) => RelV q.1 p.2 /\ Tells K H Z p.1 (f q.2)) (ks.zip us) (xs.zip ds)
 | [], xs, us, kvs, ks, hl, r, j, r2 => by
  cases ins_nil.mp j
  cases r2
  cases r with
  | nil => exact .nil
  | cons _ _ => simp at hl
 | d :: ds, xs, us, kvs, ks, hl, r, j, r2 => by
  obtain ⟨v, vs, rfl, i, j⟩ := ins_cons.mp j
  cases r2 with
  | cons a r2 =>
   cases r with
   | nil => simp at hl
   | cons b r => exact .cons ⟨b, v, a, i⟩ (pairs_key (by simpa using hl) r j r2)
section
variable {X : Cx} {pins : List (Addr × Obj)} {σ : St} {H : Hp} {s : Shared} {Z : Zone} {A : Around} {P P0 : D -> Prop} {kd : SortKind} {E : Value -> Shared -> Prop} {f : D -> D} {fa a : Addr} {Good : Hp -> Zone -> Prop}
theorem sort_key (kk : Keys X A σ fa f P0 Good) (L : Lin P) (kn : KindOf P kd) {ds : List D} {xs : List V} {us : List Value} (hP : ∀ d ∈ ds, P0 d /\ P (f d) /\ A.units + (f d).dep < cLine) (inj : ∀ x ∈ ds, ∀ y ∈ ds, f x = f y -> x = y)
 (I : Inv X pins σ H s) (oz : Z.Open H) (g : Good H Z) (ix : Ins X.K H Z ds xs) (vx : Vals xs us) (h64 : us.length < 64) {h1 : Heap} {t1 n : Nat} (k1 : ∀ b o, s.heap.get? b = some o -> h1.get? b = some o) (la : s.heap.objs.size <= a)
 (ho : h1.get? a = some (seqObj "list" us.toArray n)) {R : Fin -> Shared -> Prop}
 (fin : ∀ H' s' (prs : List (V × D)), Inv X pins σ H' s' -> Same H H' -> H a = none -> H' a = some (.lst (prs.map (·.1))) -> prs.Perm (xs.zip ds) -> prs.map (·.2) = srt f ds -> R (.done (.ret .none)) s') :
 wpAny (model X.prog X.w) A (Builtin.«list.sort» ⟨[.ref a], [(("key" : Str), .ref fa)]⟩) R E { s with heap := h1, toks := t1 } := by
 rw [sort_key_eq]
 have z1 := ix.length; have z2 := vx.length
 have la' : a < h1.objs.size := lt_size ho
 obtain ⟨m, ho1⟩ : ∃ m, (h1.update a (Obj.mapSeq fun _ => #[])).get? a = some (seqObj "list" #[] m) := ⟨_, get?_update_seq ho (fun _ => #[])⟩
 refine wpAny_bind (listItems_at (s := { s with heap := h1, toks := t1 }) ho rfl ?_)
 refine wpAny_bind (listUpdate_at (s := { s with heap := h1, toks := t1 }) ho rfl ?_ (by simp only [size_toArray, sizeLine_eq]; omega) (by simp))
 refine wpAny_bind (seqEpoch_at (s := { s with heap := h1.update a (Obj.mapSeq fun _ => #[]), toks := t1 }) ho1 rfl ?_)
 refine wpAny_bind (wpAny_newTuple ?_)
 have k3 : ∀ b o, s.heap.get? b = some o -> ((h1.update a (Obj.mapSeq fun _ => #[])).push (seqObj "tuple" us.toArray 0)).get? b = some o := fun b o e => by
  have lb := lt_size e
  have ne : b ≠ a := Nat.ne_of_lt (Nat.lt_of_lt_of_le lb la)
  have lb1 := lt_size (k1 b o e)
  rw [Heap.get?_push_ne _ _ _ (by rw [Heap.size_update]; exact Nat.ne_of_lt lb1), Heap.get?_update_ne _ _ _ _ ne]
  exact k1 b o e
 have ho3 : ((h1.update a (Obj.mapSeq fun _ => #[])).push (seqObj "tuple" us.toArray 0)).get? a = some (seqObj "list" #[] m) := by
  rw [Heap.get?_push_ne _ _ _ (by rw [Heap.size_update]; exact Nat.ne_of_lt la')]
  exact ho1
 show wpAny (model X.prog X.w) A _ R E { s with heap := (h1.update a (Obj.mapSeq fun _ => #[])).push (seqObj "tuple" us.toArray 0), toks := t1 }
 generalize ((h1.update a (Obj.mapSeq fun _ => #[])).push (seqObj "tuple" us.toArray 0)) = h3 at k3 ho3 ⊢
 have Ha0 : H a = none := I.hok.fresh la
 have Ia : Inv X pins σ (upd H a (.ext fun h => h.get? a = some (seqObj "list" #[] m))) { s with heap := h3, toks := t1 } := I.laid k3 la ⟨ho3, ⟨_, ho3⟩, fun g1 g2 z k => k _ z⟩
 refine wpAny_bind (wpAny_newList ?_)
 have Iq := Ia.lnew (ys := []) (its := []) (t' := t1) .nil (by simp)
 have q0 := Ia.fresh
 show wpAny (model X.prog X.w) A _ R E { s with heap := h3.push (seqObj "list" #[] 0), toks := t1 }
 have Hq0 : H h3.objs.size = none := by
  have z := q0
  by_cases e : h3.objs.size = a
  . rw [e]; exact Ha0
  . change upd H a _ h3.objs.size = none at z
    rw [upd_ne e] at z; exact z
 have neq : a ≠ h3.objs.size := Nat.ne_of_lt (lt_size ho3)
 generalize hQ : h3.objs.size = q at q0 Hq0 neq ⊢
 have Iq' : Inv X pins σ (upd (upd H a (.ext fun h => h.get? a = some (seqObj "list" #[] m))) q (.lst [])) { s with heap := h3.push (seqObj "list" #[] 0), toks := t1 } := by rw [<- hQ]; exact Iq
 clear Iq
 -- what every state in the loop bears
 have openQ : ∀ {H' : Hp} {kvs : List V}, Same H H' -> H' q = some (.lst kvs) -> Zone.Open ⟨Z.m, fun b => Z.S b /\ b ≠ q⟩ H' := fun {H' kvs} k hq => ⟨fun b e => ⟨oz.op b (k.free e), fun z => by rw [z, hq] at e; cases e⟩, k.tabs oz.tb⟩
 have carryQ : ∀ {H' : Hp}, Same H H' -> Carry X.K H Z H' ⟨Z.m, fun b => Z.S b /\ b ≠ q⟩ := fun {H'} k =>
  Carry.of k (fun b ys e z => ⟨z, fun w => by rw [w, Hq0] at e; cases e⟩) fun z => z
 refine wpAny_holding (wpAny_bind (wpAny_rule ?_))
 refine wpAny_bind (wpAny_forIn_array' _ (fun rest _ st => ∃ (H' : Hp) (kvs : List V), Inv X pins σ H' st /\ (Same H H' /\ H' a = some (.ext fun h => h.get? a = some (seqObj "list" #[] m))) /\ H' q = some (.lst kvs) /\
  Good H' ⟨Z.m, fun b => Z.S b /\ b ≠ q⟩ /\ kvs.length <= us.length /\ rest = us.drop kvs.length /\ Ins X.K H' ⟨Z.m, fun b => Z.S b /\ b ≠ q⟩ ((ds.take kvs.length).map f) kvs) _ ?turn ?over _ _ ?start)
 case start =>
  have sm0 : Same H (upd (upd H a (.ext fun h => h.get? a = some (seqObj "list" #[] m))) q (.lst [])) := (same_new Ha0).trans (same_new q0)
  exact ⟨_, [], Iq', ⟨sm0, by rw [upd_ne neq, upd_same]⟩, upd_same, kk.same sm0 (kk.zone (Z := Z) (fun b o e z => ⟨z, fun w => by rw [w, Hq0] at e; cases e⟩) (fun z => z) g), Nat.zero_le _, by simp, ins_nil.mpr rfl⟩
 case turn =>
  rintro x rest _ st ⟨H', kvs, I', ⟨kp, hae⟩, hq, gd, hle, hr, jn⟩
  have hlt : kvs.length < us.length := by
   have := congrArg List.length hr
   simp at this; omega
  have hx : us[kvs.length] = x /\ us.drop (kvs.length + 1) = rest := by
   rw [List.drop_eq_getElem_cons hlt] at hr
   injection hr with e1 e2
   exact ⟨e1.symm, e2.symm⟩
  have hd : kvs.length < ds.length := by omega
  obtain ⟨v, ev, iv⟩ := ix.get (i := kvs.length) (d := ds[kvs.length]) (by simp [hd])
  obtain ⟨u', eu, ru⟩ := vx.get ev
  have e2 : u' = x := by
   have t := (List.getElem?_eq_some_iff.mp eu).2
   rw [<- t]; exact hx.1
  subst e2
  refine wpAny_bind (wpAny_attempt (kk.run _ pins st H' _ u' ds[kvs.length] _ I' (openQ kp hq) gd ⟨v, ru, iv.carry (carryQ kp)⟩ (hP _ (getElem_mem hd)).1 fun k H2 s2 I2 sm ⟨kv, rk, ik⟩ => ?_))
  dsimp only
  have hq2 : H2 q = some (.lst kvs) := sm.at hq
  obtain ⟨zl, its, n2, rv, ll, ho2⟩ := I2.lstM hq2
  refine wpAny_bind (listUpdate_at ho2 rfl (wpAny_pure ?_) (by simp only [size_toArray, sizeLine_eq]; omega) (by simp only [Array.size_push, size_toArray, sizeLine_eq]; omega))
  dsimp only
  refine ⟨upd H2 q (.lst (kvs ++ [kv])), kvs ++ [kv], I2.lset (t' := s2.toks) (its' := its ++ [k]) hq2 ho2 (by simp) (rv.append (.cons rk .nil)) (by simp only [List.length_append, length_cons, List.length_nil, sizeLine_eq]; omega), ⟨(kp.trans sm).write Hq0 hq2, by rw [upd_ne neq]; exact sm.at hae⟩, upd_same, ?_, by simp; omega, by simp [hx.2], ?_⟩
  . exact kk.write hq2 (fun z => z.2 rfl) (kk.same sm gd)
  . have e3 : (ds.take (kvs ++ [kv]).length).map f = (ds.take kvs.length).map f ++ [f ds[kvs.length]] := by
     rw [List.length_append, length_cons, List.length_nil, take_add_one, map_append]
     simp [hd]
    rw [e3]
    have cw : Carry X.K H2 ⟨Z.m, fun b => Z.S b /\ b ≠ q⟩ (upd H2 q (.lst (kvs ++ [kv]))) ⟨Z.m, fun b => Z.S b /\ b ≠ q⟩ := Carry.write hq2 (fun z => z.2 rfl)
    exact ((jn.same sm).carry cw).append (Ins.one (ik.carry cw))
 case over =>
  rintro _ st ⟨H', kvs, I', ⟨kp, hae⟩, hq, gd, hle, hr, jn⟩
  have hlen : kvs.length = us.length := by
   have := congrArg List.length hr
   simp at this; omega
  have jn' : Ins X.K H' ⟨Z.m, fun b => Z.S b /\ b ≠ q⟩ (ds.map f) kvs := by
   rw [hlen, show us.length = ds.length by omega, take_length] at jn; exact jn
  obtain ⟨zl, ks, n2, rv, ll, ho2⟩ := I'.lstM hq
  refine wpAny_bind (listItems_at ho2 rfl ?_)
  have pr := pairs_key (K := X.K) (by omega) vx jn' rv
  have hsz : ks.toArray.size = us.toArray.size := by simp; omega
  -- behind the sort
  have tail : ∀ (tt : SortSt) (prs : List (V × D)), failedOf tt = none -> prs.Perm (xs.zip ds) -> Vals (prs.map (·.1)) ((arrOf tt).map (·.2)).toList -> prs.map (·.2) = srt f ds ->
   wpAny (model X.prog X.w) A (do
    Builtin.List.listUpdate (.ref q) (fun _ => #[])
    letGo ((arrOf tt).map (·.1)).toList (failedOf tt).toList
    let touched := (<- seqEpoch a) != m
    Builtin.List.listUpdate (.ref a) (fun _ => (arrOf tt).map (·.2))
    if let some e := failedOf tt then rule "list.sort.comparison-raised"; throw e
    if touched then rule "list.sort.modified"; raiseError "ValueError" "list modified during sort"
    ret .none) R E st := by
   intro tt prs ok pp vv e
   refine wpAny_bind (listUpdate_at ho2 rfl ?_ (by simp only [size_toArray, sizeLine_eq]; omega) (by simp))
   have I5 := I'.lset (t' := st.toks) (its' := []) (ys := []) (f := fun _ => #[]) hq ho2 (by simp) .nil (by simp)
   have ha5 : upd H' q (.lst []) a = some (.ext fun h => h.get? a = some (seqObj "list" #[] m)) := by rw [upd_ne neq]; exact hae
   have ho5 : ({ st with heap := st.heap.update q (Obj.mapSeq fun _ => #[]), toks := st.toks } : Shared).heap.get? a = some (seqObj "list" #[] m) := (I5.hok a _ ha5).1
   refine wpAny_bind (wpAny_letGo ?_)
   refine wpAny_bind (seqEpoch_at (s := { st with heap := st.heap.update q (Obj.mapSeq fun _ => #[]), toks := st.toks }) ho5 rfl ?_)
   have nout : ((arrOf tt).map (·.2)).size <= sizeLine := by
    have z := vv.length
    have z3 := pp.length_eq
    rw [List.length_zip] at z3
    rw [length_map] at z
    rw [<- Array.length_toList, <- z, z3, sizeLine_eq]; omega
   refine wpAny_bind (listUpdate_at (s := { st with heap := st.heap.update q (Obj.mapSeq fun _ => #[]), toks := st.toks }) ho5 rfl ?_ (by simp) (Nat.le_succ_of_le nout))
   rw [ok]
   simp only [bne_self_eq_false, Bool.false_eq_true, if_false]
   obtain ⟨e6, qo⟩ : ∃ e6, ((st.heap.update q (Obj.mapSeq fun _ => #[])).update a (Obj.mapSeq fun _ => (arrOf tt).map (·.2))).get? a = some (seqObj "list" ((arrOf tt).map (·.2)) e6) := ⟨_, get?_update_seq ho5 (fun _ => (arrOf tt).map (·.2))⟩
   have I6 : Inv X pins σ (upd (upd H' q (.lst [])) a (.lst (prs.map (·.1)))) { st with heap := (st.heap.update q (Obj.mapSeq fun _ => #[])).update a (Obj.mapSeq fun _ => (arrOf tt).map (·.2)), toks := st.toks } := by
    refine I5.write (x := a) (e := a) (by rw [ha5]; exact trivial) (.inl rfl) (fun b u nb hb => (Heap.get?_update_other _ _ (Ne.symm nb)).trans hb) ⟨_, qo⟩ ?_
    refine ⟨?_, ((arrOf tt).map (·.2)).toList, e6, vv, by rw [Array.toArray_toList]; exact qo⟩
    rw [vv.length, Array.length_toList]; exact nout
   have sm5 : Same H (upd H' q (.lst [])) := kp.write Hq0 hq
   have sm6 : Same H (upd (upd H' q (.lst [])) a (.lst (prs.map (·.1)))) := ⟨fun b o eb n => by rw [upd_ne (ne_of_none eb Ha0)]; exact sm5.get b o eb n, fun b qs eb => by rw [upd_ne (ne_of_none eb Ha0)]; exact sm5.tbl b qs eb, fun t => (sm5.tabs t).updE ha5 fun qn z => by
    have z2 := (I5.hok a _ ha5).1
    rw [<- z] at z2
    obtain ⟨c3, o3, vs3, t3, e3, g3, d3, _⟩ := z2
    cases e3
    rw [ho5] at g3
    cases g3
    cases d3⟩
   exact wpAny_pure (fin _ _ prs I6 sm6 Ha0 upd_same pp e)
  by_cases few : us.toArray.size < 2
  . rw [if_pos few, if_pos few]
    refine wpAny_bind (wpAny_pure ?_)
    dsimp only
    rw [StateT.run_pure]
    refine wpAny_bind (wpAny_pure ?_)
    dsimp only
    refine tail (SortSt.mk' general' (ks.toArray.zip us.toArray) #[] 7 none) (xs.zip ds) rfl (.refl _) ?_ ?_
    . have e1 : ((ks.toArray.zip us.toArray).map (·.2)).toList = us := by
       simp only [List.zip_toArray, List.map_toArray]
       exact List.map_snd_zip (by omega)
      have e2 : (xs.zip ds).map (·.1) = xs := List.map_fst_zip (by omega)
      rw [e2]
      show Vals xs ((ks.toArray.zip us.toArray).map (·.2)).toList
      rw [e1]; exact vx
    . have e2 : (xs.zip ds).map (·.2) = ds := List.map_snd_zip (by omega)
      rw [e2]
      simp at few
      match ds, z1 with
      | [], _ => simp [srt]
      | [d], _ => simp [srt]
      | d :: d2 :: r, z => simp at z; omega
  . rw [if_neg few, if_neg few]
    have l2 : 2 <= us.length := by simp at few; omega
    have el : ∀ u ∈ ks, ∃ d, P d /\ Tells X.K H' ⟨Z.m, fun b => Z.S b /\ b ≠ q⟩ u d /\ A.units + d.dep < cLine := fun u hu => by
     obtain ⟨i, hi, e⟩ := List.mem_iff_getElem.mp hu
     have hd : i < ds.length := by omega
     obtain ⟨v, ev, iv⟩ := jn'.get (i := i) (d := f ds[i]) (by simp [hd])
     obtain ⟨u', eu, ru⟩ := rv.get ev
     have e2 : u' = u := by
      have t := (List.getElem?_eq_some_iff.mp eu).2
      rw [<- t]; exact e
     exact ⟨_, (hP _ (getElem_mem hd)).2.1, ⟨v, e2 ▸ ru, iv⟩, (hP _ (getElem_mem hd)).2.2⟩
    have kn0 : ks ≠ [] := fun z => by rw [z] at ll; simp only [List.length_nil] at ll; omega
    refine wpAny_bind (kind_ok kn I' (fun u hu => let ⟨d, p1, p2, _⟩ := el u hu; ⟨d, p1, p2⟩) kn0 ?_)
    have hd0 : 0 < ds.length := by omega
    have esz : (ks.toArray.zip us.toArray).size = us.length := by simp; omega
    have elist : (ks.toArray.zip us.toArray).toList = ks.zip us := by simp
    refine wpAny_bind (wpAny_mono (run_sort (κ := kap X.K H' ⟨Z.m, fun b => Z.S b /\ b ≠ q⟩ P L ⟨f ds[0], (hP _ (getElem_mem hd0)).2.1⟩) (kd := kd) (a0 := ks.toArray.zip us.toArray) (st := SortSt.mk' kd (ks.toArray.zip us.toArray) #[] 7 none)
     (Q := fun _ t => (arrOf t).Perm (ks.toArray.zip us.toArray) /\ failedOf t = none /\ SortedToK (kap X.K H' ⟨Z.m, fun b => Z.S b /\ b ≠ q⟩ P L ⟨f ds[0], (hP _ (getElem_mem hd0)).2.1⟩) (arrOf t) (ks.toArray.zip us.toArray).size)
     (asks_ok kn L I' fun p hp => el p.1 (by rw [elist] at hp; exact (List.of_mem_zip hp).1)) (by rw [esz]; exact l2) (by rw [esz]; exact h64) ⟨Array.Perm.refl _, rfl, rfl, rfl⟩ fun t a1 a2 a3 => ⟨a1, a2, a3⟩) ?_ fun _ _ e => e)
    rintro ⟨⟨⟩, t⟩ s' ⟨rfl, pm, ok, up⟩
    dsimp only
    rw [<- elist] at pr
    obtain ⟨prs, pp, vv, pw⟩ := sort_out I' L pr (fun z hz => (hP _ (List.of_mem_zip hz).2).2.1) pm up
    refine tail t prs ok pp vv (srt_one L (f := f) (fun d hd => (hP d hd).2.1) inj ?_ pw)
    have e2 : (xs.zip ds).map (·.2) = ds := List.map_snd_zip (by omega)
    have pp2 := pp.map (·.2)
    rw [e2] at pp2
    exact pp2
end
theorem among_app {pos : Pos} {a b : Int} {c cv : Value} (l : List Value) (h : TriplesOk l) (e : codeAmong pos (l ++ [rawInt a, rawInt b, c]) = some cv) : codeAmong pos l = some cv \/ cv = c := by
 fun_induction TriplesOk l with
 | case1 =>
  simp only [List.nil_append, codeAmong, rawInt] at e
  split at e
  . exact .inr (Option.some.inj e).symm
  . cases e
 | case2 a' t b' u x rest ih =>
  simp only [cons_append, codeAmong] at e ⊢
  split at e
  . rename_i hc; rw [if_pos hc]; exact .inl e
  . rename_i hc; rw [if_neg hc]; exact ih h e
 | case3 l h1 h2 => exact h.elim
section
variable {X : Cx} {pins : List (Addr × Obj)} {σ : St} {H : Hp} {s : Shared} {P c f : Addr} {ps more : Array Value} {h' : Heap} {t' : Nat}
theorem inv_lam (I : Inv X pins σ H s) (hP : H P = some (.tbl ps)) (k : ∀ b o, b ≠ P -> s.heap.get? b = some o -> h'.get? b = some o) (htb : h'.get? P = some { cls := .none, data := .fields (ps ++ more) }) {u v : HO} (hc : s.heap.objs.size <= c) (hf : s.heap.objs.size <= f) (cf : c ≠ f)
 (oc : ObjOk X.prog X.w (upd (upd (upd H P (.tbl (ps ++ more))) c u) f v) h' c u) (of : ObjOk X.prog X.w (upd (upd (upd H P (.tbl (ps ++ more))) c u) f v) h' f v) :
 Inv X pins σ (upd (upd (upd H P (.tbl (ps ++ more))) c u) f v) { s with heap := h', toks := t' } := by
 have Hc : H c = none := I.hok.fresh hc
 have Hf : H f = none := I.hok.fresh hf
 have Pc : P ≠ c := ne_of_none hP Hc
 have Pf : P ≠ f := ne_of_none hP Hf
 have get : ∀ {b : Addr} {o : HO}, H b = some o -> b ≠ P -> upd (upd (upd H P (.tbl (ps ++ more))) c u) f v b = some o := fun {b o} e n => by
  rw [upd_ne (ne_of_none e Hf), upd_ne (ne_of_none e Hc), upd_ne n]; exact e
 have getP : upd (upd (upd H P (.tbl (ps ++ more))) c u) f v P = some (.tbl (ps ++ more)) := by rw [upd_ne Pf, upd_ne Pc, upd_same]
 refine I.un ⟨fun b o e n hb _ => ?_, fun b o e n hb _ => ?_, fun b o e n _ => ?_, fun b o e _ => ?_, fun b xs e => ?_, fun b o u' e => ?_, fun b qs e => ?_⟩ fun b o e => ?_
 . exact k b o (fun z => by rw [z, hP] at n; cases n) e
 . exact ⟨o.slots, k b o (fun z => by rw [z, hP] at n; cases n) e⟩
 . have lb := lt_size e
   have n1 : b ≠ P := fun z => by rw [z, hP] at n; cases n
   rw [upd_ne (Nat.ne_of_lt (Nat.lt_of_lt_of_le lb hf)), upd_ne (Nat.ne_of_lt (Nat.lt_of_lt_of_le lb hc)), upd_ne n1]; exact n
 . by_cases z : b = P
   . exact ⟨_, by rw [z]; exact htb⟩
   . exact ⟨o, k b o z e⟩
 . exact get e (ne_of e hP (by intro z; cases z))
 . exact get e (ne_of e hP (by intro z; cases z))
 . by_cases z : b = P
   . rw [z, hP] at e
     cases e
     exact ⟨more, by rw [z]; exact getP⟩
   . exact ⟨#[], by rw [get e z]; simp⟩
 . by_cases z1 : b = f
   . subst z1; rw [upd_same] at e; cases e; exact of
   . rw [upd_ne z1] at e
     by_cases z2 : b = c
     . subst z2; rw [upd_same] at e; cases e; exact oc
     . rw [upd_ne z2] at e
       by_cases z3 : b = P
       . subst z3; rw [upd_same] at e; cases e; exact htb
       . rw [upd_ne z3] at e
         refine (I.hok b o e).stay (fun b' v' hb' q => k b' v' ?_ q) (fun b' q => get q (ne_of q hP (by intro z; cases z))) fun b' xs q => get q (ne_of q hP (by intro z; cases z))
         rcases hb' with z | z
         . rw [z]; exact z3
         . exact ne_of z hP (by intro z; cases z)
theorem tabs_lam {qn : Str} {pos : Pos} {v : HO} (t : TabsOk H) (hT : (P, qn) ∈ Tabs.T) (one : ∀ q ∈ Tabs.T, q.1 = P -> q.2 = qn) (hP : H P = some (.tbl ps)) (hn : codeAmong pos ps.toList = none) (Hc : H c = none) (Hf : H f = none) (cf : c ≠ f) :
 TabsOk (upd (upd (upd H P (.tbl (ps ++ #[rawInt pos.line, rawInt pos.col, .ref c]))) c (recO c qn)) f v) := fun Q hQ => by
 obtain ⟨qs, e, tr, kq⟩ := t Q hQ
 have ne : ∀ {b : Addr} {o : HO}, H b = some o -> b ≠ P -> upd (upd (upd H P (.tbl (ps ++ #[rawInt pos.line, rawInt pos.col, .ref c]))) c (recO c qn)) f v b = some o := fun {b o} e n => by
  rw [upd_ne (ne_of_none e Hf), upd_ne (ne_of_none e Hc), upd_ne n]; exact e
 by_cases z : Q.1 = P
 . have qe := one Q hQ z
   rw [z, hP] at e
   cases e
   refine ⟨ps ++ #[rawInt pos.line, rawInt pos.col, .ref c], by rw [z, upd_ne (ne_of_none hP Hf), upd_ne (ne_of_none hP Hc), upd_same], ?_, fun pos' cv q => ?_⟩
   . rw [Array.toList_append]; exact TriplesOk_snoc _ _ _ _ tr
   . rw [Array.toList_append] at q
     rcases among_app _ tr q with q | q
     . obtain ⟨c', rfl, hc'⟩ := kq pos' cv q
       exact ⟨c', rfl, ne hc' (ne_of hc' hP (by intro z; cases z))⟩
     . exact ⟨c, q, by rw [upd_ne cf, upd_same, qe]⟩
 . refine ⟨qs, ne e z, tr, fun pos' cv q => ?_⟩
   obtain ⟨c', rfl, hc'⟩ := kq pos' cv q
   exact ⟨c', rfl, ne hc' (ne_of hc' hP (by intro z; cases z))⟩
def BmB (mg : Str -> Option Value) (base : Heap) : Prop := ∃ bm o, mg "__builtins__" = some (.ref bm) /\ base.get? bm = some o /\ bm ≠ builtinsNs /\ bm ≠ mainGlobals /\ o.cls = .type "module" /\ o.dict = some builtinsNs /\ o.data = .plain
structure LamCx (X : Cx) (c P : Addr) (qn : Str) : Prop where
 code : X.env.code = .ref c
 hd : codeHdIn X.K c P = true
 tab : (P, qn) ∈ Tabs.T
 one : ∀ q ∈ Tabs.T, q.1 = P -> q.2 = qn
 qual : X.env.qual ++ ("<lambda>" : Str) = qn
 bm : BmB X.mg X.base
 gP : mainGlobals ≠ P
variable {A : Around} {E : Value -> Shared -> Prop} {params : Arguments} {body : Expr} {scope : Scope} {lpos : Pos} {clos : List (Str × Addr)} {qn : Str}
abbrev lamO (f : Addr) (qn : Str) (params : Arguments) (body : Expr) (scope : Scope) (clos : List (Str × Addr)) (pm : Value) (c : Addr) (ctv : Value) : HO := .ext fun h => h.get? f = some (kla_obj "<lambda>" qn params body scope clos pm c ctv)
theorem lam_eval (LC : LamCx X c P qn) (I : Inv X pins σ H s) (t : TabsOk H) (hdef : defaultsOf params X.env = ([], [])) (hcl : closureFor scope X.env = pure clos) {Q : Value -> Shared -> Prop}
 (h : ∀ f c' pm ctv H' s', Inv X pins σ H' s' -> Same H H' -> H f = none -> H' f = some (lamO f qn params body scope clos pm c' ctv) -> H' c' = some (recO c' qn) -> Q (.ref f) s') :
 wpAny (model X.prog X.w) A (eval (.Lambda params body scope lpos) X.env) Q E s := by
 obtain ⟨ps, hP, tr, kq⟩ := t _ LC.tab
 dsimp only at hP kq
 have hPo : s.heap.get? P = some { cls := .none, data := .fields ps } := I.hok P _ hP
 have hg : s.heap.Ns mainGlobals X.mg := I.ok.mod.glob.keeps I.bk
 have C : PySem.W.CodeHd s.heap c P := PySem.W.codeHd_of_K I.kIn LC.hd
 obtain ⟨bm, ob, b1, b2, b3, b4, b6, b7, b8⟩ := LC.bm
 have b5 : bm ≠ P := fun z => by
  have e := I.bk _ _ b2
  rw [z, hPo] at e
  cases e
  cases b6
 have hB : s.heap.BuiltinsAt X.mg P := ⟨bm, ob, b1, b3, b4, b5, I.bk _ _ b2, b6, b7, b8⟩
 refine PySem.W.kla_eval hdef ?_
 rw [LC.qual]
 cases hq : codeAmong lpos ps.toList with
 | none =>
  refine PySem.W.kla_makeFunction hcl I.ok.glob hg LC.code C hPo tr hq LC.gP hB fun c' ctv h' tk hx hge hlt hrec htb => ?_
  have hle : s.heap.objs.size <= h'.objs.size := Nat.le_trans hge (Nat.le_of_lt hlt)
  have cf : c' ≠ h'.objs.size := Nat.ne_of_lt hlt
  have Hc : H c' = none := I.hok.fresh hge
  have Hf : H h'.objs.size = none := I.hok.fresh hle
  have Pc : P ≠ c' := ne_of_none hP Hc
  have Pf : P ≠ h'.objs.size := ne_of_none hP Hf
  obtain ⟨c2, oc, vs, tq, e2, hoc, hdc⟩ := id hrec
  cases e2
  have I2 := inv_lam (t' := tk) (u := recO c' qn) (v := lamO h'.objs.size qn params body scope clos ((X.mg "__name__").getD .none) c' ctv) (h' := h'.push (kla_obj "<lambda>" qn params body scope clos ((X.mg "__name__").getD .none) c' ctv)) (f := h'.objs.size) I hP
   (fun b o nb e => get?_push_of_some _ (hx b o nb e)) (get?_push_of_some _ htb) hge hle cf
   ⟨hrec.push _, ⟨_, get?_push_of_some _ hoc⟩, fun g1 g2 z k => by
    obtain ⟨c3, o3, vs3, t3, e3, h3, r3⟩ := z
    cases e3
    exact ⟨c', o3, vs3, t3, rfl, k _ h3, r3⟩⟩
   ⟨get?_push_size _ rfl, ⟨_, get?_push_size _ rfl⟩, fun g1 g2 z k => k _ z⟩
  refine h h'.objs.size c' _ ctv _ _ I2 ⟨fun b o e n => ?_, fun b qs e => ?_, fun t => tabs_lam t LC.tab LC.one hP hq Hc Hf cf⟩ Hf upd_same (by rw [upd_ne cf, upd_same])
  . have nP : b ≠ P := fun z => by rw [z, hP] at e; cases e; cases n
    rw [upd_ne (ne_of_none e Hf), upd_ne (ne_of_none e Hc), upd_ne nP]; exact e
  . by_cases z : b = P
    . exact ⟨_, by rw [z, upd_ne Pf, upd_ne Pc, upd_same]⟩
    . exact ⟨qs, by rw [upd_ne (ne_of_none e Hf), upd_ne (ne_of_none e Hc), upd_ne z]; exact e⟩
 | some cv =>
  obtain ⟨c', rfl, hc'⟩ := kq lpos cv hq
  refine PySem.W.kla_makeFunctionHit hcl I.ok.glob hg LC.code C hPo tr hq hB fun ctv h' tk hk hsz => ?_
  have Hf : H h'.objs.size = none := I.hok.fresh hsz
  have I2 : Inv X pins σ (upd H h'.objs.size (lamO h'.objs.size qn params body scope clos ((X.mg "__name__").getD .none) c' ctv)) { s with heap := h'.push (kla_obj "<lambda>" qn params body scope clos ((X.mg "__name__").getD .none) c' ctv), toks := tk } :=
   I.laid (fun b o e => get?_push_of_some _ (hk b o e)) hsz ⟨get?_push_size _ rfl, ⟨_, get?_push_size _ rfl⟩, fun g1 g2 z k => k _ z⟩
  exact h h'.objs.size c' _ ctv _ _ I2 (same_new Hf) Hf upd_same ((same_new Hf).at hc')
end
def cxLam (X : Cx) (A : Around) (N : List Str) (qn : Str) (scope : Scope) (clos : List (Str × Addr)) (f c : Addr) (s : Shared) (H : Hp) (R : Result -> Shared -> Prop) : Cx where
 prog := X.prog
 w := X.w
 K := X.K
 mg := X.mg
 base := X.base
 A := A.deeper (envX qn scope s.heap.objs.size f (.ref c) clos)
 N := N
 s₀ := s
 H₀ := H
 env := envX qn scope s.heap.objs.size f (.ref c) clos
 outer := X.stack
 stack := envX qn scope s.heap.objs.size f (.ref c) clos :: X.stack
 ex := []
 calm := true
 fn := fun _ => false
 pn := []
 xe := fun e s' => wpAny (model X.prog X.w) (A.deeper (envX qn scope s.heap.objs.size f (.ref c) clos)) (leaving (envX qn scope s.heap.objs.size f (.ref c) clos) e) (fun _ s'' => R (.error e) s'') (fun e' s'' => R (.error e') s'') s'
structure LamOk (X : Cx) (scope : Scope) (clos : List (Str × Addr)) (p : Str) (caps : List (Str × Nat)) : Prop where
 kind : scope.kind = .function
 co : scope.isCoroutine = false
 gen : scope.isGenerator = false
 nocell : ∀ x ∈ scope.names, x.2 ≠ .cell
 par : scope.names.lookup p = some .local
 cap : ∀ q ∈ caps, X.N[q.2]? = some q.1 /\ X.env.kindOf q.1 = some .cell /\ clos.lookup q.1 = X.env.cells.lookup q.1 /\ scope.names.lookup q.1 = some .free
 sub : ∀ x c, clos.lookup x = some c -> X.env.cells.lookup x = some c
 has : ∀ x, scope.names.lookup x = some .free -> ∃ c, clos.lookup x = some c
section
variable {X : Cx} {pins : List (Addr × Obj)} {σ : St} {H : Hp} {s : Shared} {f c : Addr} {A : Around} {scope : Scope} {clos : List (Str × Addr)} {p qn : Str} {caps : List (Str × Nat)}
theorem inv_lamStart (I : Inv X pins σ H s) (L : LamOk X scope clos p caps) (hd : A.handled = none) (e0 : Env0 X.prog X.w X.K X.mg X.base A X.stack s H) {u : Value} {v : V} (r : RelV v u) {h1 : Heap} {tk : Nat} {R : Result -> Shared -> Prop}
 (hns : h1.Ns s.heap.objs.size fun x => [(p, u)].reverse.lookup x) (hk : ∀ b o, s.heap.get? b = some o -> h1.get? b = some o) :
 Inv (cxLam X A (p :: caps.map (·.1)) qn scope clos f c s H R) [] ([some v] ++ capsOf (caps.map (·.2)) σ) H { s with heap := h1, toks := tk } := by
 have noA : ∀ b : Addr, b ∉ (cxLam X A (p :: caps.map (·.1)) qn scope clos f c s H R).ex := fun b z => absurd (show b ∈ ([] : List Addr) from z) (by simp)
 refine ⟨⟨e0.mod, L.kind, rfl, rfl, Nat.le_refl _, fun y z c' h1 h2 => ?_, fun y hy => ?_, fun y c' z _ => ?_, fun _ => hd, Around.frames_deeper e0.frames, .inr ⟨rfl, rfl⟩, fun b z => absurd z (noA b), e0.bs, e0.bsz, fun b _ _ => noA b, fun b z => absurd z (noA b), e0.funs, e0.frf⟩,
  rfl, e0.bare, Un.kept hk, ⟨_, hns, fun i y v' h1 h2 h3 => ?_⟩, fun y c' h => ?_, e0.hok.fresh (Nat.le_refl _), fun y c' h => ?_, fun p hp => absurd (show p ∈ ([] : List (Addr × Obj)) from hp) (by simp), e0.hok.kept hk, ?_⟩
 . exact I.ok.inj y z c' (L.sub y c' h1) (L.sub z c' h2)
 . have hy : scope.names.lookup y = some .cell \/ scope.names.lookup y = some .free := hy
   rcases hy with hy | hy
   . exact absurd rfl (L.nocell _ (PySem.mem_of_lookup hy))
   . exact L.has y hy
 . exact absurd (show false = true from z) (by simp)
 . cases i with
   | zero =>
    have e1 : p = y := by simpa [cxLam] using h1
    have e2 : v = v' := by simpa using h2
    subst e1 e2
    exact ⟨u, r, .inl ⟨L.par, by simp⟩⟩
   | succ i =>
    have e1 : (caps.map (·.1))[i]? = some y := by simpa [cxLam] using h1
    have e2 : (capsOf (caps.map (·.2)) σ)[i]? = some (some v') := by simpa using h2
    rw [getElem?_map] at e1
    cases eq : caps[i]? with
    | none => rw [eq] at e1; cases e1
    | some q =>
     rw [eq] at e1
     have e3 : q.1 = y := by simpa using e1
     subst e3
     obtain ⟨c1, c2, c3, c4⟩ := L.cap q (mem_of_getElem? eq)
     unfold capsOf at e2
     rw [getElem?_map, getElem?_map, eq] at e2
     have e4 : (σ[q.2]?).join = some v' := by simpa using e2
     have e5 : σ[q.2]? = some (some v') := by
      cases z : σ[q.2]? with
      | none => rw [z] at e4; cases e4
      | some w => rw [z] at e4; exact congrArg some e4
     obtain ⟨m0, hn0, hl0⟩ := I.loc
     obtain ⟨u', r', lk⟩ := hl0 q.2 q.1 v' c1 e5 (.inr (.inl c2))
     refine ⟨u', r', .inr ⟨.inr c4, ?_⟩⟩
     rcases lk with ⟨k1, _⟩ | ⟨_, c', lc, o, ho, hdo⟩
     . rw [c2] at k1; cases k1
     . exact ⟨c', c3.trans lc, o, hk _ _ ho, hdo⟩
 . obtain ⟨v, o, ho, hd⟩ := I.cell y c' (L.sub y c' h)
   exact ⟨v, o, hk _ _ ho, hd⟩
 . exact I.freeC y c' (L.sub y c' h)
 . simp [capsOf, cxLam]
def LamIn (K : Frag) (σ : St) (ρ : List (Option D)) (f c : Addr) (qn : Str) (params : Arguments) (body : Expr) (scope : Scope) (clos : List (Str × Addr)) (pm ctv : Value) (H : Hp) (Z : Zone) : Prop :=
 H f = some (lamO f qn params body scope clos pm c ctv) /\ H c = some (recO c qn) /\ EnvIn K H Z σ ρ
variable {ρ : List (Option D)} {params : Arguments} {body : Expr} {pm ctv : Value} {g : D -> D} {P0 : D -> Prop} {m : Bool}
theorem lam_keys (L : LamOk X scope clos p caps) (hd : A.handled = none) (hA : A.frames = X.A.frames) (hroom : A.depth < recursionLimit)
 (hb : ∀ u, bindArgs (PySem.W.kla_fn "<lambda>" qn params body scope clos pm (.ref c) ctv) ⟨[u], []⟩ = pure [(p, u)])
 (hbody : ∀ (s : Shared) (H : Hp) (R : Result -> Shared -> Prop) (d : D), P0 d -> E (cxLam X A (p :: caps.map (·.1)) qn scope clos f c s H R) m ([some d] ++ capD (caps.map (·.2)) ρ) body (g d)) :
 Keys X A σ f g P0 (LamIn X.K σ ρ f c qn params body scope clos pm ctv) where
 zone := fun {H Z Z'} hS hm ⟨a, b, en⟩ => ⟨a, b, fun i d e => let ⟨v, x, y⟩ := en i d e; ⟨v, x, y.carry (.of (Same.refl H) (fun a xs e z => hS a _ e z) hm)⟩⟩
 same := fun {H H' Z} sm ⟨a, b, en⟩ => ⟨sm.at a, sm.at b, en.same sm⟩
 write := fun {H Z l xs ys} hl n ⟨a, b, en⟩ => ⟨by rw [upd_ne (ne_of a hl (by intro z; cases z))]; exact a, by rw [upd_ne (ne_of b hl (by intro z; cases z))]; exact b, fun i d e => let ⟨v, x, y⟩ := en i d e; ⟨v, x, y.carry (.write hl n)⟩⟩
 run := fun E' pins s H Z u d Q I oz ⟨ga, gb, en⟩ ⟨v, r, iv⟩ p0 k => by
  have hfo : s.heap.get? f = some (kla_obj "<lambda>" qn params body scope clos pm c ctv) := (I.hok f _ ga).1
  have hrec : s.heap.CodeRec (.ref c) qn := (I.hok c _ gb).1
  have e0 : Env0 X.prog X.w X.K X.mg X.base A X.stack s H := ⟨hA.trans I.env0.frames, I.env0.mod, I.env0.bs, I.env0.bsz, I.env0.funs, I.env0.frf, I.env0.hok, I.env0.bare⟩
  refine wpAny_call (PySem.W.kla_callFunE hroom hfo rfl L.co L.gen rfl hrec ?_)
  rw [hb u]
  refine wpAny_pure (wpAny_newFunctionEnv L.nocell (fun x hx => ?_) (fun h1 hns hsb => ⟨I.nolimit.fresh _ hsb, ?_⟩) L.kind)
  . have : x = (p, u) := by simpa using hx
    rw [this]; exact L.par
  . show codeAny _ _ (.expr body (envX qn scope s.heap.objs.size f (.ref c) clos)) _ _
    have hk1 : ∀ b o, s.heap.get? b = some o -> h1.get? b = some o := fun b o e => hsb.extBut b o (Nat.ne_of_lt (lt_size e)) (get?_push_of_some _ e)
    refine PySem.W.kla_codeExpr ?_
    have J := inv_lamStart (f := f) (c := c) (qn := qn) (R := fun r s' => match r with | .ok (.ret v) => Q v s' | .ok _ => False | .error e => E' e s') (tk := s.toks + 1) I L hd e0 r hns hk1
    have en2 : EnvIn X.K H Z ([some v] ++ capsOf (caps.map (·.2)) σ) ([some d] ++ capD (caps.map (·.2)) ρ) := envIn_caps en rfl fun i d' e => by
     match i, e with
     | 0, e => cases e; exact ⟨v, rfl, iv⟩
    have run := hbody s H (fun r s' => match r with | .ok (.ret v) => Q v s' | .ok _ => False | .error e => E' e s') d p0 [] _ _ H (fun v' H' => Same H H' /\ In X.K H' (out m Z H) (g d) v') J ⟨Z, oz, en2, fun v' H' sm i => ⟨sm, i⟩⟩
    refine wpAny_mono run (fun w s' ⟨v', H', J', rw', sm, iw⟩ => ?_) fun _ _ z => z
    obtain ⟨v2, H2, I2, r2, sm2, iw2⟩ := I.after (Q := fun v' H' => Same H H' /\ In X.K H' (out m Z H) (g d) v') (u := w) (s' := s') ⟨v', H', J'.os, J'.bare, J'.base, J'.hok, rw', sm, iw⟩
    exact k w H2 s' I2 sm2 ⟨v2, r2, iw2.plain oz⟩
end
theorem args_sortedK (a f : Value) : argsOk "sorted" ⟨[a], [(("key" : Str), f)]⟩ := by unfold argsOk; kernel_rfl
theorem args_sortK (a f : Value) : argsOk "list.sort" ⟨[a], [(("key" : Str), f)]⟩ := by unfold argsOk; kernel_rfl
section
variable {X : Cx} {ρ : List (Option D)} {m m1 mb : Bool} {a : Expr} {ds : List D} {p pos lpos kp : Pos} {P P0 : D -> Prop} {kd : SortKind} {c Pt : Addr} {qn pn : Str} {params : Arguments} {body : Expr} {scope : Scope} {clos : List (Str × Addr)} {caps : List (Str × Nat)} {g : D -> D}
theorem e_sortedK (ha : E X m1 ρ a (.lst ds)) (LC : LamCx X c Pt qn) (LO : LamOk X scope clos pn caps) (hcl : closureFor scope X.env = pure clos)
 (hbody : ∀ (f c' : Addr) (s : Shared) (H : Hp) (R : Result -> Shared -> Prop) (d : D), P0 d -> E (cxLam X X.A.in1.in1 (pn :: caps.map (·.1)) qn scope clos f c' s H R) mb ([some d] ++ capD (caps.map (·.2)) ρ) body (g d))
 (hb : ∀ (c' : Addr) (pm ctv u : Value), bindArgs (PySem.W.kla_fn "<lambda>" qn params body scope clos pm (.ref c') ctv) ⟨[u], []⟩ = pure [(pn, u)])
 (L : Lin P) (kk : KindOf P kd) (hP : ∀ d ∈ ds, P0 d /\ P (g d) /\ X.A.units + 2 + (g d).dep < cLine) (inj : ∀ x ∈ ds, ∀ y ∈ ds, g x = g y -> x = y) (h64 : ds.length < 64) (hh : X.A.handled = none) (hroom : X.A.depth < recursionLimit) (hm : X.mg "sorted" = none)
 (hmm : m = true -> m1 = true \/ flats ds = true := by intro h; first | exact .inl h | cases h) (hdef : defaultsOf params X.env = ([], []) := by rfl)
 (hg : Gl X "sorted" := by rfl) (hs : starEach [a] X.env = [(false, eval a X.env)] := by rfl) : E X m ρ (.Call (.Name "sorted" p) [a] [⟨some "key", .Lambda params body scope lpos, kp⟩] pos) (.lst (srt g ds)) := by
 intro pins s σ H Q I ⟨Z, oz, en, k⟩
 refine wpAny_Call_Name_kw (ld_blt I hg hm boot_sorted ?_ (by decide) (by decide))
 have PAa := pa_cons ha pa_nil (by rw [hs]; rfl)
 refine callWith_kw (thn (PAa pos pins s σ H (fun vs H1 => Same H H1 /\ ∃ x, vs = [x] /\ In X.K H1 (out m1 Z H) (.lst ds) x) I ⟨Z, oz, en, fun x H1 s1 i1 => ⟨s1, x, rfl, i1⟩⟩) fun us s1 ⟨vs, H1, I1, r1, sm1, x, e, i1⟩ => ?_) (by rw [hs]; rfl) (by rw [hs]; rfl) rfl rfl
 subst e
 obtain ⟨l, xs, rfl, at', j⟩ := in_lst.mp i1
 obtain ⟨u, rfl, rx⟩ := vals1 r1
 cases rx
 refine kws_cons (lam_eval LC I1 (sm1.tabs oz.tb) hdef hcl fun f c' pm ctv H2 s2 I2 sm2 Hf hf hc' => ?_)
 refine kws_nil ?_
 show wpAny _ _ (call (.builtin "sorted") [.ref l] [(("key" : Str), .ref f)]) _ _ _
 have sm12 := sm1.trans sm2
 obtain ⟨its, rv, pl, hz⟩ := I2.list (sm2.seq at'.sq)
 have z1 := j.length; have z2 := rv.length
 refine call_function_entry_kw kind_sorted plain_sorted entry_sorted (args_sortedK _ _) ?_
 unfold Builtin.«sorted»
 refine wpAny_bind (m := checkCount "sorted" 1 1 _) (wpAny_pure ?_)
 refine wpAny_bind (collect_list pl.isList ?_ (by omega))
 refine wpAny_bind (wpAny_newList ?_)
 have hsz : ((s2.heap.push (seqObj "list" #[] 0)).update s2.heap.objs.size (Obj.mapSeq (· ++ its.toArray))).objs.size = s2.heap.objs.size + 1 := by
  rw [Heap.size_update, size_push']
 have hoL : (((s2.heap.push (seqObj "list" #[] 0)).update s2.heap.objs.size (Obj.mapSeq (· ++ its.toArray))).push (seqObj "list" its.toArray 0)).get? (s2.heap.objs.size + 1) = some (seqObj "list" its.toArray 0) := by
  rw [<- hsz]; exact get?_push_size _ rfl
 have kp : ∀ b o, s2.heap.get? b = some o -> (((s2.heap.push (seqObj "list" #[] 0)).update s2.heap.objs.size (Obj.mapSeq (· ++ its.toArray))).push (seqObj "list" its.toArray 0)).get? b = some o := fun b o e => by
  have lb := lt_size e
  rw [Heap.get?_push_ne _ _ _ (by rw [hsz]; exact Nat.ne_of_lt (Nat.lt_succ_of_lt lb)), Heap.get?_update_ne _ _ _ _ (Nat.ne_of_lt lb), Heap.get?_push_ne _ _ _ (Nat.ne_of_lt lb)]
  exact e
 show wpAny _ _ _ _ _ { s2 with heap := ((s2.heap.push (seqObj "list" #[] 0)).update s2.heap.objs.size (Obj.mapSeq (· ++ its.toArray))).push (seqObj "list" its.toArray 0), toks := s2.toks }
 rw [hsz]
 have KK : Keys X X.A.in1.in1 σ f g P0 (LamIn X.K σ ρ f c' qn params body scope clos pm ctv) := lam_keys LO hh rfl hroom (hb c' pm ctv) (hbody f c')
 have jz : Ins X.K H2 Z ds xs := by
  have j2 := j.same sm2
  cases m1
  . exact j2
  . exact j2.up oz
 refine wpAny_bind (wpAny_holding (wpAny_call_entry_kw slot_list_sort ⟨_, hoL, rfl⟩ entry_list_sort (sort_key (s := s2) (t1 := s2.toks) KK L kk (fun d hd => hP d hd) inj I2 (oz.same sm12) ⟨hf, hc', en.same sm12⟩ jz rv (by omega) kp (Nat.le_succ _) hoL fun H3 s3 prs I3 sm3 Ha hl3 pp e3 => ⟨_, rfl, ?_⟩) (args_sortK _ _)))
 refine wpAny_pure ⟨_, rfl, .ref (s2.heap.objs.size + 1), H3, I3, rfl, k _ H3 (sm12.trans sm3) (in_lst.mpr ⟨_, _, rfl, .inl ⟨hl3, ?_⟩, ?_⟩)⟩
 . cases m
   . exact oz.op _ (sm12.free Ha)
   . exact sm12.free Ha
 . have j0 := ins_of_mem fun z hz => ins_zip j z (pp.mem_iff.mp hz)
   rw [e3] at j0
   have jc := (j0.same sm2).same sm3
   cases m
   . cases m1
     . exact jc
     . exact jc.up oz
   . rcases hmm rfl with h | h
     . subst h; exact jc
     . exact jc.flat' (flats_perm (srt_perm _ _) h)
end
end Y
namespace Y
open PySem PySem.Spec PyProof.Rows L2
variable [Tabs]
theorem roomDs {k : Nat} {A : Around} {ds : List D} (r : Room k A) (h : deps ds <= 100) : A.units + 1 + deps ds < cLine := by have := r.un; omega
theorem room1 {k : Nat} {A : Around} (r : Room k A) : A.units + 1 < cLine := by have := r.un; omega
section
variable {K : Frag} {H : Hp} {Z Z' : Zone}
theorem in_kD {k : Key} {v : V} (h : In K H Z (kD k) v) : v = kV k := by
 cases k with
 | inl i => exact in_int.mp h
 | inr x => exact in_str.mp h
theorem ins_kD : ∀ {ks : List Key} {vs : List V}, Ins K H Z (ks.map kD) vs -> vs = ks.map kV
 | [], _, h => ins_nil.mp h
 | k :: ks, _, h => by
  obtain ⟨v, r, rfl, a, j⟩ := ins_cons.mp h
  rw [in_kD a, ins_kD j]; rfl
end
section
variable {X : Cx} {ρ : List (Option D)} {m m1 m2 m3 : Bool} {a b c o e f : Expr} {d dk : D} {pos ap cp : Pos} {D0 : DO} {r : Option V}
theorem e_dnewT : E X true ρ (.Dict [] [] pos) (.dct (.t [])) := PE.mono pe_dnewT fun σ H Q z0 => el13 z0 fun Z oz en k => fun p hp => k (.ref p) _ (same_new hp) (in_dct.mpr ⟨p, rfl, upd_same, hp⟩)
end
end Y
namespace Y
def bl (x : Nat) : Nat := if x = 0 then 0 else x.log2 + 1
end Y
namespace Y
open PySem PySem.Spec PyProof.Rows L2
variable [Tabs]
def up2 {α : Type} (z : α) (p : D -> D -> α) : D -> α
 | .tup [a, b] => p a b
 | _ => z
section
variable {X : Cx} {ρ : List (Option D)} {m m1 : Bool} {ds : List D} {pos : Pos}
def tcD2 (K : Frag) (js : List Nat) (ρ : List (Option D)) (ds : List D) (p : D -> D -> Bool) (i : Nat) : TT := fun σ H Q => ∃ a b, ds[i]? = some (.tup [a, b]) /\ tB' K ([some a, some b] ++ capD js ρ) (p a b) σ H Q
def teD2 (K : Frag) (js : List Nat) (ρ : List (Option D)) (ds : List D) (p : D -> D -> Bool) (f : D -> D -> D) (me : Bool) (i : Nat) : TE := fun σ H Q => ∃ a b, ds[i]? = some (.tup [a, b]) /\ p a b = true /\ tE K me ([some a, some b] ++ capD js ρ) (f a b) σ H Q
theorem comp_reads2 {js : List Nat} {me : Bool} (p : D -> D -> Bool) (f : D -> D -> D) (hpair : ∀ d ∈ ds, ∃ a b, d = .tup [a, b]) (hz : ds.length <= sizeLine) (hm : m = true -> me = true \/ ∀ d ∈ ds, (up2 .non f d).flat = true) (σ : St) (H : Hp) (Q : VK) (h : tE X.K m ρ (.lst ((ds.filter (up2 false p)).map (up2 .non f))) σ H Q) :
 tComp (tIT X.K m1 ρ ds) 2 js (gTup X.K 2 (gCons (gName 0) (gCons (gName 1) gNil))) (tcD2 X.K js ρ ds p) (teD2 X.K js ρ ds p f me) σ H Q := by
 obtain ⟨Z, oz, en, k⟩ := h
 refine ⟨Z, oz, en, fun J H1 vs srcs s1 i1 Y l hl => ?_⟩
 have hlH : H l = none := s1.free hl
 have noL : ∀ {ds : List D} {vs : List V} {Z' : Zone} {Ha Hb : Hp}, Ha l = none -> Same Ha Hb -> Ins X.K Ha Z' ds vs -> Ins X.K Hb ⟨Z'.m, fun a => Z'.S a /\ a ≠ l⟩ ds vs := fun {ds vs Z' Ha Hb} ha sa h => Ins.carry (Z' := ⟨Z'.m, fun a => Z'.S a /\ a ≠ l⟩) (Carry.of sa (fun a zs e z => ⟨z, ne_of_none e ha⟩) fun m => m) h
 have noL1 : ∀ {d : D} {v : V} {Z' : Zone} {Ha Hb : Hp}, Ha l = none -> Same Ha Hb -> In X.K Ha Z' d v -> In X.K Hb ⟨Z'.m, fun a => Z'.S a /\ a ≠ l⟩ d v := fun {d v Z' Ha Hb} ha sa h => In.carry (Z' := ⟨Z'.m, fun a => Z'.S a /\ a ≠ l⟩) (Carry.of sa (fun a zs e z => ⟨z, ne_of_none e ha⟩) fun m => m) h
 refine ⟨fun i n xs H' => n = ds.length - i /\ i <= ds.length /\ Same H1 H' /\ H' l = some (.lst xs) /\ xs.length <= i /\ Ins X.K H' ⟨(out m Z H).m, fun a => (out m Z H).S a /\ a ≠ l⟩ (((ds.take i).filter (up2 false p)).map (up2 .non f)) xs, ⟨ds.length, by simp, Nat.zero_le _, same_new hl, upd_same, Nat.zero_le _, by simp; exact ins_nil.mpr rfl⟩, ?_⟩
 rintro i n xs H' ow how ⟨rfl, hi', s1', hl', hxi, jx⟩
 refine ⟨hl', ?_⟩
 have srcsZ : Ins X.K H1 Z srcs vs := by
  cases m1
  . exact i1
  . exact i1.up oz
 let Zl : Zone := ⟨Z.m, fun a => Z.S a /\ a ≠ l⟩
 have opl : ∀ {Ha : Hp} {o : HO}, Same H Ha -> Ha l = some o -> Zl.Open Ha := fun sa e => ⟨fun a ha => ⟨oz.op a (sa.free ha), by rintro rfl; rw [e] at ha; cases ha⟩, sa.tabs oz.tb⟩
 by_cases hlt : i < ds.length
 . have hd0 : ds[i]? = some ds[i] := by simp [hlt]
   obtain ⟨da, db, hab⟩ := hpair ds[i] (getElem_mem hlt)
   have hd : ds[i]? = some (.tup [da, db]) := by rw [hd0, hab]
   obtain ⟨go, yl⟩ := Y.go Zl H' (opl (s1.trans s1') hl') (noL hl s1' srcsZ) i _ hd
   refine .inr ⟨go, fun y H2 hy => ?_⟩
   obtain ⟨s2, iy⟩ := yl y H2 hy
   have hl2 : H2 l = some (.lst xs) := s2.at hl'
   have sH2 : Same H H2 := (s1.trans s1').trans s2
   obtain ⟨w1, w2, rfl⟩ : ∃ w1 w2, ow = [w1, w2] := by
    match ow, how with
    | [w1, w2], _ => exact ⟨w1, w2, rfl⟩
   obtain ⟨ta, txs, rfl, tt, tj⟩ := in_tupS iy
   obtain ⟨v1, r1, rfl, iv1, tj1⟩ := ins_cons.mp tj
   obtain ⟨v2, r2, rfl, iv2, tj2⟩ := ins_cons.mp tj1
   cases ins_nil.mp tj2
   have en2 : EnvIn X.K H2 Zl ([some v1, some v2] ++ capsOf js σ) ([some da, some db] ++ capD js ρ) := envIn_caps (fun i d e => let ⟨v, a, b⟩ := en i d e; ⟨v, a, InT.carry (Z' := Zl) (Carry.of sH2 (fun a zs e z => ⟨z, ne_of_none e hlH⟩) fun m => m) b⟩) rfl fun i d e => by
    match i, e with
    | 0, e => cases e; exact ⟨v1, rfl, iv1⟩
    | 1, e => cases e; exact ⟨v2, rfl, iv2⟩
   refine ⟨ta, _, rfl, tt, rfl, v1, _, rfl, v2, _, rfl, rfl, ⟨[some v1, some v2], rfl, rfl⟩, da, db, hd, Zl, opl sH2 hl2, en2, fun H3 s3 => ?_⟩
   have hl3 : H3 l = some (.lst xs) := s3.at hl2
   have st : (ds.take (i + 1)).filter (up2 false p) = (ds.take i).filter (up2 false p) ++ (if p da db then [D.tup [da, db]] else []) := take_succ_filter (up2 false p) ds i _ hd
   cases hp : p da db with
   | false =>
    refine iteF ?_
    refine ⟨ds.length - (i + 1), by omega, rfl, hlt, (s1'.trans s2).trans s3, hl3, by omega, ?_⟩
    rw [st, hp]
    simp only [Bool.false_eq_true, if_false, append_nil]
    exact jx.same (s2.trans s3)
   | true =>
    refine iteT ?_
    refine ⟨da, db, hd, hp, Zl, opl (sH2.trans s3) hl3, en2.same s3, fun v H4 s4 iv => ?_⟩
    have hl4 : H4 l = some (.lst xs) := s4.at hl3
    refine ⟨hl4, by omega, ds.length - (i + 1), by omega, rfl, hlt, ((s1'.trans s2).trans (s3.trans s4)).write hl hl4, upd_same, by rw [List.length_append]; simp; omega, ?_⟩
    . rw [st, hp]
      simp only [if_true, map_append, map_cons, map_nil]
      have n : ¬ (⟨(out m Z H).m, fun a => (out m Z H).S a /\ a ≠ l⟩ : Zone).S l := fun z => z.2 rfl
      refine Ins.append ((jx.same (s2.trans (s3.trans s4))).carry (.write hl4 n)) (Ins.one ?_)
      refine In.carry (.write hl4 n) ?_
      show In X.K H4 _ (f da db) v
      cases m with
      | false => exact iv.plain (opl (sH2.trans s3) hl3)
      | true =>
       rcases hm rfl with h | h
       . subst h
         exact In.carry (Z := nw H3) (Z' := ⟨true, fun a => H a = none /\ a ≠ l⟩) ⟨fun a zs e z => ⟨e, (sH2.trans s3).free z, by rintro rfl; have z : H3 a = none := z; rw [hl3] at z; cases z⟩, fun m => nwF m, fun _ _ e => e⟩ iv
       . have := h _ (mem_of_getElem? hd)
         exact iv.flat' this
 . have e : i = ds.length := by omega
   subst e
   refine .inl ⟨Y.stop Zl H' (opl (s1.trans s1') hl') (noL hl s1' srcsZ), k (.ref l) H' (s1.trans s1') (in_lst.mpr ⟨l, xs, rfl, .inl ⟨hl', ?_⟩, ?_⟩)⟩
   . cases m
     . exact oz l hlH
     . exact hlH
   . rw [take_length] at jx
     exact Ins.carry (Z := ⟨(out m Z H).m, fun a => (out m Z H).S a /\ a ≠ l⟩) (Z' := out m Z H) (Carry.of (Same.refl H') (fun a zs e z => And.left z) fun m => m) jx
theorem ec_comp2 {elt iter : Expr} {x y : Str} {px py pt : Pos} {kt : Nat} {ifs : List Expr} {scope : Scope} {me : Bool} (caps : List Str) (js : List Nat) (p : D -> D -> Bool) (f : D -> D -> D) (hi : IT X (.Tuple [.Name x px, .Name y py] kt pt) m1 ρ iter ds)
 (hpair : ∀ d ∈ ds, ∃ a b, d = .tup [a, b])
 (ht : ∀ C s H fp a b, D.tup [a, b] ∈ ds -> TS' (blk X ([x, y] ++ caps) scope C s H fp) ([some a, some b] ++ capD js ρ) ifs (p a b)) (he : ∀ C s H fp a b, D.tup [a, b] ∈ ds -> p a b = true -> E (blk X ([x, y] ++ caps) scope C s H fp) me ([some a, some b] ++ capD js ρ) elt (f a b))
 (hz : ds.length <= sizeLine) (hm : m = true -> me = true \/ ∀ d ∈ ds, (up2 .non f d).flat = true := by intro h; first | exact .inl h | cases h) (hc : X.calm = true := by rfl)
 (B : BlkScope X scope [x, y] caps js := by exact ⟨rfl, by decide, by decide, by decide, by decide, by decide, by repeat (first | exact trivial | refine ⟨⟨rfl, by first | exact .inl rfl | exact .inr rfl⟩, ?_⟩), by decide⟩)
 (hs : ∀ x, foldedSetIterable iter X.env x = pure x := by intro _; rfl) (hes : ∀ env : Env, (assignEach [.Name x px, .Name y py] env).map (·.2) = [assign (.Name x px) env, assign (.Name y py) env] := by intro _; rfl) (hes2 : ∀ env : Env, (assignEach [.Name y py] env).map (·.2) = [assign (.Name y py) env] := by intro _; rfl)
 (hen : ∀ env : Env, (assignEach [.Name x px, .Name y py] env).length = 2 := by intro _; rfl) (hst : ∀ env : Env, (assignEach [.Name x px, .Name y py] env).findIdx? (·.1) = none := by intro _; rfl) : EC X m ρ (.ListComp elt [⟨.Tuple [.Name x px, .Name y py] kt pt, iter, ifs, 0⟩] scope pos) (.lst ((ds.filter (up2 false p)).map (up2 .non f))) := by
 have hg1 : ∀ C s H fp, PG (blk X ([x, y] ++ caps) scope C s H fp) (.Name x px) (gName 0) := fun C s H fp => pg_name (i := 0) B.nd rfl (.inl (lookup_relabel_local (B.own x (by simp)))) (.inr (lookup_relabel_local (B.own x (by simp))))
 have hg2 : ∀ C s H fp, PG (blk X ([x, y] ++ caps) scope C s H fp) (.Name y py) (gName 1) := fun C s H fp => pg_name (i := 1) B.nd rfl (.inl (lookup_relabel_local (B.own y (by simp)))) (.inr (lookup_relabel_local (B.own y (by simp))))
 have hg : ∀ C s H fp, PG (blk X ([x, y] ++ caps) scope C s H fp) (.Tuple [.Name x px, .Name y py] kt pt) (gTup X.K 2 (gCons (gName 0) (gCons (gName 1) gNil))) := fun C s H fp =>
  pg_tup (X := blk X ([x, y] ++ caps) scope C s H fp) hc (pgs_cons (hg1 C s H fp) (pgs_cons (hg2 C s H fp) pgs_nil (by rw [hes2]; rfl)) (by rw [hes, hes2])) (hen _) (hst _)
 have ht' : ∀ C s H fp i, PTs (blk X ([x, y] ++ caps) scope C s H fp) ifs (tcD2 X.K js ρ ds p i) := fun C s H fp i pins s' σ H' Q I h => by
  obtain ⟨a, b, hd, h⟩ := h
  exact ht C s H fp a b (mem_of_getElem? hd) pins s' σ H' Q I h
 have he' : ∀ C s H fp i, PE (blk X ([x, y] ++ caps) scope C s H fp) elt (teD2 X.K js ρ ds p f me i) := fun C s H fp i pins s' σ H' Q I h => by
  obtain ⟨a, b, hd, hp, h⟩ := h
  exact he C s H fp a b (mem_of_getElem? hd) hp pins s' σ H' Q I h
 refine ⟨PE.mono (pe_comp (own := [x, y]) (caps := caps) hc B hi hg ht' he' hs) fun σ H Q h => comp_reads2 p f hpair hz hm σ H Q h, fun y' k spos py' hN hk hy hsw hf => ?_⟩
 exact PS.mono' (ps_comp (own := [x, y]) (caps := caps) hN hk hy hc B hi hg ht' he' hsw hf hs) fun Q σ H h => comp_reads2 p f hpair hz hm σ H _ h
end
inductive Pt where
 | word (w : Str)
 | beg (w : Str)
 | fin (w : Str)
 | any
 | upto (n : Nat)
 | inn (q : List (List Pt))
def qpartW (ways uptos : Int) (ws : List Str) (c : Int) : Pt :=
 if part c 30 ways = 0 then .any else if part c 30 ways = 1 then .upto (part c 31 uptos).toNat else
  let z := ws.getD (part c 32 4).toNat ""
  let n := 1 + part c 33 z.length
  if part c 30 ways = 2 then .beg (Txt.slice z none (some n)) else if part c 30 ways = 3 then .fin (Txt.slice z (some ((z.length : Int) - n)) none) else .word z
abbrev pp (ws : List Str) (c : Int) : Pt := qpartW 6 4 ws c
end Y
namespace Y
open PySem PySem.Spec PyProof.Rows L2
variable [Tabs]
section
variable {X : Cx} {ρ : List (Option D)} {m m1 m2 m3 : Bool} {tg a b c : Expr} {p pos : Pos}
theorem op_notInD : OpR X (compareOp .NotIn) (fun x y H Q => ∃ ds d Z Z', In X.K H Z d x /\ In X.K H Z' (.lst ds) y /\ X.A.units + 1 + deps ds < cLine /\ Q (.bl (!(ds.any fun e => deq e d))) H) := by
 intro pins s σ H x y v u Q I rx ry h
 obtain ⟨ds, d, Z, Z', ix, iy, hu, q⟩ := h
 obtain ⟨p, xs, rfl, at', j⟩ := in_lst.mp iy
 cases ry
 obtain ⟨its, r, pl, hz⟩ := I.list at'.sq
 have hl1 := j.length
 have hl2 := r.length
 classical
 let e : Value -> Bool := fun u => if h : ∃ e', ∃ w, RelV w u /\ In X.K H Z' e' w then deq h.choose d else false
 have key : ∀ (i : Nat) u, its[i]? = some u -> ∃ e', ds[i]? = some e' /\ e u = deq e' d /\ ∃ w, RelV w u /\ In X.K H Z' e' w := fun i u hi => by
  have hlt := (List.getElem?_eq_some_iff.mp hi).1
  have hd : ds[i]? = some ds[i] := by simp
  obtain ⟨w, ew, iw⟩ := j.get hd
  obtain ⟨u', eu, ru⟩ := r.get ew
  rw [hi] at eu
  cases eu
  have hex : ∃ e', ∃ w, RelV w u /\ In X.K H Z' e' w := ⟨_, w, ru, iw⟩
  refine ⟨ds[i], hd, ?_, w, ru, iw⟩
  show (if h : ∃ e', ∃ w, RelV w u /\ In X.K H Z' e' w then deq h.choose d else false) = _
  rw [dif_pos hex]
  obtain ⟨w', rw', iw'⟩ := hex.choose_spec
  have ew' : w' = w := rw'.inj ru
  subst ew'
  rw [In.inj I iw' iw]
 refine SeqAt.notIn_listAt e pl.isList (fun u hu' => ?_) ⟨.bl _, H, I, rfl, ?_⟩
 . obtain ⟨i, hi, ei⟩ := List.mem_iff_getElem.mp (by simpa using hu' : u ∈ its)
   obtain ⟨e', hd, he, w, rw', iw⟩ := key i u (by rw [<- ei]; simp [hi])
   rw [he]
   exact eqAt_D I (deps ds) (A := X.A.in1) iw ix rw' rx (deps_mem (mem_of_getElem? hd)) hu
 . have : its.toArray.any e = ds.any fun e => deq e d := by
    rw [Bool.eq_iff_iff]
    simp only [List.any_toArray, any_eq_true]
    constructor
    . rintro ⟨u, hu', h⟩
      obtain ⟨i, hi, ei⟩ := List.mem_iff_getElem.mp hu'
      obtain ⟨e', hd, he, _⟩ := key i u (by rw [<- ei]; simp [hi])
      exact ⟨e', mem_of_getElem? hd, by rw [<- he]; exact h⟩
    . rintro ⟨e', he', h⟩
      obtain ⟨i, hi, ei⟩ := List.mem_iff_getElem.mp he'
      have hit : i < its.length := by omega
      obtain ⟨e2, hd, he, _⟩ := key i its[i] (by simp [hit])
      have : e2 = e' := by
       have t : ds[i]? = some e' := by rw [<- ei]; simp [hi]
       rw [hd] at t
       exact Option.some.inj t
      subst this
      exact ⟨its[i], getElem_mem hit, by rw [he]; exact h⟩
   rw [this]
   exact q
theorem t_notInD {d : D} {ds : List D} (ha : E X m1 ρ a d) (hb : E X m2 ρ b (.lst ds)) (hu : X.A.units + 1 + deps ds < cLine) (hm : behindInMarks .NotIn b = false := by rfl) : T X ρ (.Compare a [.NotIn] [b] pos) (!(ds.any fun e => deq e d)) :=
 t_cmp op_notInD ha hb (fun x y H Z Q _ i1 i2 k => ⟨_, _, _, _, i1, i2, hu, k _ (Same.refl H)⟩) hm
end
def behind (f g : List (Nat × Nat)) : List (Nat × Nat) := f.flatMap fun s => (g.filter fun t => decide (t.1 = s.2)).map fun t => (s.1, t.2)
section
variable {X : Cx}
theorem mt_countD : MtR X "list.count" (fun x xs H Q => ∃ ds d y Z Z', xs = [y] /\ In X.K H Z d y /\ In X.K H Z' (.lst ds) x /\ X.A.units + 1 + deps ds < cLine /\ Q (.int (((ds.countP fun e => deq e d) : Nat) : Int)) H) := by
 intro pins s σ H x xs v us Q I rx rs h
 obtain ⟨ds, d, y, Z, Z', rfl, ix, iy, hu, q⟩ := h
 obtain ⟨u, rfl, ry⟩ := Vals.one rs
 obtain ⟨p, zs, rfl, at', j⟩ := in_lst.mp iy
 cases rx
 obtain ⟨its, r, pl, hz⟩ := I.list at'.sq
 have hl1 := j.length
 have hl2 := r.length
 classical
 let e : Value -> Bool := fun u => if h : ∃ e', ∃ w, RelV w u /\ In X.K H Z' e' w then deq h.choose d else false
 have key : ∀ (i : Nat) u, its[i]? = some u -> ∃ e', ds[i]? = some e' /\ e u = deq e' d /\ ∃ w, RelV w u /\ In X.K H Z' e' w := fun i u hi => by
  have hlt := (List.getElem?_eq_some_iff.mp hi).1
  have hd : ds[i]? = some ds[i] := by simp
  obtain ⟨w, ew, iw⟩ := j.get hd
  obtain ⟨u', eu, ru⟩ := r.get ew
  rw [hi] at eu
  cases eu
  have hex : ∃ e', ∃ w, RelV w u /\ In X.K H Z' e' w := ⟨_, w, ru, iw⟩
  refine ⟨ds[i], hd, ?_, w, ru, iw⟩
  show (if h : ∃ e', ∃ w, RelV w u /\ In X.K H Z' e' w then deq h.choose d else false) = _
  rw [dif_pos hex]
  obtain ⟨w', rw', iw'⟩ := hex.choose_spec
  have ew' : w' = w := rw'.inj ru
  subst ew'
  rw [In.inj I iw' iw]
 have hl := pl.isList
 obtain ⟨⟨cls, dd, data, sl⟩, ho, hc, n, hd⟩ := id hl
 simp only at hc hd
 subst hc hd
 have hcount : its.countP e = ds.countP fun e => deq e d := by
  have em : its.map e = ds.map fun e' => deq e' d := by
   refine List.ext_getElem? fun i => ?_
   rw [getElem?_map, getElem?_map]
   cases hi : its[i]? with
   | none =>
    have : ds[i]? = none := by
     rw [List.getElem?_eq_none_iff] at hi ⊢
     omega
    rw [this]
    rfl
   | some u =>
    obtain ⟨e', hd, he, _⟩ := key i u hi
    rw [hd]
    simp [he]
  have c1 : its.countP e = (its.map e).countP id := by rw [List.countP_map]; rfl
  have c2 : (ds.countP fun e => deq e d) = (ds.map fun e' => deq e' d).countP id := by rw [List.countP_map]; rfl
  rw [c1, c2, em]
 refine call_meets PySem.F.slot_list_count ⟨_, ho, rfl⟩ PySem.F.entry_list_count (PySem.F.args_list_count_2 _ _) (PySem.SeqAt.list_countAt p its.toArray n dd sl u e) ⟨ho, fun y hy => ?_, ?_⟩
 . obtain ⟨i, hi, ei⟩ := List.mem_iff_getElem.mp (by simpa using hy : y ∈ its)
   obtain ⟨e', hd, he, w, rw', iw⟩ := key i y (by rw [<- ei]; simp [hi])
   rw [he]
   exact eqAt_D I (deps ds) (A := X.A.in1) iw ix rw' ry (deps_mem (mem_of_getElem? hd)) hu
 . rw [show its.toArray.toList = its from rfl, hcount]
   exact ⟨.int _, H, I.tok _, ⟨_, rfl⟩, q⟩
variable {ρ : List (Option D)} {m m1 m2 m3 : Bool} {a b c o : Expr} {pos ap cp : Pos}
theorem e_countD {ds : List D} {d : D} (ho : E X m1 ρ o (.lst ds)) (ha : E X m2 ρ a d) (hu : X.A.units + 1 + deps ds < cLine) (hbase : attributeBase o "count" X.env (eval o X.env) = eval o X.env := by rfl) (hline : (ap.endLine == cp.line) = true := by rfl) (hs : starEach [a] X.env = [(false, eval a X.env)] := by rfl) :
 E X true ρ (.Call (.Attribute o "count" ap) [a] [] cp) (.int (((ds.countP fun e => deq e d) : Nat) : Int)) :=
 PE.mono (pe_bm F.plainAttrs_list F.slot_list_count F.type_list_count mt_countD ho (pa_cons ha pa_nil (by rw [hs]; rfl)) hbase (by rw [hs]; rfl) hline (by rw [hs]; rfl) rfl) fun σ H Q z0 => el13 z0 fun Z oz en k => ⟨Z, oz, en, fun x H1 s1 i1 => by
  have i1' := i1.plain oz
  obtain ⟨p, xs, rfl, at', j⟩ := in_lst.mp i1'
  refine ⟨?_, Z, oz.same s1, en.same s1, fun w H2 s2 i2 => ?_⟩
  . exact .inl ⟨rfl, xs, at'.sq⟩
  . exact ⟨ds, d, w, Z, Z, rfl, i2.plain (oz.same s1), i1'.same s2, hu, k _ H2 (s1.trans s2) (in_int.mpr rfl)⟩⟩
end
end Y
namespace Y
open PySem PySem.Spec PyProof.Rows L2 PySem.SeqAt
variable [Tabs]
section
variable {X : Cx} {pins : List (Addr × Obj)} {σ : St} {H : Hp} {s : Shared} {Z : Zone} {A : Around} {P : D -> Prop} {kd : SortKind} {E : Value -> Shared -> Prop} {a : Addr}
theorem sort_plain (L : Lin P) (kk : KindOf P kd) {ds : List D} {xs : List V} {us : List Value} (hP : ∀ d ∈ ds, P d /\ A.units + d.dep < cLine) (I : Inv X pins σ H s) (j : Ins X.K H Z ds xs) (rv : Vals xs us) (h64 : us.length < 64) {h1 : Heap} {t1 n : Nat}
 (k1 : ∀ b o, s.heap.get? b = some o -> h1.get? b = some o) (la : s.heap.objs.size <= a) (ho : h1.get? a = some (seqObj "list" us.toArray n)) {R : Fin -> Shared -> Prop}
 (fin : ∀ s' (prs : List (V × D)), Inv X pins σ (upd H a (.lst (prs.map (·.1)))) s' -> prs.Perm (xs.zip ds) -> prs.map (·.2) = srt id ds -> R (.done (.ret .none)) s') :
 wpAny (model X.prog X.w) A (Builtin.«list.sort» ⟨[.ref a], []⟩) R E { s with heap := h1, toks := t1 } := by
 have z1 := j.length; have z2 := rv.length
 have nn : ∀ b o, s.heap.get? b = some o -> b ≠ a := fun b o e => Nat.ne_of_lt (Nat.lt_of_lt_of_le (lt_size e) la)
 have el : ∀ u ∈ us, ∃ d, P d /\ Tells X.K H Z u d /\ A.units + d.dep < cLine := fun u hu => by
  obtain ⟨i, hi, e⟩ := List.mem_iff_getElem.mp hu
  have hd : i < ds.length := by omega
  obtain ⟨v, ev, iv⟩ := j.get (i := i) (d := ds[i]) (by simp [hd])
  obtain ⟨u', eu, ru⟩ := rv.get ev
  obtain rfl : u' = u := by rw [<- (List.getElem?_eq_some_iff.mp eu).2]; exact e
  exact ⟨ds[i], (hP _ (getElem_mem hd)).1, ⟨v, ru, iv⟩, (hP _ (getElem_mem hd)).2⟩
 have old : ∀ (h' : Heap), (∀ b o, b ≠ a -> h1.get? b = some o -> h'.get? b = some o) -> Inv X pins σ H { s with heap := h', toks := t1 } := fun h' k => I.kept fun b o e => k b o (nn b o e) (k1 b o e)
 have lay : ∀ (prs : List (V × D)) (out : Array Value), prs.Perm (xs.zip ds) -> Vals (prs.map (·.1)) out.toList -> prs.map (·.2) = srt id ds -> R (.done (.ret .none)) { s with heap := sortedHeap h1 a us out, toks := t1 } := fun prs out pp vv e => by
  obtain ⟨m, hm⟩ := sortedHeap_at (out := out) ho
  have hl : (prs.map (·.1)).length <= sizeLine := by
   rw [length_map, pp.length_eq, List.length_zip]; exact smallL (by omega)
  exact fin _ prs (I.laid (t' := t1) (fun b o e => by rw [sortedHeap_old (nn b o e) (lt_size (k1 b o e))]; exact k1 b o e) la (show ObjOk X.prog X.w _ _ _ (.lst (prs.map (·.1))) from ⟨hl, out.toList, m, vv, by simpa using hm⟩)) pp e
 have pr := pairs_data rv j
 rw [<- pairsOf_toList] at pr
 by_cases emp : us = []
 . subst emp
   have y0 : xs = [] := List.length_eq_zero_iff.mp (z2.trans rfl)
   have d0 : ds = [] := List.length_eq_zero_iff.mp (z1.trans (z2.trans rfl))
   subst y0 d0
   refine sort_at (s := { s with heap := h1, toks := t1 }) (kd := kd) (κ := strKind) ho (by simp) (fun s' Q' _ ne _ => absurd rfl ne) (fun s' _ st i jj Q' hB hi => absurd hi (by simp [pairsOf])) fun t pm _ => ?_
   have t0 : t = #[] := by
    have e := pm.size_eq
    simp [pairsOf] at e
    exact e
   exact lay [] _ (.refl _) (by rw [t0]; simp; exact .nil) (by simp [srt])
 . obtain ⟨u0, hu0⟩ := List.exists_mem_of_ne_nil us emp
   obtain ⟨dd, pd, _, _⟩ := el u0 hu0
   refine sort_at (s := { s with heap := h1, toks := t1 }) (kd := kd) (κ := kap X.K H Z P L ⟨dd, pd⟩) ho h64 (fun h' Q' kp' ne q' => ?_) (fun h' kp' => ?_) fun t pm up => ?_
   . exact kind_ok (s := { s with heap := h', toks := t1 }) kk (old h' kp') (fun u hu => let ⟨d, a, b, _⟩ := el u hu; ⟨d, a, b⟩) ne q'
   . refine asks_ok (s := { s with heap := h', toks := t1 }) kk L (old h' kp') (fun p hp => ?_)
     rw [pairsOf_toList] at hp
     exact el p.1 (List.of_mem_zip hp).1
   . obtain ⟨prs, pp, vv, pw⟩ := sort_out (f := id) I L pr (fun q hq => (hP _ (List.of_mem_zip hq).2).1) pm up
     have e2 : (xs.zip ds).map (·.2) = ds := by rw [List.map_snd_zip]; omega
     exact lay prs _ pp vv (srt_one L (f := id) (fun d hd => (hP d hd).1) (fun a _ b _ e => e) (by rw [<- e2]; exact pp.map _) pw)
end
end Y
namespace Y
open PySem PySem.Spec PyProof.Rows L2
abbrev told (w : World) : Bool := w.params.followText "set-order"
def txt (v : Value) : Str := match v with
 | .str x _ => x
 | _ => ""
structure SL (w : World) (h : Heap) (a : Addr) (es : Array (Int × Value)) (ep : Nat) (t : SetTable) : Prop where
 at' : h.get? a = some { cls := .type "set", dict := none, data := .set es ep t, slots := #[] }
 fit : t.fits es.size = true
 led : told w = false -> t.led = true
 pl : es.size ≠ 0 -> t.plain = false
section
variable {prog : Program} {w : World} {A : Around} {E : Value -> Shared -> Prop} {s : Shared} {a : Addr} {es : Array (Int × Value)} {ep : Nat} {t : SetTable} {x : Str} {tk : Tok}
theorem tx_is {k x : Str} {t : Tok} : (PySem.strKind prog w).is k (.str x t) = decide (k = x) := by
 by_cases h : k = x
 . subst h; rw [decide_eq_true rfl]; show Value.isStrOf k (.str k t) = true; simp [Value.isStrOf]
 . rw [decide_eq_false h]
   cases e : (PySem.strKind prog w).is k (.str x t) with
   | false => rfl
   | true =>
    obtain ⟨t', h'⟩ := Value.isStrOf_shape (show Value.isStrOf k (.str x t) = true from e)
    cases h'
    exact absurd rfl h
theorem set_put_at {h : Heap} {es1 : Array (Int × Value)} {t1 : SetTable} (at' : h.get? a = some { cls := .type "set", dict := none, data := .set es ep t, slots := #[] }) :
 (h.update a (Obj.putSet es1 t1)).get? a = some { cls := .type "set", dict := none, data := .set es1 (ep + 1) t1, slots := #[] } := Heap.get?_update_self (Obj.putSet es1 t1) at' rfl
end
end Y
namespace Y
open PySem PySem.Spec PyProof.Rows L2
section
variable {prog : Program} {w : World} {A : Around} {E : Value -> Shared -> Prop} {s : Shared} {R : Result -> Shared -> Prop} {S I : Addr} {ws : List Str}
variable {fp wr : List Addr} {G : Array GenState -> Array GenState -> Prop} {n : Nat} {P : Nat -> Value -> Prop} {St : Nat -> Shared -> Prop}
theorem set_make (v : Value) {Q : Value -> Shared -> Prop} (h : Q (.ref s.heap.objs.size) { s with heap := s.heap.push { cls := .type "set", dict := none, data := .set #[] 0 (.fresh 0 0 (!told w)) } }) :
 codeAny (model prog w) A (.call (.builtin "set.__new__") ⟨[.type "set", v], []⟩) (wants Q E) s := by
 have c := PySem.F.newCall_set_1 v
 have sub := sub_set_self
 have tree : wpAny (model prog w) A.in1 (Builtin.«set.__new__» ⟨[.type "set", v], []⟩) (fun x s' => x = .done (.ret (.ref s.heap.objs.size)) /\ s' = { s with heap := s.heap.push { cls := .type "set", dict := none, data := .set #[] 0 (.fresh 0 0 (!told w)) } }) (fun _ _ => False) s := by
  unfold Builtin.«set.__new__» Builtin.Frozenset.newClass newSet setsByText
  obtain ⟨hp, g, d, tk, os⟩ := s
  wp_walk
  exact wpAny_askSetting (wpAny_pure (wpAny_newObj_type (wpAny_pure ⟨rfl, rfl⟩)))
 refine codeAny_call_builtin PySem.F.plain_set_new PySem.F.entry_set_new (wpAny_of_eq c (wpAny_mono tree (fun x s' e => ?_) fun _ _ f => f.elim))
 obtain ⟨rfl, rfl⟩ := e
 exact h
theorem ty_list_set {l : Addr} {items : Array Value} (hl : s.heap.IsList l items) {Q : Bool -> Shared -> Prop} (h : Q false s) : wpAny (model prog w) A (Builtin.Frozenset.isAnySet (.ref l)) Q E s := by
 obtain ⟨o, ho, hc, _⟩ := hl
 have T : s.TypeIs (.ref l) "list" := ⟨o, ho, hc⟩
 have f1 := PySem.F.sub_list_set
 have f2 := PySem.F.sub_list_frozenset
 unfold Builtin.Frozenset.isAnySet
 obtain ⟨hp, g, d, tk, os⟩ := s
 wp_walk using wpAny_loadPart' ho
 exact h
end
end Y
namespace Y
open PySem PySem.Spec PyProof.Rows L2
namespace Sw
theorem slot_next : PySem.Slot "set_iterator" "__next__" "set_iterator.__next__" :=
 by
  refine .of (owner := "set_iterator") (n := "__next__") ?own ?_ ?_ ?_ ?_ ?self
  case own => rw [typeLookup_type, builtinLookup_eq_fast]; kernel_rfl
  case self => rw [isSubtype_type]; kernel_rfl
  all_goals first | decide +kernel | exact .inl (by decide +kernel) | exact .inr (by decide +kernel)
theorem entry_next : entryFor table "set_iterator.__next__" = some Builtin.«set_iterator.__next__» := entryFor_of_tree (by kernel_rfl)
theorem args_next (a : Value) : argsOk "set_iterator.__next__" ⟨[a], []⟩ := by unfold argsOk; kernel_rfl
theorem slot_iter : PySem.Slot "set_iterator" "__iter__" "set_iterator.__iter__" :=
 by
  refine .of (owner := "set_iterator") (n := "__iter__") ?own ?_ ?_ ?_ ?_ ?self
  case own => rw [typeLookup_type, builtinLookup_eq_fast]; kernel_rfl
  case self => rw [isSubtype_type]; kernel_rfl
  all_goals first | decide +kernel | exact .inl (by decide +kernel) | exact .inr (by decide +kernel)
theorem args_iter (a : Value) : argsOk "set_iterator.__iter__" ⟨[a], []⟩ := by unfold argsOk; kernel_rfl
theorem entry_iter : entryFor table "set_iterator.__iter__" = some Builtin.«dict_keyiterator.__iter__» := entryFor_alias (id' := "dict_keyiterator.__iter__") (by kernel_rfl) (by first | rfl | decide +kernel) (by decide +kernel) (by kernel_rfl)
theorem entry_set : entryFor table "set.__iter__" = some Builtin.«frozenset.__iter__» := entryFor_alias (id' := "frozenset.__iter__") (by kernel_rfl) (by first | rfl | decide +kernel) (by decide +kernel) (by kernel_rfl)
end Sw
theorem one_off {α : Type} {xs : List α} {i : Nat} (hi : i < xs.length) : (xs[i] :: xs.eraseIdx i).Perm xs := by
 rw [List.eraseIdx_eq_take_drop_succ]
 have e : xs = xs.take i ++ xs[i] :: xs.drop (i + 1) := by rw [List.getElem_cons_drop, take_append_drop]
 conv => rhs; rw [e]
 exact List.perm_middle.symm
section
variable {M : Model} {A : Around} {E : Value -> Shared -> Prop} {s : Shared}
theorem ask_choose {src : Source} {n : Nat} {Q : Nat -> Shared -> Prop} (hn : n ≠ 0) (h : ∀ i, i < n -> ∀ d, Q i { s with drawn := d }) : wpAny M A (choose src n) Q E s := fun Γ p _ => by
 show Sem.wp M Γ (.choose src n .pure) _ _ p s
 rw [Sem.wp_choose]
 exact ⟨hn, h _ (Nat.mod_lt _ (Nat.pos_of_ne_zero hn)) _⟩
theorem draw_all {α : Type} : ∀ (n : Nat) (xs : List α) {s : Shared} {Q : List α -> Shared -> Prop}, xs.length = n -> (∀ ys d, ys.Perm xs -> Q ys { s with drawn := d }) -> wpAny M A (drawOrder n xs) Q E s
 | 0, xs, s, Q, e, h => by
  obtain rfl := List.length_eq_zero_iff.mp e
  unfold drawOrder
  exact wpAny_pure (h [] s.drawn (.refl _))
 | n + 1, [], s, Q, e, h => by cases e
 | n + 1, x :: xs, s, Q, e, h => by
  unfold drawOrder
  refine wpAny_bind (ask_choose (by simp) fun i hi d => ?_)
  have hg : (x :: xs)[i]? = some ((x :: xs)[i]) := List.getElem?_eq_getElem hi
  rw [hg]
  refine wpAny_bind (draw_all n ((x :: xs).eraseIdx i) (by rw [List.length_eraseIdx_of_lt hi, e]; rfl) fun ys d' pp => wpAny_pure (h _ d' ?_))
  exact (pp.cons _).trans (one_off hi)
end
theorem pick_all {α : Type} (f : Nat -> Nat) : ∀ (k i : Nat) (xs : List α) (out : Array α), xs.length = k -> (pickOrder.go f k i xs out).toList.Perm (out.toList ++ xs)
 | 0, i, xs, out, e => by
  obtain rfl := List.length_eq_zero_iff.mp e
  unfold pickOrder.go; simp
 | k + 1, i, xs, out, e => by
  have hi : f i % xs.length < xs.length := Nat.mod_lt _ (by omega)
  unfold pickOrder.go
  rw [List.getElem?_eq_getElem hi]
  refine (pick_all f k (i + 1) _ _ (by rw [List.length_eraseIdx_of_lt hi, e]; rfl)).trans ?_
  rw [Array.toList_push, List.append_assoc]
  exact (one_off hi).append_left _
theorem pick_perm {α : Type} (f : Nat -> Nat) (xs : Array α) : (pickOrder f xs).toList.Perm xs.toList := by
 unfold pickOrder
 simpa using pick_all f xs.size 0 xs.toList #[] (by simp)
end Y
namespace Y
open PySem PySem.Spec PyProof.Rows L2
abbrev TK (prog : Program) (w : World) : HeapKind prog w (List Str) := tupleKind (PySem.strKind prog w)
def keyV (h : Heap) : Value -> List Str
 | .ref b => match h.get? b with
  | some o => match o.data with
   | .seq its _ => its.toList.map txt
   | _ => []
  | none => []
 | _ => []
theorem items_txt {prog : Program} {w : World} {ks : List Str} {vs : List Value} (h : ItemsAre (PySem.strKind prog w) ks vs) : vs.map txt = ks := by
 induction h with
 | nil => rfl
 | cons h1 _ ih =>
  obtain ⟨t, rfl⟩ := Value.isStrOf_shape h1
  rw [map_cons, ih]
  rfl
theorem key_is {prog : Program} {w : World} {h : Heap} {k : List Str} {b : Addr} (i : (TK prog w).is h k b) : keyV h (.ref b) = k := by
 obtain ⟨o, its, n, ho, _, hd, hi⟩ := i
 unfold keyV
 dsimp only
 rw [ho]
 dsimp only
 rw [hd]
 exact items_txt hi
def TuE (prog : Program) (w : World) (h : Heap) (e : Int × Value) : Prop := ∃ k b, k ≠ [] /\ e = ((TK prog w).hash k, .ref b) /\ (TK prog w).is h k b
def tks (h : Heap) (es : Array (Int × Value)) : List (List Str) := es.toList.map fun e => keyV h e.2
namespace Tb
theorem go_ok {t : SetTable} {es : Array (Int × Value)} (T : Tab t es) {h : Int} {N : Nat} (F : First t h N) (HA : Nat -> Int) (hHA : ∀ i e, es[i]? = some e -> HA i = e.1) : ∀ (f n : Nat), n <= N -> N - n < f ->
 (SetTable.probe.go t HA h f (sq t.mask h n) = some (.empty (js t.mask h N) none) /\ ∀ (r i : Nat) (e : Int × Value), n <= r -> r < N -> t.place[i]? = some (js t.mask h r) -> es[i]? = some e -> e.1 ≠ h)
 \/ ∃ (r i : Nat) (e : Int × Value), n <= r /\ r < N /\ t.place[i]? = some (js t.mask h r) /\ es[i]? = some e /\ e.1 = h /\ SetTable.probe.go t HA h f (sq t.mask h n) = some (.candidate (js t.mask h r) i (sq t.mask h (r + 1))) /\ ∀ (q i : Nat) (e : Int × Value), n <= q -> q < r -> t.place[i]? = some (js t.mask h q) -> es[i]? = some e -> e.1 ≠ h
 | 0, n, _, h2 => absurd h2 (by omega)
 | f + 1, n, h1, h2 => by
  have dm : (sq t.mask h n).dummy = none := by
   obtain ⟨k, r, rfl, hr⟩ := in_blk t.mask h n
   rw [sq_run (sq_bs t.mask h k) r hr]
  by_cases z : n = N
  . subst z
    refine .inl ⟨?_, fun r i e a b => absurd b (by omega)⟩
    unfold SetTable.probe.go
    rw [show t.slot (sq t.mask h n).j = .empty from slot_no T.dum F.no]
    dsimp only
    rw [dm]
    rfl
  . have lv := F.all n (by omega)
    obtain ⟨i, hi, ei⟩ := List.mem_iff_getElem.mp lv
    rw [Array.length_toList] at hi
    have pi : t.place[i]? = some (js t.mask h n) := by rw [Array.getElem?_eq_getElem hi, <- ei]; simp
    have hes : es[i]? = some (es[i]'(by rw [<- T.len]; exact hi)) := Array.getElem?_eq_getElem _
    generalize es[i]'(by rw [<- T.len]; exact hi) = e at hes
    have sl : t.slot (sq t.mask h n).j = .live i := slot_at T.up pi
    have same : ∀ (i' : Nat) (e' : Int × Value), t.place[i']? = some (js t.mask h n) -> es[i']? = some e' -> e' = e := fun i' e' a b => by
     have := slot_at T.up a
     rw [show t.slot (js t.mask h n) = .live i from sl] at this
     injection this with this
     subst this
     rw [hes] at b
     cases b
     rfl
    by_cases q : e.1 = h
    . refine .inr ⟨n, i, e, Nat.le_refl _, by omega, pi, hes, q, ?_, fun q i e a b => absurd b (by omega)⟩
      unfold SetTable.probe.go
      rw [sl]
      dsimp only
      rw [hHA i e hes, q, if_pos (by simp)]
      rfl
    . have st : SetTable.probe.go t HA h (f + 1) (sq t.mask h n) = SetTable.probe.go t HA h f (sq t.mask h (n + 1)) := by
       conv => lhs; unfold SetTable.probe.go
       rw [sl]
       dsimp only
       rw [hHA i e hes, if_neg (by simpa using q)]
       rfl
      rcases go_ok T F HA hHA f (n + 1) (by omega) (by omega) with ⟨a, b⟩ | ⟨r, i', e', a1, a2, a3, a4, a5, a6, a7⟩
      . refine .inl ⟨st.trans a, fun r i' e' x y u v => ?_⟩
        by_cases w : r = n
        . subst w; rw [same i' e' u v]; exact q
        . exact b r i' e' (by omega) y u v
      . refine .inr ⟨r, i', e', by omega, a2, a3, a4, a5, st.trans a6, fun q' i'' e'' x y u v => ?_⟩
        by_cases w : q' = n
        . subst w; rw [same i'' e'' u v]; exact q
        . exact a7 q' i'' e'' (by omega) y u v
end Tb
end Y
namespace Y
open PySem PySem.Spec PyProof.Rows L2
section
variable {prog : Program} {w : World} {A : Around} {E : Value -> Shared -> Prop} {s : Shared} {a b : Addr} {es : Array (Int × Value)} {ep : Nat} {t : SetTable} {k : List Str}
theorem no_class {Q : Bool -> Shared -> Prop} (i : (TK prog w).is s.heap k b) (n : Nat) (h : Q false s) : wpAny (model prog w) A (ofAClassStatement (n + 1) (.ref b)) Q E s := by
 have T : s.TypeIs (.ref b) "tuple" := i.typeIs
 obtain ⟨o, its, m, ho, hc, hd, hi⟩ := i
 unfold ofAClassStatement
 refine wpAny_bind (wpAny_typeOf T ?_)
 dsimp only
 rw [if_pos (by decide)]
 refine wpAny_bind (wpAny_pure ?_)
 rw [if_neg (by decide)]
 refine wpAny_bind (wpAny_seqItems ho hd ?_)
 dsimp only
 have el : ∀ v ∈ its.toList, ∃ x u, v = .str x u := fun v hv => by
  clear ho hd
  generalize its.toList = vs at hi hv
  induction hi with
  | nil => cases hv
  | cons h1 _ ih =>
   rcases mem_cons.mp hv with rfl | hv
   . obtain ⟨u, rfl⟩ := Value.isStrOf_shape h1
     exact ⟨_, u, rfl⟩
   . exact ih hv
 refine wpAny_bind (wpAny_forIn_array' _ (fun rest c s' => c = (none, ()) /\ s' = s /\ ∀ v ∈ rest, ∃ x u, v = .str x u) _ ?_ ?_ _ _ ⟨rfl, rfl, el⟩)
 . rintro v rest c s' ⟨rfl, rfl, hv⟩
   obtain ⟨x, u, rfl⟩ := hv v mem_cons_self
   have e : ofAClassStatement n (.str x u) = pure false := by cases n <;> rfl
   rw [e]
   refine wpAny_bind (wpAny_pure ?_)
   rw [if_neg (by decide)]
   exact wpAny_pure ⟨rfl, rfl, fun v' h' => hv v' (mem_cons_of_mem _ h')⟩
 . rintro c s' ⟨rfl, rfl, _⟩
   exact wpAny_pure h
theorem unseen {Q : Bool -> Shared -> Prop} (i : (TK prog w).is s.heap k b) (ys : List Value) (hy : ∀ y ∈ ys, ∃ k' b', y = .ref b' /\ (TK prog w).is s.heap k' b') (h : Q false s) : wpAny (model prog w) A (searchCouldBeSeen (.ref b) ys) Q E s := by
 unfold searchCouldBeSeen
 refine wpAny_bind (wpAny_forIn_list _ (fun rest c s' => c = (none, ()) /\ s' = s /\ ∀ y ∈ rest, ∃ k' b', y = .ref b' /\ (TK prog w).is s.heap k' b') _ ?_ ?_ _ _ ⟨rfl, rfl, hy⟩)
 . rintro y rest c s' ⟨rfl, rfl, hv⟩
   obtain ⟨k', b', rfl, i'⟩ := hv y mem_cons_self
   have nx : ∀ y ∈ rest, ∃ k' b', y = .ref b' /\ (TK prog w).is s'.heap k' b' := fun v' h' => hv v' (mem_cons_of_mem _ h')
   dsimp only
   refine wpAny_ite_split (fun _ => wpAny_pure ⟨rfl, rfl, nx⟩) fun _ => ?_
   refine wpAny_bind ((TK prog w).quiet i ?_)
   rw [if_neg (by decide)]
   refine wpAny_bind ((TK prog w).quiet i' ?_)
   rw [if_neg (by decide)]
   refine wpAny_bind (no_class i 7 ?_)
   rw [if_neg (by decide)]
   refine wpAny_bind (no_class i' 7 ?_)
   rw [if_neg (by decide)]
   exact wpAny_pure ⟨rfl, rfl, nx⟩
 . rintro c s' ⟨rfl, rfl, _⟩
   exact wpAny_pure h
structure TuS (prog : Program) (w : World) (h : Heap) (a : Addr) (es : Array (Int × Value)) (ep : Nat) (t : SetTable) : Prop where
 at' : h.get? a = some { cls := .type "set", dict := none, data := .set es ep t, slots := #[] }
 el : ∀ e ∈ es.toList, TuE prog w h e
 tab : Tb.Tab t es
 few : es.size * 5 < t.mask * 3
 led : told w = false -> t.led = true
 pl : es.size ≠ 0 -> t.plain = false
theorem TuS.fit {prog : Program} {w : World} {h : Heap} {a : Addr} {es : Array (Int × Value)} {ep : Nat} {t : SetTable} (T : TuS prog w h a es ep t) : t.fits es.size = true := by
 have := T.few
 unfold SetTable.fits SetTable.fill
 rw [T.tab.dum, T.tab.len]
 simp
 omega
theorem TuS.key {e : Int × Value} (T : TuS prog w s.heap a es ep t) (he : e ∈ es.toList) : ∃ b, e.2 = .ref b /\ (TK prog w).is s.heap (keyV s.heap e.2) b /\ e.1 = (TK prog w).hash (keyV s.heap e.2) := by
 obtain ⟨k, b, _, rfl, i⟩ := T.el e he
 rw [key_is i]
 exact ⟨b, rfl, i, rfl⟩
theorem find_tu (T : TuS prog w s.heap a es ep t) (hu : A.units < cLine) (i : (TK prog w).is s.heap k b) {N : Nat} (F : Tb.First t ((TK prog w).hash k) N) (hN : N <= 10 * (t.mask + 13)) {Q : SetFound -> Shared -> Prop}
 (q1 : k ∈ tks s.heap es -> Q (.there none) s) (q2 : k ∉ tks s.heap es -> Q (.free (Tb.js t.mask ((TK prog w).hash k) N) false) s) :
 ∀ (f n : Nat), n <= N -> N - n < f -> (∀ (r j : Nat) (e : Int × Value), r < n -> t.place[j]? = some (Tb.js t.mask ((TK prog w).hash k) r) -> es[j]? = some e -> keyV s.heap e.2 ≠ k) ->
  ∀ st : Option SetTable.Probe, st.getD (t.probeStart ((TK prog w).hash k)) = Tb.sq t.mask ((TK prog w).hash k) n -> wpAny (model prog w) A (setSearchFrom a (.ref b) ((TK prog w).hash k) true f st) Q E s
 | 0, n, _, h, _, _, _ => absurd h (by omega)
 | f + 1, n, h1, h2, hb, st, hst => by
  have odd : t.gaveWay = false := by
   unfold SetTable.gaveWay
   rcases T.tab.mks with e | e | e <;> rw [e] <;> rfl
  unfold setSearchFrom
  refine wpAny_bind (wpAny_setState_of T.at' rfl T.fit ?_)
  dsimp only
  rw [odd, if_neg (by decide), hst]
  have same : ∀ (r j j' : Nat) (e e' : Int × Value), t.place[j]? = some (Tb.js t.mask ((TK prog w).hash k) r) -> t.place[j']? = some (Tb.js t.mask ((TK prog w).hash k) r) -> es[j]? = some e -> es[j']? = some e' -> e' = e := fun r j j' e e' x1 x2 x3 x4 => by
   have z1 := Tb.slot_at T.tab.up x1
   rw [Tb.slot_at T.tab.up x2] at z1
   injection z1 with z1
   subst z1
   rw [x3] at x4
   cases x4
   rfl
  have hk : ∀ (j : Nat) (e : Int × Value), es[j]? = some e -> keyV s.heap e.2 = k -> e.1 = (TK prog w).hash k := fun j e he z => by
   obtain ⟨_, _, _, x⟩ := T.key (mem_of_getElem? (by rw [Array.getElem?_toList]; exact he))
   rw [x, z]
  have fuel : N - n < 10 * SetTable.turns t.mask := by unfold SetTable.turns; omega
  generalize hp : t.probe _ _ _ = pr
  rcases Tb.go_ok T.tab F (fun i => ((es[i]?).map (·.1)).getD 0) (fun i e he => by rw [he]; rfl) (10 * SetTable.turns t.mask) n h1 fuel with ⟨x1, x2⟩ | ⟨r, j, e, y1, y2, y3, y4, y5, y6, y7⟩
  . obtain rfl : pr = _ := hp.symm.trans x1
    dsimp only
    refine wpAny_pure (q2 fun hm => ?_)
    obtain ⟨e, he, ek⟩ := mem_map.mp hm
    obtain ⟨j, hj, rfl⟩ := List.mem_iff_getElem.mp he
    rw [Array.length_toList] at hj
    have he' : es[j]? = some es.toList[j] := by rw [<- Array.getElem?_toList]; exact List.getElem?_eq_getElem _
    have hpj : t.place[j]? = some (t.place[j]'(by rw [T.tab.len]; exact hj)) := Array.getElem?_eq_getElem _
    obtain ⟨n0, e0, l0⟩ := T.tab.reach j _ _ hpj he'
    rw [hk j _ he' ek] at e0 l0
    rw [<- e0] at hpj
    have hm0 : Tb.js t.mask ((TK prog w).hash k) n0 ∈ t.place.toList := mem_of_getElem? (by rw [Array.getElem?_toList]; exact hpj)
    have lt : n0 < N := by
     rcases Nat.lt_trichotomy n0 N with z | z | z
     . exact z
     . exact absurd (z ▸ hm0) F.no
     . exact absurd (l0 N z) F.no
    by_cases z : n0 < n
    . exact hb n0 j _ z hpj he' ek
    . exact x2 n0 j _ (by omega) lt hpj he' (hk j _ he' ek)
  . obtain rfl : pr = _ := hp.symm.trans y6
    have he := mem_of_getElem? (l := es.toList) (by rw [Array.getElem?_toList]; exact y4)
    obtain ⟨b', e2, ie, _⟩ := T.key he
    obtain ⟨h0, y⟩ := e
    have e2 : y = .ref b' := e2
    subst e2
    have hy : ∀ y ∈ ((es.filter fun x => x.1 == (TK prog w).hash k).toList.map (·.2)), ∃ k' b', y = .ref b' /\ (TK prog w).is s.heap k' b' := fun y hy => by
     obtain ⟨e, he, rfl⟩ := mem_map.mp hy
     rw [Array.toList_filter] at he
     obtain ⟨b', e2, ie, _⟩ := T.key (mem_filter.mp he).1
     exact ⟨_, b', e2, ie⟩
    have sm : t.sameMemory t.moves t.mask = some true := by unfold SetTable.sameMemory; rw [if_pos (by simp)]
    have nxt : ∀ (r' j' : Nat) (e' : Int × Value), keyV s.heap (.ref b') ≠ k -> r' < r + 1 -> t.place[j']? = some (Tb.js t.mask ((TK prog w).hash k) r') -> es[j']? = some e' -> keyV s.heap e'.2 ≠ k := fun r' j' e' ne hr' u v => by
     by_cases z1 : r' < n
     . exact hb r' j' e' z1 u v
     . by_cases z2 : r' = r
       . subst z2
         rw [same r' j j' _ e' y3 u y4 v]
         exact ne
       . exact fun z => y7 r' j' e' (by omega) (by omega) u v (hk j' e' v z)
    dsimp only
    refine wpAny_ite_split (fun _ => wpAny_bind (unseen i _ hy ?_)) (fun _ => ?_)
    all_goals
     try rw [if_neg (by decide)]
     rw [y4]
     dsimp only
     refine wpAny_bind (wpAny_holding ((TK prog w).eqBool hu ie i ?_))
     refine wpAny_bind (wpAny_setState_of T.at' rfl T.fit ?_)
     by_cases keq : keyV s.heap (.ref b') = k
     . rw [decide_eq_true keq, if_pos (by decide)]
       exact wpAny_pure (q1 (mem_map.mpr ⟨_, he, keq⟩))
     . rw [decide_eq_false keq, if_neg (by decide)]
       try dsimp only
       rw [sm]
       try dsimp only
       rw [if_pos rfl, Tb.slot_at T.tab.up y3]
       try dsimp only
       rw [y4]
       try dsimp only
       refine wpAny_bind (wpAny_isSame_ref_self (wpAny_bind (wpAny_pure ?_)))
       try dsimp only
       rw [if_pos rfl]
       try dsimp only
       rw [if_neg (by decide)]
       exact find_tu T hu i F hN q1 q2 f (r + 1) (by omega) (by omega) (fun r' j' e' a b c => nxt r' j' e' keq a b c) _ rfl
end
end Y
namespace Y
open PySem PySem.Spec PyProof.Rows L2
section
variable {prog : Program} {w : World} {A : Around} {E : Value -> Shared -> Prop} {s : Shared} {a b : Addr} {es : Array (Int × Value)} {ep : Nat} {t : SetTable} {k : List Str}
theorem tu_keep {h h' : Heap} (i : (TK prog w).is h k b) (keep : ∀ o, h.get? b = some o -> h'.get? b = some o) : (TK prog w).is h' k b := by
 obtain ⟨o, its, n, ho, r⟩ := i
 exact ⟨o, its, n, keep o ho, r⟩
theorem tu_ne {h : Heap} (i : (TK prog w).is h k b) (e : h.get? a = some { cls := .type "set", dict := none, data := .set es ep t, slots := #[] }) : b ≠ a := fun z => by
 subst z
 obtain ⟨o, its, n, ho, hc, _⟩ := i
 rw [e] at ho
 cases ho
 exact absurd (show Value.type "set" = Value.type "tuple" from hc) (by decide)
theorem no_value {Q : Bool -> Shared -> Prop} (i : (TK prog w).is s.heap k b) (hk : k ≠ []) (n : Nat) (h : Q false s) : wpAny (model prog w) A (hashByValue (n + 1) (.ref b)) Q E s := by
 have T : s.TypeIs (.ref b) "tuple" := i.typeIs
 obtain ⟨o, its, m, ho, hc, hd, hi⟩ := i
 unfold hashByValue
 refine wpAny_bind (wpAny_specialOf T PySem.F.slot_tuple_hash.lookup ?_)
 dsimp only
 refine wpAny_bind (wpAny_seqItems ho hd ?_)
 obtain ⟨x, u, r, ex⟩ : ∃ x u r, its.toList = Value.str x u :: r := by
  generalize its.toList = vs at hi
  cases hi with
  | nil => exact absurd rfl hk
  | cons h1 _ =>
   obtain ⟨u, rfl⟩ := Value.isStrOf_shape h1
   exact ⟨_, u, _, rfl⟩
 refine wpAny_bind (wpAny_mono (wpAny_forIn_array' (xs := its) _ (fun rest c s' => s' = s /\ rest = its.toList) (fun (c : Option Bool × Unit) s' => c.1 = some false /\ s' = s) ?_ ?_ _ ⟨rfl, rfl⟩) (fun c s' e => ?_) fun _ _ f => f)
 . rintro v rest c s' ⟨rfl, e⟩
   rw [ex] at e
   cases e
   have z : hashByValue n (.str x u) = pure false := by cases n <;> rfl
   rw [z]
   refine wpAny_bind (wpAny_pure ?_)
   rw [if_pos (by decide)]
   exact wpAny_pure ⟨rfl, rfl⟩
 . rintro c s' ⟨_, e⟩
   rw [ex] at e
   cases e
 . obtain ⟨e1, rfl⟩ := e
   rw [e1]
   exact wpAny_pure h
theorem grow_ok {m n : Nat} (hm : Tb.Mk m) (h1 : n * 5 < m * 3) (h2 : (n + 1) * 5 ≥ m * 3) (h3 : n < 70) : Tb.Mk (SetTable.sizeAbove (SetTable.grown (n + 1)) - 1) /\ (n + 1) * 5 < (SetTable.sizeAbove (SetTable.grown (n + 1)) - 1) * 3 /\ SetTable.sizeAbove (SetTable.grown (n + 1)) <= 128 := by
 rcases hm with rfl | rfl | rfl
 . obtain rfl : n = 4 := by omega
   exact ⟨.inr (.inl (by decide)), by decide, by decide⟩
 . obtain rfl : n = 18 := by omega
   exact ⟨.inr (.inr (by decide)), by decide, by decide⟩
 . omega
theorem relay_tu {es1 : Array (Int × Value)} {t2 : SetTable} {e2 wanted : Nat} {Q : Unit -> Shared -> Prop} (at' : s.heap.get? a = some { cls := .type "set", dict := none, data := .set es1 e2 t2, slots := #[] }) (fit : t2.fits es1.size = true)
 (hm : Tb.Mk (SetTable.sizeAbove wanted - 1)) (hw : SetTable.sizeAbove wanted <= 128) (hl : es1.size <= SetTable.sizeAbove wanted - 1)
 (q : ∀ es' t', es'.toList.Perm es1.toList -> Tb.Tab t' es' -> t'.mask = SetTable.sizeAbove wanted - 1 -> t'.led = t2.led -> t'.plain = t2.plain -> Q () { s with heap := s.heap.update a (Obj.putSet es' t') }) : wpAny (model prog w) A (setRelay a wanted) Q E s := by
 obtain ⟨t', ord, r1, r2, r3, r4, r5, r6, r7⟩ := Tb.relaid_ok (t := t2) (es := es1) hm hl
 unfold setRelay
 refine wpAny_bind (wpAny_setState_of at' rfl fit ?_)
 dsimp only
 rw [if_neg (by rw [sizeLine_eq]; omega), r1]
 have ne : ((ord.filterMap (es1[·]?)).size != es1.size) = false := by rw [r5]; simp
 refine wpAny_bind (show wpAny _ _ (if ((ord.filterMap (es1[·]?)).size != es1.size) = true then _ else _) _ _ _ from ?_)
 rw [ne, if_neg (by decide)]
 exact wpAny_pure (wpAny_storeSet_of at' rfl (q _ _ r6 r7 r2 r3 r4) (by rw [r5, sizeLine_eq]; omega))
theorem tu_tail {es1 : Array (Int × Value)} {t2 : SetTable} {n : Nat} {R : Bool -> Shared -> Prop} (at' : s.heap.get? a = some { cls := .type "set", dict := none, data := .set es ep t, slots := #[] }) (el : ∀ e ∈ es1.toList, TuE prog w s.heap e) (tb : Tb.Tab t2 es1) (hn : es1.size = n + 1)
 (f0 : n * 5 < t2.mask * 3) (h70 : n < 70) (l2 : told w = false -> t2.led = true) (p2 : t2.plain = false)
 (q : ∀ h' es' ep' t', Heap.SameBut a s.heap h' -> TuS prog w h' a es' ep' t' -> es'.toList.Perm es1.toList -> R true { s with heap := h' }) :
 wpAny (model prog w) A (storeSet a es1 t2 >>= fun _ => if (!false && t2.tooFull) = true then (setRelay a (SetTable.grown (n + 1)) >>= fun _ => pure true) else pure true) R E s := by
 have b1 := Heap.SameBut.update s.heap a (Obj.putSet es1 t2)
 have a1 := set_put_at (es1 := es1) (t1 := t2) at'
 have ful : t2.tooFull = decide ((n + 1) * 5 ≥ t2.mask * 3) := by
  unfold SetTable.tooFull SetTable.fill
  rw [tb.dum, tb.len, hn]
  rfl
 have tue : ∀ (h' : Heap), Heap.SameBut a s.heap h' -> ∀ e, TuE prog w s.heap e -> TuE prog w h' e := fun h' sb e ⟨k, b, hk, e1, i⟩ => ⟨k, b, hk, e1, tu_keep i fun o ho => by rw [sb.2 b (tu_ne i at')]; exact ho⟩
 have mle : t2.mask <= 127 := by rcases tb.mks with e | e | e <;> omega
 refine wpAny_bind (wpAny_storeSet_of at' rfl ?_ (by rw [hn, sizeLine_eq]; omega))
 cases hc : t2.tooFull with
 | false =>
  rw [if_neg (by decide)]
  rw [ful] at hc
  exact wpAny_pure (q _ es1 (ep + 1) t2 b1 ⟨a1, fun e he => tue _ b1 e (el e he), tb, by rw [hn]; simpa using hc, l2, fun _ => p2⟩ (.refl _))
 | true =>
  rw [if_pos (by decide)]
  rw [ful] at hc
  obtain ⟨g1, g2, g3⟩ := grow_ok tb.mks f0 (by simpa using hc) h70
  have fit : t2.fits es1.size = true := by
   unfold SetTable.fits SetTable.fill
   rw [tb.dum, tb.len]
   simp
   omega
  refine wpAny_bind (relay_tu a1 fit g1 g3 (by omega) fun es' t' pp tb' m' l' p' => wpAny_pure (q _ es' (ep + 1 + 1) t' (b1.trans (Heap.SameBut.update _ a _)) ⟨set_put_at a1, fun e he => tue _ (b1.trans (Heap.SameBut.update _ a _)) e (el e (pp.mem_iff.mp he)), tb', ?_, fun h => l'.trans (l2 h), fun _ => p'.trans p2⟩ pp))
  have : es'.size = n + 1 := by have := pp.length_eq; simpa [hn] using this
  rw [this, m']
  exact g2
theorem tu_add {Q : Bool -> Shared -> Prop} (T : TuS prog w s.heap a es ep t) (hu : A.units < cLine) (i : (TK prog w).is s.heap k b) (hk : k ≠ []) (hz : es.size < 70)
 (q : ∀ v h' es' ep' t', Heap.SameBut a s.heap h' -> TuS prog w h' a es' ep' t' -> (k ∈ tks s.heap es /\ es'.toList.Perm es.toList \/ k ∉ tks s.heap es /\ es'.toList.Perm (es.toList ++ [((TK prog w).hash k, .ref b)])) -> Q v { s with heap := h' }) :
 wpAny (model prog w) A (setAddHashed a (.ref b) ((TK prog w).hash k)) Q E s := by
 have few := T.few
 obtain ⟨N, hN, F⟩ := Tb.first_ok T.tab (by omega : es.size <= t.mask) ((TK prog w).hash k)
 unfold setAddHashed setAddHashedIn
 refine wpAny_holding (wpAny_bind (wpAny_setState_of T.at' rfl T.fit ?_))
 dsimp only
 have ns : byScan (.ref b) es = false := rfl
 rw [ns, if_neg (by decide)]
 refine wpAny_bind ?_
 unfold setSearch
 refine find_tu T hu i F hN (fun hm => ?_) (fun hm => ?_) 100000 0 (Nat.zero_le _) (by rcases T.tab.mks with e | e | e <;> rw [e] at hN <;> omega) (fun r j e h => absurd h (by omega)) none rfl
 . have := q false s.heap es ep t (Heap.SameBut.refl a s.heap) T (.inl ⟨hm, .refl _⟩)
   exact wpAny_pure this
 . dsimp only
   refine wpAny_bind (wpAny_setState_of T.at' rfl T.fit ?_)
   dsimp only
   have tb1 := Tb.tab_put (x := Value.ref b) T.tab F
   have fin : ∀ h' es' ep' t', Heap.SameBut a s.heap h' -> TuS prog w h' a es' ep' t' -> es'.toList.Perm (SetTable.insertAt es (t.put (Tb.js t.mask ((TK prog w).hash k) N)).2 ((TK prog w).hash k, Value.ref b)).toList -> Q true { s with heap := h' } := fun h' es' ep' t' sb T' pp => q true h' es' ep' t' sb T' (.inr ⟨hm, by
    have p1 := pp.trans (SetTable.insertAt_perm ..)
    rwa [Array.toList_push] at p1⟩)
   have el1 : ∀ e ∈ (SetTable.insertAt es (t.put (Tb.js t.mask ((TK prog w).hash k) N)).2 ((TK prog w).hash k, Value.ref b)).toList, TuE prog w s.heap e := fun e he => by
    have := (SetTable.insertAt_perm es (t.put (Tb.js t.mask ((TK prog w).hash k) N)).2 ((TK prog w).hash k, Value.ref b)).mem_iff.mp he
    rw [Array.toList_push, mem_append, List.mem_singleton] at this
    rcases this with z | z
    . exact T.el e z
    . exact ⟨k, b, hk, z, i⟩
   have sz : (SetTable.insertAt es (t.put (Tb.js t.mask ((TK prog w).hash k) N)).2 ((TK prog w).hash k, Value.ref b)).size = es.size + 1 := by
    have := (SetTable.insertAt_perm es (t.put (Tb.js t.mask ((TK prog w).hash k) N)).2 ((TK prog w).hash k, Value.ref b)).length_eq
    simpa using this
   have ld : told w = false -> (t.put (Tb.js t.mask ((TK prog w).hash k) N)).1.led = true := T.led
   cases hp : (t.put (Tb.js t.mask ((TK prog w).hash k) N)).1.plain with
   | true =>
    rw [if_pos rfl]
    refine wpAny_bind (no_value i hk 7 ?_)
    exact tu_tail (t2 := { (t.put (Tb.js t.mask ((TK prog w).hash k) N)).1 with plain := false }) T.at' el1 ⟨tb1.mks, tb1.dum, tb1.len, tb1.up, tb1.le, tb1.reach⟩ sz few hz ld rfl fin
   | false =>
    rw [if_neg (by decide)]
    refine wpAny_bind (wpAny_pure ?_)
    exact tu_tail (t2 := (t.put (Tb.js t.mask ((TK prog w).hash k) N)).1) T.at' el1 tb1 sz few hz ld hp fin
end
end Y
namespace Y
open PySem PySem.Spec PyProof.Rows L2
section
variable {α : Type} [DecidableEq α]
def addG (ks : List α) (x : α) : List α := if x ∈ ks then ks else ks ++ [x]
def onceG (ws : List α) : List α := ws.foldl addG []
theorem addG_mem {k : List α} {x y : α} : y ∈ addG k x ↔ y ∈ k \/ y = x := by
 unfold addG
 split
 . rename_i h
   exact ⟨.inl, fun z => z.elim id fun e => e ▸ h⟩
 . simp
theorem addG_nodup {k : List α} {x : α} (h : k.Nodup) : (addG k x).Nodup := by
 unfold addG
 split
 . exact h
 . rename_i e
   rw [List.nodup_append]
   exact ⟨h, by simp, fun a ha b hb z => by rw [List.mem_singleton] at hb; subst hb; subst z; exact e ha⟩
theorem addG_len (k : List α) (x : α) : (addG k x).length <= k.length + 1 := by
 unfold addG; split <;> simp
theorem foldG_mem {y : α} : ∀ (ws k : List α), y ∈ ws.foldl addG k ↔ y ∈ k \/ y ∈ ws
 | [], k => by simp
 | x :: ws, k => by rw [List.foldl_cons, foldG_mem ws, addG_mem, mem_cons, or_assoc]
theorem foldG_nodup : ∀ (ws : List α) {k : List α}, k.Nodup -> (ws.foldl addG k).Nodup
 | [], _, h => h
 | x :: ws, _, h => foldG_nodup ws (addG_nodup h)
theorem foldG_len : ∀ (ws k : List α), (ws.foldl addG k).length <= k.length + ws.length
 | [], k => by simp
 | x :: ws, k => by
  have a := foldG_len ws (addG k x); have b := addG_len k x
  rw [List.foldl_cons, length_cons]; omega
theorem onceG_snoc (ws : List α) (x : α) : onceG (ws ++ [x]) = addG (onceG ws) x := by unfold onceG; rw [List.foldl_append]; rfl
theorem onceG_mem {ws : List α} {y : α} : y ∈ onceG ws ↔ y ∈ ws := by unfold onceG; rw [foldG_mem]; simp
theorem onceG_nodup (ws : List α) : (onceG ws).Nodup := foldG_nodup ws List.nodup_nil
theorem onceG_len (ws : List α) : (onceG ws).length <= ws.length := by have := foldG_len ws []; simpa [onceG] using this
end
section
variable {prog : Program} {w : World} {A : Around} {E : Value -> Shared -> Prop} {s : Shared} {R : Result -> Shared -> Prop} {S I : Addr} {ts : List (List Str)}
variable {fp wr : List Addr} {G : Array GenState -> Array GenState -> Prop} {n : Nat} {P : Nat -> Value -> Prop} {St : Nat -> Shared -> Prop}
theorem tks_eq {h h' : Heap} {es : Array (Int × Value)} (e1 : ∀ e ∈ es.toList, TuE prog w h e) (e2 : ∀ k b, (TK prog w).is h k b -> (∃ e ∈ es.toList, e.2 = .ref b) -> (TK prog w).is h' k b) : tks h' es = tks h es := by
 unfold tks
 refine map_congr_left fun e he => ?_
 obtain ⟨k, b, _, ee, i⟩ := e1 e he
 rw [show e.2 = .ref b by rw [ee], key_is i, key_is (e2 k b i ⟨e, he, by rw [ee]⟩)]
theorem tu_loop {V0 : Value -> Prop} (W : WalksS prog w A.in1 I fp wr G n P St) (hu : A.in1.units < cLine) (hS : S ∉ fp) (hts : ts.length = n) (hn : n <= 64) (hP : ∀ i v, P i v -> ∃ b, v = .ref b /\ b ∉ S :: wr /\ (TK prog w).is s.heap (ts.getD i []) b /\ ts.getD i [] ≠ [] /\ V0 v)
 (fin : ∀ s' es ep t, Moved (S :: wr) G s s' -> TuS prog w s'.heap S es ep t -> (∀ e ∈ es.toList, TuE prog w s.heap e /\ (∀ b, e.2 = .ref b -> b ∉ S :: wr) /\ V0 e.2) -> (tks s.heap es).Perm (onceG ts) -> R (.ok (.ret .none)) s') :
 ∀ (k i : Nat) (s1 : Shared) (es : Array (Int × Value)) (ep : Nat) (t : SetTable), i + k = n -> Moved (S :: wr) G s s1 -> St i s1 -> TuS prog w s1.heap S es ep t -> (∀ e ∈ es.toList, TuE prog w s.heap e /\ (∀ b, e.2 = .ref b -> b ∉ S :: wr) /\ V0 e.2) -> (tks s.heap es).Perm (onceG (ts.take i)) ->
  codeAny (model prog w) A (.builtin "set.update.loop" ⟨[.ref S, .ref I], []⟩) R s1 := by
 have hw : S ∉ wr := fun h => hS (W.sub _ h)
 have up : ∀ {a b : Shared}, Moved wr G a b -> Moved (S :: wr) G a b := fun m => m.mono fun _ h => mem_cons_of_mem _ h
 have at' : ∀ {a b : Shared} {es : Array (Int × Value)} {ep : Nat} {t : SetTable}, (∀ e ∈ es.toList, ∀ b, e.2 = .ref b -> b ∉ S :: wr) -> Moved wr G a b -> TuS prog w a.heap S es ep t -> TuS prog w b.heap S es ep t := fun nb m T => ⟨m.heap S _ hw T.at', fun e he => by
  obtain ⟨k, b, hk, ee, i⟩ := T.el e he
  exact ⟨k, b, hk, ee, tu_keep i fun o ho => m.heap b o (fun z => nb e he b (by rw [ee]) (mem_cons_of_mem _ z)) ho⟩, T.tab, T.few, T.led, T.pl⟩
 intro k
 induction k with
 | zero =>
  intro i s1 es ep t hi mv st T ne pp
  obtain rfl : i = n := by omega
  refine codeAny_builtin F.entry_set_update_loop ?_
  rw [Around.under_plainId F.plain_set_update_loop _]
  refine wpAny_bind (m := pyNext (.ref I)) (W.done s1 _ _ st fun s2 m2 => ?_)
  refine wpAny_pure (fin s2 es ep t (mv.trans W.gtrans (up m2)) (at' (fun e he => (ne e he).2.1) m2 T) ne ?_)
  rwa [List.take_of_length_le (by omega)] at pp
 | succ k ih =>
  intro i s1 es ep t hi mv st T ne pp
  refine codeAny_builtin F.entry_set_update_loop ?_
  rw [Around.under_plainId F.plain_set_update_loop _]
  refine wpAny_bind (m := pyNext (.ref I)) (W.item i s1 _ _ (by omega) st fun v s2 hv st2 m2 => ?_)
  obtain ⟨b, rfl, nb, ib, hk, hv0⟩ := hP i v hv
  generalize hkk : ts.getD i [] = kk at ib hk
  have mv2 := mv.trans W.gtrans (up m2)
  have ib2 : (TK prog w).is s2.heap kk b := tu_keep ib fun o ho => mv2.heap b o nb ho
  have hl : (tks s.heap es).length <= i := by
   rw [pp.length_eq]
   have := onceG_len (ts.take i)
   rw [length_take] at this; omega
  have hz : es.size = (tks s.heap es).length := by simp [tks]
  have T2 := at' (fun e he => (ne e he).2.1) m2 T
  have te : tks s2.heap es = tks s.heap es := tks_eq (prog := prog) (w := w) (fun e he => (ne e he).1) fun k' b' i' ⟨e, he, ee⟩ => tu_keep i' fun o ho => mv2.heap b' o ((ne e he).2.1 b' ee) ho
  refine wpAny_bind (m := holding _ (setAdd S (.ref b))) (wpAny_holding (wpAny_holding (wpAny_bind ((TK prog w).pyHash hu ib2 ?_))))
  refine tu_add (s := { s2 with toks := s2.toks + (TK prog w).draws kk }) T2 hu ib2 hk (by omega) fun v h' es' ep' t' sb T' p' => ?_
  have p' : kk ∈ tks s2.heap es /\ es'.toList.Perm es.toList \/ kk ∉ tks s2.heap es /\ es'.toList.Perm (es.toList ++ [((TK prog w).hash kk, .ref b)]) := p'
  have e : ts.take (i + 1) = ts.take i ++ [kk] := by
   rw [List.take_succ, <- hkk, List.getD_eq_getElem?_getD, List.getElem?_eq_getElem (by omega : i < ts.length)]; rfl
  have m3 : Moved (S :: wr) G s1 { s2 with heap := h', toks := s2.toks + (TK prog w).draws kk } := (up m2).then_heap (Nat.le_add_right _ _) fun b o hb e => by rw [sb.2 b fun z => hb (by rw [z]; exact mem_cons_self)]; exact e
  refine wpAny_pure ⟨plainId_quiet F.plain_set_update_loop _, ih (i + 1) _ es' ep' t' (by omega) (mv.trans W.gtrans m3) (W.frame _ s2 _ _ st2 (Nat.le_add_right _ _) fun b hb o e => ?_) T' (fun e he => ?_) ?_⟩
  . rw [sb.2 b fun z => hS (z ▸ hb)]; exact e
  . rcases p' with ⟨_, p'⟩ | ⟨_, p'⟩
    . exact ne e (p'.mem_iff.mp he)
    . rcases mem_append.mp (p'.mem_iff.mp he) with z | z
      . exact ne e z
      . rw [List.mem_singleton] at z
        exact ⟨⟨kk, b, hk, z, ib⟩, fun b' e' => by rw [z] at e'; cases e'; exact nb, by rw [z]; exact hv0⟩
  . rw [e, onceG_snoc]
    rw [te] at p'
    rcases p' with ⟨hm, p'⟩ | ⟨hm, p'⟩
    . have e1 : addG (onceG (ts.take i)) kk = onceG (ts.take i) := if_pos (pp.mem_iff.mp hm)
      rw [e1]
      exact (p'.map fun e : Int × Value => keyV s.heap e.2).trans pp
    . have e1 : addG (onceG (ts.take i)) kk = onceG (ts.take i) ++ [kk] := if_neg fun z => hm (pp.mem_iff.mpr z)
      rw [e1]
      have p2 := p'.map fun e : Int × Value => keyV s.heap e.2
      rw [map_append] at p2
      have kb : keyV s.heap (.ref b) = kk := key_is ib
      refine p2.trans ?_
      simp only [map_cons, map_nil, kb]
      exact pp.append_right _
end
end Y
namespace Y
open PySem PySem.Spec PyProof.Rows L2
section
variable {prog : Program} {w : World} {A : Around} {E : Value -> Shared -> Prop} {s : Shared} {ts : List (List Str)} {l : Addr} {items : Array Value}
def SetEndT (prog : Program) (w : World) (s : Shared) (ts : List (List Str)) (items : Array Value) (s' : Shared) : Prop := ∃ h' tk es ep t, s' = { s with heap := h', toks := tk } /\ TuS prog w h' s.heap.objs.size es ep t /\ (tks h' es).Perm (onceG ts) /\ (∀ e ∈ es.toList, ∃ i : Nat, items[i]? = some e.2) /\ ∀ b o, s.heap.get? b = some o -> h'.get? b = some o
theorem tab_fresh (led : Bool) : Tb.Tab (SetTable.fresh 0 0 led) #[] := ⟨.inl rfl, rfl, rfl, List.Pairwise.nil, (fun j hj => by simp [SetTable.fresh] at hj), (fun i j e h => by simp [SetTable.fresh] at h)⟩
theorem tu_is_lt {h : Heap} {k : List Str} {b : Addr} (i : (TK prog w).is h k b) : b < h.objs.size := by
 obtain ⟨o, its, n, ho, _⟩ := i
 exact lt_size ho
theorem tu_init {led : Bool} (hh : A.handled = none) (hu : A.in1.units < cLine) (hl : s.heap.IsList l items) (hz : items.size <= 64) (hts : ts.length = items.size) (hi : ∀ (i : Nat) (v : Value), items[i]? = some v -> ∃ b, v = .ref b /\ (TK prog w).is s.heap (ts.getD i []) b /\ ts.getD i [] ≠ []) (hled : told w = false -> led = true) :
 wpAny (model prog w) A (Builtin.«set.__init__» ⟨[.ref s.heap.objs.size, .ref l], []⟩) (fun x s' => x = .done (.ret .none) /\ SetEndT prog w s ts items s') (fun _ _ => False) { s with heap := s.heap.push { cls := .type "set", dict := none, data := .set #[] 0 (.fresh 0 0 led) } } := by
 have at0 : (s.heap.push { cls := .type "set", dict := none, data := .set #[] 0 (.fresh 0 0 led) }).get? s.heap.objs.size = some { cls := .type "set", dict := none, data := .set #[] 0 (.fresh 0 0 led) } := get?_push_size _ rfl
 have hl1 := hl.push { cls := .type "set", dict := none, data := .set #[] 0 (.fresh 0 0 led) }
 obtain ⟨o, ho, hc, _⟩ := id hl1
 have ll : l < s.heap.objs.size := by
  obtain ⟨o, ho, _⟩ := id hl
  exact lt_size ho
 have hsz : (s.heap.push { cls := .type "set", dict := none, data := .set #[] 0 (.fresh 0 0 led) }).objs.size = s.heap.objs.size + 1 := size_push' ..
 have old : ∀ b o, s.heap.get? b = some o -> (s.heap.push { cls := .type "set", dict := none, data := .set #[] 0 (.fresh 0 0 led) }).get? b = some o := fun b o e => get?_push_of_some _ e
 generalize s.heap.push { cls := .type "set", dict := none, data := .set #[] 0 (.fresh 0 0 led) } = h1 at hl1 at0 ho hsz old ⊢
 unfold Builtin.«set.__init__»
 generalize hU : Builtin.Frozenset.updateFrom = U
 wp_walk using wpAny_loadPart' at0
 subst hU
 unfold Builtin.Frozenset.updateFrom
 have ne : (Value.type "list" == Value.type "dict") = false := by decide
 refine wpAny_bind (ty_list_set hl1 ?_)
 rw [if_neg (by decide)]
 refine wpAny_bind (wpAny_typeOf (T := "list") ⟨o, ho, hc⟩ ?_)
 rw [ne, if_neg (by decide)]
 refine wpAny_bind (wpAny_pyIter_list hl1 (wpAny_bind (wpAny_runValue ?_)))
 have hni : l ≠ h1.objs.size := by rw [hsz]; exact Nat.ne_of_lt (Nat.lt_succ_of_lt ll)
 have hS : s.heap.objs.size ∉ [h1.objs.size, l] := by
  rw [hsz]
  intro z
  rcases mem_cons.mp z with z | z
  . exact absurd z (Nat.ne_of_lt (Nat.lt_succ_self _))
  . exact absurd (List.mem_singleton.mp z) (Nat.ne_of_gt ll)
 have hh1 : A.in1.handled = none := hh
 have W := (Walks.list (prog := prog) (w := w) (A := A.in1) hh1 h1.objs.size l hni items).toS
 have kp : ∀ b o, s.heap.get? b = some o -> (h1.push { cls := .type "list_iterator", data := .fields #[.ref l, .int 0 0] }).get? b = some o := fun b o e => get?_push_of_some _ (old b o e)
 have nin : ∀ b, b < s.heap.objs.size -> b ∉ [s.heap.objs.size, h1.objs.size] := fun b hb z => by
  rcases mem_cons.mp z with z | z
  . exact absurd z (Nat.ne_of_lt hb)
  . exact absurd (List.mem_singleton.mp z) (Nat.ne_of_lt (by rw [hsz]; exact Nat.lt_succ_of_lt hb))
 refine tu_loop (s := { s with heap := h1.push { cls := .type "list_iterator", data := .fields #[.ref l, .int 0 0] } }) (ts := ts) (V0 := fun v => ∃ i : Nat, items[i]? = some v) W hu hS hts (by omega) (fun i v hv => ?_) (fun s' es ep t m T el pp => ?_) items.size 0 _ #[] 0 (.fresh 0 0 led) (Nat.zero_add _) (Moved.refl W.grefl) ⟨⟨_, get?_push_size _ rfl, rfl, rfl⟩, hl1.push _⟩ ⟨get?_push_of_some _ at0, fun e he => by simp at he, tab_fresh led, (by show 0 * 5 < 7 * 3; decide), hled, fun h => absurd rfl h⟩ (fun e he => by simp at he) (by simp [tks, onceG])
 . obtain ⟨b, rfl, ib, hk⟩ := hi i v hv
   exact ⟨b, rfl, nin b (tu_is_lt ib), tu_keep ib (fun o ho => kp b o ho), hk, i, hv⟩
 . obtain ⟨h', g', d', tk', os'⟩ := s'
   have e1 : g' = s.gens := m.gens
   have e2 : d' = s.drawn := m.drawn
   have e3 : os' = s.os := m.os
   subst e1 e2 e3
   have te : tks h' es = tks (h1.push { cls := .type "list_iterator", data := .fields #[.ref l, .int 0 0] }) es := tks_eq (prog := prog) (w := w) (fun e he => (el e he).1) fun k' b' i' ⟨e, he, ee⟩ => tu_keep i' fun o ho => m.heap b' o ((el e he).2.1 b' ee) ho
   refine wpAny_pure (wpAny_pure ⟨rfl, h', tk', es, ep, t, rfl, T, by rw [te]; exact pp, fun e he => (el e he).2.2, fun b o e => ?_⟩)
   exact m.heap b o (nin b (lt_size e)) (kp b o e)
theorem call_setU {Q : Value -> Shared -> Prop} (hh : A.handled = none) (hu : A.units + 4 < cLine) (hl : s.heap.IsList l items) (hz : items.size <= 64) (hts : ts.length = items.size) (hi : ∀ (i : Nat) (v : Value), items[i]? = some v -> ∃ b, v = .ref b /\ (TK prog w).is s.heap (ts.getD i []) b /\ ts.getD i [] ≠ [])
 (q : ∀ s', SetEndT prog w s ts items s' -> Q (.ref s.heap.objs.size) s') : wpAny (model prog w) A (call (.type "set") [.ref l]) Q E s := by
 obtain ⟨c, tl, hmro⟩ := PySem.F.called_set.mro
 have f1 := PySem.F.called_set.made
 have f2 := PySem.F.called_set.sub
 have f3 := PySem.F.called_set.notType
 have f4 := PySem.F.called_set.canCreate
 have f5 := PySem.F.typeCall_set_1 (.ref l)
 have quiet : (Code.builtin "type.__call__" ⟨[.type "set", .ref l], []⟩).quiet = true := Code.quiet_builtin _ (by decide +kernel)
 refine wpAny_call (codeAny_of_tree (show wpAny _ _ (callAny (.type "set") _) _ _ _ from wpAny_pure ⟨quiet, codeAny_builtin PySem.F.entry_type_call ?_⟩))
 rw [Around.under_plain (weight_type_call_type "set" [.ref l] []) (units_type_call_type "set" [.ref l] [])]
 repeat any_goals first | assumption | wp_step
 let N : Shared := { s with heap := s.heap.push { cls := .type "set", dict := none, data := .set #[] 0 (.fresh 0 0 (!told w)) } }
 refine codeAny_mono (set_make (prog := prog) (w := w) (E := fun _ _ => False) (s := s) (.ref l) (Q := fun o st => o = .ref s.heap.objs.size /\ st = N) ⟨rfl, rfl⟩) fun r s1 hr => ?_
 rcases r with e | f
 . exact hr.elim
 cases f <;> first | exact hr.elim | skip
 obtain ⟨rfl, rfl⟩ := hr
 have T : N.TypeIs (.ref s.heap.objs.size) "set" := ⟨_, get?_push_size _ rfl, rfl⟩
 refine wpAny_bind (wpAny_isInstance (b := true) T f2 ?_)
 rw [if_neg (by decide)]
 refine wpAny_bind (wpAny_holding (wpAny_callSpecial?_slot T PySem.F.called_set.init ?_))
 refine wpAny_call (codeAny_call_builtin PySem.F.called_set.init.plain PySem.F.entry_set_init (PySem.check_set_init_1 T ?_))
 refine wpAny_mono (tu_init (ts := ts) (led := !told w) hh (by show A.units + 1 + 1 + 1 < cLine; omega) hl hz hts hi fun h => by rw [h]; rfl) (fun x s' e => ?_) fun _ _ f => f.elim
 obtain ⟨rfl, e⟩ := e
 exact wpAny_pure (q s' e)
end
end Y
namespace Y
open PySem PySem.Spec PyProof.Rows L2
def itO (first : Value) (i : Nat) (a : Addr) (n ep : Nat) : Obj := { cls := .type "set_iterator", dict := none, data := .fields #[first, .int i 0, .ref a, .int n 0, .int ep 0], slots := #[] }
abbrev setO (es : Array (Int × Value)) (ep : Nat) (t : SetTable) : Obj := { cls := .type "set", dict := none, data := .set es ep t, slots := #[] }
section
variable {prog : Program} {w : World} {A : Around} {E : Value -> Shared -> Prop} {s : Shared} {a it : Addr} {es : Array (Int × Value)} {ep i : Nat} {t : SetTable} {first : Value} {x : Value} {nx : Nat}
theorem step_num {f : Int} (ho : s.heap.get? it = some (itO (.int f 0) i a es.size ep)) (hs : s.heap.get? a = some (setO es ep t)) (hf : t.fits es.size = true)
 (hn : ∀ (Q : Option (Value × Nat) -> Shared -> Prop) (E : Value -> Shared -> Prop), Q (some (x, nx)) s -> wpAny (model prog w) A (setNext a f.toNat i ep) Q E s) :
 wpAny (model prog w) A (Builtin.«set_iterator.__next__» ⟨[.ref it], []⟩) (fun z s' => z = .done (.ret x) /\ ∃ h', s' = { s with heap := h' } /\ Heap.SameBut it s.heap h' /\ h'.get? it = some (itO (.int nx 0) (i + 1) a es.size ep)) (fun _ _ => False) s := by
 obtain ⟨hp, g, d, tk, os⟩ := s
 unfold Builtin.«set_iterator.__next__»
 generalize hN : setNext = N at hn
 generalize hL : setEntries = L
 wp_walk using wpAny_loadPart' ho
 subst hN hL
 refine wpAny_setEntries_of hs rfl hf ?_
 have ne : ((es.size : Int) != (es.size : Int)) = false := by simp
 dsimp only
 rw [ne, if_neg (by decide)]
 refine wpAny_bind (hn _ _ ?_)
 have u0 := Heap.get?_update_self (Obj.mapFields (·.setIfInBounds 0 (rawInt (nx : Int)))) ho rfl
 have u1 := Heap.get?_update_self (Obj.mapFields (·.setIfInBounds 1 (rawInt ((i : Int) + 1)))) u0 rfl
 refine wpAny_bind (wpAny_setField ho rfl (by show 0 < 5; decide) (wpAny_bind (wpAny_setField u0 rfl (by show 1 < 5; decide) (wpAny_pure ⟨rfl, _, rfl, (Heap.SameBut.update ..).trans (Heap.SameBut.update ..), ?_⟩))))
 rw [u1]
 rfl
theorem over_num {f : Int} (hh : A.handled = none) (ho : s.heap.get? it = some (itO (.int f 0) i a es.size ep)) (hs : s.heap.get? a = some (setO es ep t)) (hf : t.fits es.size = true)
 (hn : ∀ (Q : Option (Value × Nat) -> Shared -> Prop) (E : Value -> Shared -> Prop), Q none s -> wpAny (model prog w) A (setNext a f.toNat i ep) Q E s) :
 wpAny (model prog w) A (Builtin.«set_iterator.__next__» ⟨[.ref it], []⟩) (fun _ _ => False) (fun z s' => ∃ h' e, z = .ref e /\ s' = { s with heap := h' } /\ Heap.ExtBut it s.heap h' /\ ∃ o, h'.get? e = some o /\ o.cls = .type "StopIteration") s := by
 obtain ⟨hp, g, d, tk, os⟩ := s
 unfold Builtin.«set_iterator.__next__»
 generalize hN : setNext = N at hn
 generalize hL : setEntries = L
 wp_walk using wpAny_loadPart' ho
 subst hN hL
 refine wpAny_setEntries_of hs rfl hf ?_
 have ne : ((es.size : Int) != (es.size : Int)) = false := by simp
 dsimp only
 rw [ne, if_neg (by decide)]
 refine wpAny_bind (hn _ _ (wpAny_bind (wpAny_setField ho rfl (by show 2 < 5; decide) ?_)))
 unfold newExc newTuple raiseNew
 wp_walk using wpAny_newObj_type
 . exact ⟨_, _, rfl, rfl, ((Heap.SameBut.update ..).extBut.push _).push _, _, get?_push_size _ rfl, rfl⟩
 all_goals size_fits
theorem by_text {Q : Bool -> Shared -> Prop} (h : Q (told w) s) : wpAny (model prog w) A setsByText Q E s := by
 unfold setsByText
 exact wpAny_bind (wpAny_askSetting (wpAny_pure h))
theorem next_told {slot : Nat} {Q : Option (Value × Nat) -> Shared -> Prop} (ht : told w = true) (hs : s.heap.get? a = some (setO es ep t)) (hf : t.fits es.size = true)
 (h : Q (((pickOrder (w.params.setOrder a ep) es)[i]?).map fun e => (e.2, slot)) s) : wpAny (model prog w) A (setNext a slot i ep) Q E s := by
 unfold setNext
 refine wpAny_bind (wpAny_setState_of hs rfl hf ?_)
 refine wpAny_bind (by_text ?_)
 rw [ht]
 have ne : (ep != ep) = false := by simp
 dsimp only
 rw [if_pos rfl, ne, if_neg (by decide)]
 refine wpAny_bind ?_
 unfold setWalk
 refine wpAny_bind (wpAny_setState_of hs rfl hf (wpAny_bind (by_text ?_)))
 rw [ht]
 rw [if_pos rfl]
 exact wpAny_bind (wpAny_askSetting (wpAny_pure (wpAny_pure h)))
theorem below0 (p : Array Nat) (h : p.size <= 1) : SetTable.below p 0 = 0 := by
 unfold SetTable.below
 match p, h with
 | ⟨[]⟩, _ => rfl
 | ⟨[j]⟩, _ => simp [SetTable.below.go]
theorem below1 (j : Nat) : SetTable.below #[j] (j + 1) = 1 := by
 unfold SetTable.below
 simp [SetTable.below.go]
theorem next_few {slot : Nat} {Q : Option (Value × Nat) -> Shared -> Prop} (ht : told w = false) (hs : s.heap.get? a = some (setO es ep t)) (hf : t.fits es.size = true) (hl : t.led = true) (h1 : es.size <= 1)
 (h : Q (match es[SetTable.below t.place slot]?, t.place[SetTable.below t.place slot]? with | some (_, x), some j => some (x, j + 1) | _, _ => none) s) : wpAny (model prog w) A (setNext a slot i ep) Q E s := by
 unfold setNext
 refine wpAny_bind (wpAny_setState_of hs rfl hf ?_)
 refine wpAny_bind (by_text ?_)
 rw [ht]
 have nd : (!t.plain && decide (es.size > 1)) = false := by simp; intro _; omega
 show wpAny _ _ (if (!t.plain && decide (es.size > 1)) = true then _ else _) _ _ _
 rw [nd, if_neg (by decide)]
 show wpAny _ _ ((if (!t.led && !es.isEmpty) = true then _ else _) >>= _) _ _ _
 rw [hl, if_neg (by simp)]
 exact wpAny_bind (wpAny_pure (wpAny_pure h))
abbrev tupO (ps : List Nat) : Obj := { cls := .type "tuple", dict := none, data := .seq (ps.map fun p : Nat => rawInt p).toArray, slots := #[] }
theorem next_drawn {p : Nat} {h0 : Int} {Q : Value -> Shared -> Prop} (hs : s.heap.get? a = some (setO es ep t)) (hf : t.fits es.size = true) (hp : es[p]? = some (h0, x)) (h : Q x s) : wpAny (model prog w) A (setNextDrawn a p ep) Q E s := by
 unfold setNextDrawn
 refine wpAny_bind (wpAny_setState_of hs rfl hf ?_)
 have ne : (ep != ep) = false := by simp
 dsimp only
 rw [ne, if_neg (by decide), hp]
 exact wpAny_pure h
theorem step_drawn {tup : Addr} {ps : List Nat} {p : Nat} {h0 : Int} (ho : s.heap.get? it = some (itO (.ref tup) i a es.size ep)) (hs : s.heap.get? a = some (setO es ep t)) (ht : s.heap.get? tup = some (tupO ps)) (hf : t.fits es.size = true) (hi : ps[i]? = some p) (hp : es[p]? = some (h0, x)) :
 wpAny (model prog w) A (Builtin.«set_iterator.__next__» ⟨[.ref it], []⟩) (fun z s' => z = .done (.ret x) /\ ∃ h', s' = { s with heap := h' } /\ Heap.SameBut it s.heap h' /\ h'.get? it = some (itO (.ref tup) (i + 1) a es.size ep)) (fun _ _ => False) s := by
 obtain ⟨hp', g, d, tk, os⟩ := s
 have e1 : (ps.map fun p : Nat => rawInt (p : Int)).toArray[((i : Nat) : Int).toNat]? = some (Value.int (p : Int) 0) := by
  rw [Int.toNat_natCast, List.getElem?_toArray, getElem?_map, hi]; rfl
 unfold Builtin.«set_iterator.__next__»
 generalize hN : setNextDrawn = N
 generalize hL : setEntries = L
 wp_walk using wpAny_loadPart' ho, wpAny_loadPart' ht
 subst hL
 refine wpAny_setEntries_of hs rfl hf ?_
 have ne : ((es.size : Int) != (es.size : Int)) = false := by simp
 dsimp only
 rw [ne, if_neg (by decide)]
 wp_walk using wpAny_loadPart' ht
 rw [e1]
 subst hN
 have u1 := Heap.get?_update_self (Obj.mapFields (·.setIfInBounds 1 (rawInt ((i : Int) + 1)))) ho rfl
 refine wpAny_bind (next_drawn (p := p) hs hf hp ?_)
 exact wpAny_bind (wpAny_setField ho rfl (by show 1 < 5; decide) (wpAny_pure ⟨rfl, _, rfl, Heap.SameBut.update .., u1⟩))
theorem over_drawn {tup : Addr} {ps : List Nat} (hh : A.handled = none) (ho : s.heap.get? it = some (itO (.ref tup) i a es.size ep)) (hs : s.heap.get? a = some (setO es ep t)) (ht : s.heap.get? tup = some (tupO ps)) (hf : t.fits es.size = true) (hi : ps[i]? = none) :
 wpAny (model prog w) A (Builtin.«set_iterator.__next__» ⟨[.ref it], []⟩) (fun _ _ => False) (fun z s' => ∃ h' e, z = .ref e /\ s' = { s with heap := h' } /\ Heap.ExtBut it s.heap h' /\ ∃ o, h'.get? e = some o /\ o.cls = .type "StopIteration") s := by
 obtain ⟨hp', g, d, tk, os⟩ := s
 have e1 : (ps.map fun p : Nat => rawInt (p : Int)).toArray[((i : Nat) : Int).toNat]? = none := by
  rw [Int.toNat_natCast, List.getElem?_toArray, getElem?_map, hi]; rfl
 unfold Builtin.«set_iterator.__next__»
 generalize hL : setEntries = L
 wp_walk using wpAny_loadPart' ho, wpAny_loadPart' ht
 subst hL
 refine wpAny_setEntries_of hs rfl hf ?_
 have ne : ((es.size : Int) != (es.size : Int)) = false := by simp
 dsimp only
 rw [ne, if_neg (by decide)]
 wp_walk using wpAny_loadPart' ht
 rw [e1]
 have u0 := Heap.get?_update_self (Obj.mapFields (·.setIfInBounds 0 (rawInt 0))) ho rfl
 refine wpAny_bind (wpAny_setField ho rfl (by show 0 < 5; decide) (wpAny_bind (wpAny_setField u0 rfl (by show 2 < 5; decide) ?_)))
 unfold newExc newTuple raiseNew
 wp_walk using wpAny_newObj_type
 . exact ⟨_, _, rfl, rfl, (((Heap.SameBut.update ..).trans (Heap.SameBut.update ..)).extBut.push _).push _, _, get?_push_size _ rfl, rfl⟩
 all_goals size_fits
end
def ItAt (it a : Addr) (es : Array (Int × Value)) (ep n : Nat) (pins : List (Addr × Obj)) (first : Nat -> Value) (i : Nat) (h : Heap) : Prop := h.get? it = some (itO (first i) i a n ep) /\ ∀ p ∈ pins, h.get? p.1 = some p.2
section
variable {prog : Program} {w : World} {A : Around} {a it : Addr} {es : Array (Int × Value)} {ep n : Nat} {pins : List (Addr × Obj)} {first : Nat -> Value} {ord : List Value}
theorem set_walk (hh : A.handled = none) (hne : ∀ p ∈ pins, p.1 ≠ it) (hl : ord.length = n)
 (item : ∀ (i : Nat) (s : Shared) (x : Value), ord[i]? = some x -> ItAt it a es ep n pins first i s.heap -> wpAny (model prog w) A.in1 (Builtin.«set_iterator.__next__» ⟨[.ref it], []⟩) (fun z s' => z = .done (.ret x) /\ ∃ h', s' = { s with heap := h' } /\ Heap.SameBut it s.heap h' /\ h'.get? it = some (itO (first (i + 1)) (i + 1) a n ep)) (fun _ _ => False) s)
 (done : ∀ (s : Shared), ItAt it a es ep n pins first n s.heap -> wpAny (model prog w) A.in1 (Builtin.«set_iterator.__next__» ⟨[.ref it], []⟩) (fun _ _ => False) (fun z s' => ∃ h' e, z = .ref e /\ s' = { s with heap := h' } /\ Heap.ExtBut it s.heap h' /\ ∃ o, h'.get? e = some o /\ o.cls = .type "StopIteration") s) :
 Walks prog w A it (it :: pins.map (·.1)) [it] n (fun i v => ord[i]? = some v) (ItAt it a es ep n pins first) where
 sub := fun b hb => by rw [List.mem_singleton.mp hb]; exact mem_cons_self
 frame := fun i h h' st k => ⟨k it mem_cons_self _ st.1, fun p hp => k p.1 (mem_cons_of_mem _ (mem_map.mpr ⟨p, hp, rfl⟩)) _ (st.2 p hp)⟩
 item := fun i s Q E hi st q => by
  have T : s.TypeIs (.ref it) "set_iterator" := ⟨_, st.1, rfl⟩
  have hg : ord[i]? = some ord[i] := List.getElem?_eq_getElem (by omega)
  have run := wpAny_call_entry (prog := prog) (w := w) (A := A) (E := fun _ _ => False) (s := s) (Q := fun v s' => v = ord[i] /\ ∃ h', s' = { s with heap := h' } /\ Heap.SameBut it s.heap h' /\ h'.get? it = some (itO (first (i + 1)) (i + 1) a n ep)) Sw.slot_next T Sw.entry_next (wpAny_mono (item i s _ hg st) (fun z s' e => ⟨_, e.1, rfl, e.2⟩) fun _ _ f => f) (Sw.args_next _)
  unfold pyNext
  refine wpAny_bind (wpAny_attempt (wpAny_callSpecial?_slot T Sw.slot_next (wpAny_mono run ?_ fun _ _ f => f.elim)))
  rintro v s' ⟨rfl, h', rfl, k1, k2⟩
  refine wpAny_pure (q _ h' s.toks hg ⟨k2, fun p hp => ?_⟩ fun b o hb e => ?_)
  . rw [k1.2 p.1 (hne p hp)]; exact st.2 p hp
  . rw [k1.2 b fun z => hb (by rw [z]; exact List.mem_singleton.mpr rfl)]; exact e
 done := fun s Q E st q => by
  have T : s.TypeIs (.ref it) "set_iterator" := ⟨_, st.1, rfl⟩
  have run := wpAny_call_entry (prog := prog) (w := w) (A := A) (E := fun z s' => ∃ h' e, z = .ref e /\ s' = { s with heap := h' } /\ Heap.ExtBut it s.heap h' /\ ∃ o, h'.get? e = some o /\ o.cls = .type "StopIteration") (s := s) (Q := fun _ _ => False) Sw.slot_next T Sw.entry_next (wpAny_mono (done s st) (fun _ _ f => f.elim) fun _ _ f => f) (Sw.args_next _)
  unfold pyNext
  refine wpAny_bind (wpAny_attempt (wpAny_callSpecial?_slot T Sw.slot_next (wpAny_mono run (fun _ _ f => f.elim) ?_)))
  rintro z s' ⟨h', e, rfl, rfl, k1, o, k2, k3⟩
  refine wpAny_bind (wpAny_isInstance (b := true) ⟨o, k2, k3⟩ isSubtype_stop (wpAny_pure (q h' s.toks fun b o hb e => k1 b o (fun z => hb (by rw [z]; exact List.mem_singleton.mpr rfl)) e)))
 self := fun i s Q E st q => by
  have T : s.TypeIs (.ref it) "set_iterator" := ⟨_, st.1, rfl⟩
  refine wpAny_pyIter_slot T Sw.slot_iter (wpAny_call_entry Sw.slot_iter T Sw.entry_iter ?_ (Sw.args_iter _))
  show wpAny (model prog w) _ (ret (.ref it)) _ _ s
  exact wpAny_pure ⟨_, rfl, "set_iterator", _, T, Sw.slot_next.lookup, q⟩
end
end Y
namespace Y
open PySem PySem.Spec PyProof.Rows L2
structure SetIt (prog : Program) (w : World) (A : Around) (s : Shared) (a : Addr) (es : Array (Int × Value)) (it : Addr) (h' : Heap) : Prop where
 keep : ∀ b o, s.heap.get? b = some o -> h'.get? b = some o
 le : s.heap.objs.size <= it
 walk : ∃ (ord : List Value) (fp : List Addr) (St : Nat -> Heap -> Prop), ord.Perm (es.toList.map (·.2)) /\ Walks prog w A it fp [it] ord.length (fun i v => ord[i]? = some v) St /\ St 0 h' /\ (∀ b ∈ fp, b = a \/ s.heap.objs.size <= b) /\ ∀ b ∈ fp, b < h'.objs.size
section
variable {prog : Program} {w : World} {A : Around} {E : Value -> Shared -> Prop} {s : Shared} {a : Addr} {es : Array (Int × Value)} {ep : Nat} {t : SetTable}
theorem is_drawn {Q : Bool -> Shared -> Prop} (T : SL w s.heap a es ep t) (h : Q (!told w && (!t.plain && decide (es.size > 1))) s) : wpAny (model prog w) A (setDrawn a) Q E s := by
 unfold setDrawn
 exact wpAny_bind (wpAny_setState_of T.at' rfl T.fit (wpAny_bind (by_text (wpAny_pure h))))
theorem walk_drawn {it tup : Addr} {ys : List Nat} (hh : A.handled = none) (hf : t.fits es.size = true) (ha : a ≠ it) (ht : tup ≠ it) (hy : ∀ p ∈ ys, p < es.size) (hl : ys.length = es.size) :
 Walks prog w A it [it, a, tup] [it] es.size (fun i v => (ys.map fun p => ((es[p]?).map (·.2)).getD .none)[i]? = some v) (ItAt it a es ep es.size [(a, setO es ep t), (tup, tupO ys)] fun _ => .ref tup) := by
 have hh1 : A.in1.handled = none := hh
 refine set_walk (pins := [(a, setO es ep t), (tup, tupO ys)]) hh ?_ (by simp [hl]) (fun i s x hx st => ?_) fun s st => ?_
 . intro p hp
   rcases mem_cons.mp hp with rfl | hp
   . exact ha
   . rw [List.mem_singleton.mp hp]; exact ht
 . rw [getElem?_map] at hx
   cases hq : ys[i]? with
   | none => rw [hq] at hx; cases hx
   | some p =>
    rw [hq] at hx
    have hp := hy p (mem_of_getElem? hq)
    have hx : ((es[p]?).map (·.2)).getD .none = x := by simpa using hx
    rw [Array.getElem?_eq_getElem hp] at hx
    exact step_drawn (h0 := es[p].1) st.1 (st.2 _ mem_cons_self) (st.2 (tup, tupO ys) (by simp)) hf hq (by rw [Array.getElem?_eq_getElem hp, <- hx]; rfl)
 . exact over_drawn hh1 st.1 (st.2 _ mem_cons_self) (st.2 (tup, tupO ys) (by simp)) hf (List.getElem?_eq_none (by omega))
theorem walk_told {it : Addr} (hh : A.handled = none) (hw : told w = true) (hf : t.fits es.size = true) (ha : a ≠ it) :
 Walks prog w A it [it, a] [it] es.size (fun i v => ((pickOrder (w.params.setOrder a ep) es).toList.map (·.2))[i]? = some v) (ItAt it a es ep es.size [(a, setO es ep t)] fun _ => .int 0 0) := by
 have hh1 : A.in1.handled = none := hh
 have hz := (pick_perm (w.params.setOrder a ep) es).length_eq
 rw [Array.length_toList, Array.length_toList] at hz
 refine set_walk (pins := [(a, setO es ep t)]) hh (fun p hp => by rw [List.mem_singleton.mp hp]; exact ha) (by simp [hz]) (fun i s x hx st => ?_) fun s st => ?_
 . refine step_num (nx := 0) st.1 (st.2 _ mem_cons_self) hf fun Q E h => next_told hw (st.2 _ mem_cons_self) hf ?_
   rw [getElem?_map, Array.getElem?_toList] at hx
   cases hq : (pickOrder (w.params.setOrder a ep) es)[i]? with
   | none => rw [hq] at hx; cases hx
   | some e =>
    rw [hq] at hx
    cases hx
    exact h
 . refine over_num hh1 st.1 (st.2 _ mem_cons_self) hf fun Q E h => next_told hw (st.2 _ mem_cons_self) hf ?_
   rw [Array.getElem?_eq_none (by omega)]
   exact h
theorem walk_few {it : Addr} (hh : A.handled = none) (hw : told w = false) (hled : t.led = true) (h1 : es.size <= 1) (hf : t.fits es.size = true) (ha : a ≠ it) :
 Walks prog w A it [it, a] [it] es.size (fun i v => (es.toList.map (·.2))[i]? = some v) (ItAt it a es ep es.size [(a, setO es ep t)] fun i => .int (if i = 0 then 0 else t.place.getD 0 0 + 1 : Nat) 0) := by
 have hh1 : A.in1.handled = none := hh
 have hp : t.place.size = es.size := by
  have := hf
  unfold SetTable.fits at this
  simp at this
  exact this.1
 refine set_walk (pins := [(a, setO es ep t)]) hh (fun p hp => by rw [List.mem_singleton.mp hp]; exact ha) (by simp) (fun i s x hx st => ?_) fun s st => ?_
 . have hi : i < es.size := by have := (List.getElem?_eq_some_iff.mp hx).1; simpa using this
   obtain rfl : i = 0 := by omega
   refine step_num (nx := t.place.getD 0 0 + 1) st.1 (st.2 _ mem_cons_self) hf fun Q E h => next_few hw (st.2 _ mem_cons_self) hf hled h1 ?_
   have e0 : ((((if (0 : Nat) = 0 then 0 else t.place.getD 0 0 + 1 : Nat) : Int)).toNat) = 0 := rfl
   rw [e0, below0 _ (by omega), Array.getElem?_eq_getElem hi, Array.getElem?_eq_getElem (by omega : 0 < t.place.size)]
   rw [getElem?_map, Array.getElem?_toList, Array.getElem?_eq_getElem hi] at hx
   cases hx
   have e1 : t.place.getD 0 0 = t.place[0]'(by omega) := by simp [Array.getD, (by omega : 0 < t.place.size)]
   rw [e1] at h
   exact h
 . refine over_num hh1 st.1 (st.2 _ mem_cons_self) hf fun Q E h => next_few hw (st.2 _ mem_cons_self) hf hled h1 ?_
   have e : es[SetTable.below t.place (((if es.size = 0 then 0 else t.place.getD 0 0 + 1 : Nat) : Int)).toNat]? = none := by
    by_cases z : es.size = 0
    . exact Array.getElem?_eq_none (by omega)
    . rw [if_neg z, Int.toNat_natCast]
      have hp1 : t.place.size = 1 := by omega
      obtain ⟨j, hj⟩ : ∃ j, t.place = #[j] := by
       generalize t.place = p at hp1
       match p, hp1 with
       | ⟨[j]⟩, _ => exact ⟨j, rfl⟩
      rw [hj]
      show es[SetTable.below #[j] (j + 1)]? = none
      rw [below1]
      exact Array.getElem?_eq_none (by omega)
   rw [e]
   exact h
theorem set_iter {Q : Value -> Shared -> Prop} (hh : A.handled = none) (T : SL w s.heap a es ep t) (hz : es.size + 2 <= sizeLine) (q : ∀ it h' d, SetIt prog w A s a es it h' -> Q (.ref it) { s with heap := h', drawn := d }) : wpAny (model prog w) A (pyIter (.ref a)) Q E s := by
 have Ty : s.TypeIs (.ref a) "set" := ⟨_, T.at', rfl⟩
 have la := lt_size T.at'
 refine wpAny_pyIter_slot Ty PySem.F.slot_set_iter (wpAny_call_entry PySem.F.slot_set_iter Ty Sw.entry_set ?_ (PySem.F.args_set_iter_1 _))
 have fin : ∀ (it : Addr) (h' : Heap) (d : Drawn) (f : Value), SetIt prog w A s a es it h' -> h'.get? it = some (itO f 0 a es.size ep) -> ∃ v, Fin.done (.ret (.ref it)) = Fin.done (.ret v) /\ ∃ T' r, Shared.TypeIs { s with heap := h', drawn := d } v T' /\ typeLookup (.type T') "__next__" = pure (some r) /\ Q v { s with heap := h', drawn := d } :=
  fun it h' d f S e => ⟨_, rfl, "set_iterator", _, ⟨_, e, rfl⟩, Sw.slot_next.lookup, q it h' d S⟩
 unfold Builtin.«frozenset.__iter__»
 generalize hD : setDrawn = D
 generalize hL : Builtin.Frozenset.sizeOf = L
 generalize hP : setEpoch = P
 generalize hN : newFields = N
 generalize hO : @drawOrder = O
 wp_walk
 subst hD hL hP hN hO
 unfold Builtin.Frozenset.sizeOf
 refine wpAny_bind (wpAny_setEntries_of T.at' rfl T.fit (wpAny_pure ?_))
 refine wpAny_bind (is_drawn T ?_)
 dsimp only
 have hz1 : ∀ o : Obj, (s.heap.push o).objs.size = s.heap.objs.size + 1 := fun o => size_push' ..
 cases hc : (!told w && (!t.plain && decide (es.size > 1))) with
 | true =>
  rw [if_pos rfl]
  refine wpAny_bind (draw_all es.size (List.range es.size) (by simp) fun ys d pp => ?_)
  have hl : ys.length = es.size := by rw [pp.length_eq]; simp
  have hy : ∀ p ∈ ys, p < es.size := fun p hp => by simpa using pp.mem_iff.mp hp
  have hsz : sizeOk (.seq (ys.map fun p : Nat => rawInt p).toArray) := by
   show (ys.map fun p : Nat => rawInt p).toArray.size <= sizeLine
   rw [size_toArray, length_map, hl]; omega
  refine wpAny_bind (wpAny_newObj_type ?_ hsz)
  have at1 := get?_push_of_some (tupO ys) T.at'
  refine wpAny_bind (wpAny_setEpoch_of (s := { s with heap := s.heap.push (tupO ys), drawn := d }) at1 rfl T.fit ?_)
  refine wpAny_bind (wpAny_newObj_type (wpAny_pure ?_))
  have gt : ((s.heap.push (tupO ys)).push (itO (.ref s.heap.objs.size) 0 a es.size ep)).get? s.heap.objs.size = some (tupO ys) := get?_push_of_some _ (get?_push_size _ rfl)
  have gi : ((s.heap.push (tupO ys)).push (itO (.ref s.heap.objs.size) 0 a es.size ep)).get? (s.heap.push (tupO ys)).objs.size = some (itO (.ref s.heap.objs.size) 0 a es.size ep) := get?_push_size _ rfl
  have ga := get?_push_of_some (itO (.ref s.heap.objs.size) 0 a es.size ep) at1
  refine fin (s.heap.push (tupO ys)).objs.size _ d (.ref s.heap.objs.size) ⟨fun b o e => get?_push_of_some _ (get?_push_of_some _ e), by rw [hz1]; exact Nat.le_succ _, ys.map fun p => ((es[p]?).map (·.2)).getD .none, [(s.heap.push (tupO ys)).objs.size, a, s.heap.objs.size], ItAt (s.heap.push (tupO ys)).objs.size a es ep es.size [(a, setO es ep t), (s.heap.objs.size, tupO ys)] fun _ => .ref s.heap.objs.size, ?_, ?_, ⟨gi, ?_⟩, ?_, ?_⟩ gi
  . have e : (List.range es.size).map (fun p => ((es[p]?).map (·.2)).getD Value.none) = es.toList.map (·.2) := by
     apply List.ext_getElem
     . simp
     . intro i h1 h2
       have hi : i < es.size := by simpa using h1
       simp [hi]
    rw [<- e]
    exact pp.map _
  . rw [length_map, hl]
    exact walk_drawn (t := t) hh T.fit (by rw [hz1]; exact Nat.ne_of_lt (Nat.lt_succ_of_lt la)) (by rw [hz1]; exact Nat.ne_of_lt (Nat.lt_succ_self _)) hy hl
  . intro p hp
    rcases mem_cons.mp hp with rfl | hp
    . exact ga
    . rw [List.mem_singleton.mp hp]; exact gt
  . intro b hb
    simp only [mem_cons, not_mem_nil, or_false] at hb
    rcases hb with rfl | rfl | rfl
    . exact .inr (by rw [hz1]; exact Nat.le_succ _)
    . exact .inl rfl
    . exact .inr (Nat.le_refl _)
  . intro b hb
    simp only [mem_cons, not_mem_nil, or_false] at hb
    rcases hb with rfl | rfl | rfl
    . exact lt_size gi
    . exact lt_size ga
    . exact lt_size gt
 | false =>
  rw [if_neg (by decide)]
  refine wpAny_bind (wpAny_pure (wpAny_bind (wpAny_setEpoch_of T.at' rfl T.fit ?_)))
  refine wpAny_bind (wpAny_newObj_type (wpAny_pure ?_))
  have gi : (s.heap.push (itO (.int 0 0) 0 a es.size ep)).get? s.heap.objs.size = some (itO (.int 0 0) 0 a es.size ep) := get?_push_size _ rfl
  have ga := get?_push_of_some (itO (.int 0 0) 0 a es.size ep) T.at'
  have ha : a ≠ s.heap.objs.size := Nat.ne_of_lt la
  have mem : ∀ p ∈ [(a, setO es ep t)], (s.heap.push (itO (.int 0 0) 0 a es.size ep)).get? p.1 = some p.2 := fun p hp => by rw [List.mem_singleton.mp hp]; exact ga
  have f1 : ∀ b ∈ [s.heap.objs.size, a], b = a \/ s.heap.objs.size <= b := fun b hb => by
   simp only [mem_cons, not_mem_nil, or_false] at hb
   rcases hb with rfl | rfl
   . exact .inr (Nat.le_refl _)
   . exact .inl rfl
  have f2 : ∀ b ∈ [s.heap.objs.size, a], b < (s.heap.push (itO (.int 0 0) 0 a es.size ep)).objs.size := fun b hb => by
   simp only [mem_cons, not_mem_nil, or_false] at hb
   rcases hb with rfl | rfl
   . exact lt_size gi
   . exact lt_size ga
  have keep : ∀ b o, s.heap.get? b = some o -> (s.heap.push (itO (.int 0 0) 0 a es.size ep)).get? b = some o := fun b o e => get?_push_of_some _ e
  cases ht : told w with
  | true =>
   have pp := pick_perm (w.params.setOrder a ep) es
   have hl := pp.length_eq
   refine fin s.heap.objs.size _ s.drawn (.int 0 0) ⟨keep, Nat.le_refl _, (pickOrder (w.params.setOrder a ep) es).toList.map (·.2), [s.heap.objs.size, a], ItAt s.heap.objs.size a es ep es.size [(a, setO es ep t)] fun _ => .int 0 0, pp.map _, ?_, ⟨gi, mem⟩, f1, f2⟩ gi
   rw [length_map, hl, Array.length_toList]
   exact walk_told (t := t) hh ht T.fit ha
  | false =>
   have h1 : es.size <= 1 := by
    rw [ht] at hc
    by_cases z : es.size = 0
    . omega
    . rw [T.pl z] at hc
      simpa using hc
   refine fin s.heap.objs.size _ s.drawn (.int 0 0) ⟨keep, Nat.le_refl _, es.toList.map (·.2), [s.heap.objs.size, a], ItAt s.heap.objs.size a es ep es.size [(a, setO es ep t)] fun i => .int (if i = 0 then 0 else t.place.getD 0 0 + 1 : Nat) 0, .refl _, ?_, ⟨gi, mem⟩, f1, f2⟩ gi
   rw [length_map, Array.length_toList]
   exact walk_few (t := t) hh ht (T.led ht) h1 T.fit ha
end
end Y
namespace Y
open PySem PySem.Spec PyProof.Rows L2 PySem.SeqAt
section
variable {prog : Program} {w : World} {A : Around} {E : Value -> Shared -> Prop} {s : Shared} {it l S : Addr} {items : Array Value}
abbrev AftR (prog : Program) (w : World) (A : Around) (R : Result -> Shared -> Prop) : Fin -> Shared -> Prop := fun x st => match x with
 | .done f => R (.ok f) st
 | .again c => c.quiet = true /\ codeAny (model prog w) A c R st
end
end Y
namespace Y
open PySem PySem.Spec PyProof.Rows L2 PySem.SeqAt
section
variable {prog : Program} {w : World} {A : Around} {E : Value -> Shared -> Prop} {s : Shared} {a S : Addr} {es : Array (Int × Value)} {ep : Nat} {t : SetTable}
theorem sub_set : isSubtype (.type "set") (.type "set") = pure true := by rw [isSubtype_type]; kernel_rfl
theorem set_hint {Q : Bool -> Shared -> Prop} (T : s.TypeIs (.ref a) "set") (h : Q false s) : wpAny (model prog w) A (Builtin.List.listLengthHint (.ref a)) Q E s := by
 unfold Builtin.List.listLengthHint
 refine wpAny_bind (wpAny_specialOf T PySem.F.slot_set_len.lookup ?_)
 generalize hid : ("set.__len__" : String) = z
 wp_delta
 have sp : splitId z = some ("set", "__len__") := by subst hid; decide +kernel
 rw [sp]
 subst hid
 refine wpAny_bind (wpAny_isInstance (b := true) T sub_set ?_)
 exact wpAny_bind (wpAny_typeOf T (wpAny_pure h))
theorem touch {Q : Unit -> Shared -> Prop} {c0 : Nat} (e : s.heap.get? S = some { cls := .type "list", data := .seq #[] c0 })
 (q : ∀ h' c, (∀ b o, b ≠ S -> s.heap.get? b = some o -> h'.get? b = some o) -> h'.get? S = some { cls := .type "list", data := .seq #[] c } -> Q () { s with heap := h' }) : wpAny (model prog w) A (Builtin.List.listTouch (.ref S)) Q E s := by
 have e1 := Heap.get?_update_self (Obj.mapSeq fun xs => xs.push Value.none) e rfl
 have e2 := Heap.get?_update_self (Obj.mapSeq fun xs => xs.pop) e1 rfl
 refine wpAny_bind (m := updateSeq S fun xs => xs.push .none) (wpAny_updateSeq e rfl (wpAny_updateSeq (hz := by seq_fits) e1 rfl (q _ _ (fun b o hb h => ?_) e2)))
 rw [Heap.get?_update_other _ _ (Ne.symm hb), Heap.get?_update_other _ _ (Ne.symm hb)]
 exact h
theorem set_extend {R : Result -> Shared -> Prop} {c0 : Nat} {res : Value} (hh : A.handled = none) (T : SL w s.heap a es ep t) (hS : s.heap.get? S = some { cls := .type "list", data := .seq #[] c0 }) (hSa : S ≠ a) (hz : es.size + 2 <= sizeLine)
 (hR : ∀ h' d tk acc c, (∀ b o, b ≠ S -> s.heap.get? b = some o -> h'.get? b = some o) -> h'.get? S = some { cls := .type "list", dict := none, data := .seq acc c, slots := #[] } -> acc.toList.Perm (es.toList.map (·.2)) -> R (.ok (.ret res)) { s with heap := h', drawn := d, toks := tk }) :
 wpAny (model prog w) A.in1 (Builtin.List.listExtendWith (.ref S) (.ref a) res) (AftR prog w A R) (fun e s' => R (.error e) s') s := by
 have Ty : s.TypeIs (.ref a) "set" := ⟨_, T.at', rfl⟩
 have same : Builtin.List.listSameRef (.ref S) (.ref a) = false := by simp [Builtin.List.listSameRef, hSa]
 have hh1 : A.in1.handled = none := hh
 unfold Builtin.List.listExtendWith
 refine wpAny_bind (wpAny_typeOf Ty ?_)
 rw [if_neg (by rw [same]; decide)]
 refine wpAny_bind (set_iter hh1 T hz fun it h1 d SI => ?_)
 obtain ⟨ord, fp, St, pp, W, st, f1, f2⟩ := SI.walk
 have T1 : Shared.TypeIs { s with heap := h1, drawn := d } (.ref a) "set" := ⟨_, SI.keep _ _ T.at', rfl⟩
 refine wpAny_bind (wpAny_holding (set_hint T1 ?_))
 rw [if_pos (by decide)]
 refine wpAny_bind (wpAny_rule (wpAny_bind ?_))
 have hS1 := SI.keep _ _ hS
 have lS := lt_size hS
 have nS : ∀ b ∈ fp, b ≠ S := fun b hb z => by
  rcases f1 b hb with e | e
  . exact hSa (z.symm.trans e)
  . exact absurd lS (by rw [<- z]; exact Nat.not_lt.mpr e)
 refine touch (s := { s with heap := h1, drawn := d }) hS1 fun h2 c2 oth hS3 => ?_
 have hn : ord.length <= sizeLine := by rw [pp.length_eq, length_map, Array.length_toList]; omega
 refine wpAny_pure ⟨plainId_quiet PySem.F.plain_extend_loop _, codeAny_extend_loopS W.toS hn S (fun z => nS S z rfl) res ord.length 0 _ #[] _ rfl (Nat.zero_le _) (W.frame 0 _ _ st fun b hb o e => oth b o (nS b hb) e) hS3 (ItemsOf.nil _) fun s' acc c m e1 e2 => ?_⟩
 obtain ⟨h', g', d', tk', os'⟩ := s'
 have q1 : g' = s.gens := m.gens
 have q2 : d' = d := m.drawn
 have q3 : os' = s.os := m.os
 subst q1 q2 q3
 refine hR h' d' tk' acc c (fun b o hb e => m.heap b o (fun z => ?_) (oth b o hb (SI.keep b o e))) e1 ?_
 . rcases mem_cons.mp z with z | z
   . exact hb z
   . exact absurd (lt_size e) (by rw [List.mem_singleton.mp z]; exact Nat.not_lt.mpr SI.le)
 . have e : acc.toList = ord := by
    apply List.ext_getElem?
    intro i
    by_cases hi : i < acc.size
    . have := e2.2 i acc[i] (Array.getElem?_eq_getElem hi)
      rw [this, Array.getElem?_toList, Array.getElem?_eq_getElem hi]
    . rw [List.getElem?_eq_none (by rw [Array.length_toList]; omega), List.getElem?_eq_none (by rw [<- e2.1]; omega)]
   rw [e]; exact pp
theorem set_collect {Q : List Value -> Shared -> Prop} (hh : A.handled = none) (T : SL w s.heap a es ep t) (hz : es.size + 2 <= sizeLine)
 (q : ∀ h' d tk (acc : List Value), (∀ b o, s.heap.get? b = some o -> h'.get? b = some o) -> acc.Perm (es.toList.map (·.2)) -> Q acc { s with heap := h', drawn := d, toks := tk }) : wpAny (model prog w) A (collect (.ref a)) Q E s := by
 have hh1 : A.in1.handled = none := hh
 have la := lt_size T.at'
 unfold collect
 refine wpAny_bind (wpAny_runValue (codeAny_builtin PySem.F.entry_proto_collect ?_))
 rw [Around.under_plainId PySem.F.plain_proto_collect _]
 refine wpAny_bind (m := newList []) (wpAny_newObj_type (wpAny_pure ⟨plainId_quiet PySem.F.plain_list_iadd _, codeAny_builtin PySem.F.entry_list_iadd ?_⟩))
 rw [Around.under_plainId PySem.F.plain_list_iadd _]
 have hS : (s.heap.push { cls := .type "list", data := .seq ([] : List Value).toArray }).get? s.heap.objs.size = some { cls := .type "list", data := .seq #[] } := get?_push_size _ rfl
 have T1 : SL w (s.heap.push { cls := .type "list", data := .seq ([] : List Value).toArray }) a es ep t := ⟨get?_push_of_some _ T.at', T.fit, T.led, T.pl⟩
 have run := set_extend (prog := prog) (A := A) (s := { s with heap := s.heap.push { cls := .type "list", data := .seq ([] : List Value).toArray } }) (res := .ref s.heap.objs.size) (R := fun r s' => ∃ h' d tk acc c, r = .ok (.ret (.ref s.heap.objs.size)) /\ s' = { s with heap := h', drawn := d, toks := tk } /\ (∀ b o, s.heap.get? b = some o -> h'.get? b = some o) /\ h'.get? s.heap.objs.size = some { cls := .type "list", dict := none, data := .seq acc c, slots := #[] } /\ acc.toList.Perm (es.toList.map (·.2)))
  hh T1 hS (Nat.ne_of_gt la) hz fun h' d tk acc c k1 k2 k3 => ⟨h', d, tk, acc, c, rfl, rfl, fun b o e => k1 b o (Nat.ne_of_lt (lt_size e)) (get?_push_of_some _ e), k2, k3⟩
 show wpAny _ A.in1 (Builtin.List.listExtendWith (.ref s.heap.objs.size) (.ref a) (.ref s.heap.objs.size)) _ _ _
 refine wpAny_mono run (fun x s' z => ?_) fun e s' z => ?_
 . cases x with
   | done f =>
    obtain ⟨h', d, tk, acc, c, e, rfl, k1, k2, k3⟩ := z
    cases e
    exact wpAny_bind (wpAny_load k2 (wpAny_pure (q h' d tk _ k1 k3)))
   | again c =>
    refine ⟨z.1, codeAny_mono z.2 fun r s2 y => ?_⟩
    obtain ⟨h', d, tk, acc, c, rfl, rfl, k1, k2, k3⟩ := y
    exact wpAny_bind (wpAny_load k2 (wpAny_pure (q h' d tk _ k1 k3)))
 . obtain ⟨_, _, _, _, _, e', _⟩ := z
   cases e'
end
end Y
namespace Y
open PySem PySem.Spec PyProof.Rows L2
variable [Tabs]
theorem law_callT {P : Program} {w : World} {K : Frag} {mg mb : Str -> Option Value} {k : Nat} {fa a : Addr} {fd : FuncData} {x : Str} {s₁ : Shared} {vs : List Value} {ns : List Int}
 (KX : K.In s₁.heap) (hns : s₁.heap.Ns mainGlobals mg) (hb : s₁.heap.Ns builtinsNs mb) (hbb : ∀ x : Str, x ≠ "__name__" -> mb x = bootBuiltins x) (hlim : s₁.heap.NoLimit) (hg : s₁.gens = #[])
 (ha : s₁.heap.get? a = some { cls := .type "list", data := .seq vs.toArray }) (hi : IntsAre vs ns) (hl : ns.length <= 63) (hr : Room k callerA)
 (hT : ∀ q ∈ Tabs.T, s₁.heap.get? q.1 = some (PySem.W.tabObj #[]) /\ K.lookup q.1 = none /\ PySem.isCodeTable s₁.heap q.1)
 (hbm : BmB mg s₁.heap) (F : ∀ base : Heap, K.In base -> base.Ns mainGlobals mg -> BmB mg base -> FnOk P w K mg base CX0 k fa fd [x] (spLaw K)) (hbind : ∀ (s : Shared) (u : Value), BindsTo s fd ⟨[u], []⟩ [(x, u)]) :
 codeAny (model P w) callerA (.call (.ref fa) ⟨[.ref a], []⟩) (fun r s' => r = .ok (.ret (.bool true)) /\ OldK s₁.heap s'.heap /\ s'.os = s₁.os /\ AllBare s'.gens) s₁ := by
 have rv := vals_ints hi
 have lenV := hi.length
 have hz : ns.length <= sizeLine := Nat.le_trans hl (by decide)
 have aT : ∀ q ∈ Tabs.T, q.1 ≠ a := fun q hq z => by
  have e := (hT q hq).1
  rw [z, ha] at e
  cases e
 have core : ∀ H0 : Hp, (∀ b, b ≠ a -> H0 b = none) -> (H0 a = none \/ ∃ o xs, H0 a = some (.frz o (.lst xs))) -> SqL K H0 a (ns.map V.int) -> HOk P w H0 s₁.heap -> (H0 a ≠ none -> K.lookup a = none) ->
  codeAny (model P w) callerA (.call (.ref fa) ⟨[.ref a], []⟩) (fun r s' => r = .ok (.ret (.bool true)) /\ OldK s₁.heap s'.heap /\ s'.os = s₁.os /\ AllBare s'.gens) s₁ := by
  intro H0 hO hO2 hS hok0 hK
  obtain ⟨H, hHt, hHn⟩ : ∃ H : Hp, (∀ b, (∃ q ∈ Tabs.T, q.1 = b) -> H b = some (.tbl #[])) /\ ∀ b, ¬ (∃ q ∈ Tabs.T, q.1 = b) -> H b = H0 b :=
   open Classical in ⟨fun b => if ∃ q ∈ Tabs.T, q.1 = b then some (.tbl #[]) else H0 b, fun b hb => if_pos hb, fun b hb => if_neg hb⟩
  have na : ¬ (∃ q ∈ Tabs.T, q.1 = a) := fun ⟨q, hq, z⟩ => aT q hq z
  have Ha := hHn a na
  have cs : ∀ b u, H b = some u -> (b = a /\ H0 a = some u) \/ (∃ q ∈ Tabs.T, q.1 = b) /\ u = .tbl #[] := fun b u e => by
   by_cases z : ∃ q ∈ Tabs.T, q.1 = b
   . rw [hHt b z] at e; cases e; exact .inr ⟨z, rfl⟩
   . rw [hHn b z] at e
     by_cases z2 : b = a
     . subst z2; exact .inl ⟨rfl, e⟩
     . rw [hO b z2] at e; cases e
  have hok : HOk P w H s₁.heap := fun b u e => by
   rcases cs b u e with ⟨rfl, e0⟩ | ⟨⟨q, hq, rfl⟩, rfl⟩
   . exact (hok0 _ _ e0).stay (fun b' v' hb' q => q) (fun b' q => by
      have : b' = b := by
       by_cases z : b' = b
       . exact z
       . rw [hO b' z] at q; cases q
      subst this
      rcases hO2 with z | ⟨_, _, z⟩
      . rw [z] at q; cases q
      . rw [z] at q; cases q) fun b' xs q => by
      have : b' = b := by
       by_cases z : b' = b
       . exact z
       . rw [hO b' z] at q; cases q
      subst this
      rcases hO2 with z | ⟨_, _, z⟩
      . rw [z] at q; cases q
      . rw [z] at q; cases q
   . exact (hT q hq).1
  have tabs : TabsOk H := fun q hq => ⟨#[], hHt q.1 ⟨q, hq, rfl⟩, trivial, fun pos cv z => by simp [codeAmong] at z⟩
  have hS' : SqL K H a (ns.map V.int) := by
   rcases hS with (h | ⟨o, h⟩) | h
   . exact .inl (.inl (by rw [Ha]; exact h))
   . exact .inl (.inr ⟨o, by rw [Ha]; exact h⟩)
   . exact .inr h
  have base_of : ∀ {b : Addr} {o : Obj}, s₁.heap.get? b = some o -> H b = none -> (hidT s₁.heap H).get? b = some o := fun e n => hidT_get e n
  have noA : ∀ {b : Addr} {o : Obj} {es : Array DictEntry} {ep : Nat}, s₁.heap.get? b = some o -> o.data = .dict es ep -> H b = none := fun {b o es ep} e d => by
   cases q : H b with
   | none => rfl
   | some u =>
    rcases cs b u q with ⟨rfl, _⟩ | ⟨⟨q', hq', rfl⟩, _⟩
    . rw [ha] at e; cases e; cases d
    . rw [(hT q' hq').1] at e; cases e; cases d
  have nsK : ∀ {b : Addr} {m : Str -> Option Value}, s₁.heap.Ns b m -> (hidT s₁.heap H).Ns b m := fun {b m} ⟨o, es, ep, e, d, r⟩ => ⟨o, es, ep, base_of e (noA e d), d, r⟩
  have hKb : K.In (hidT s₁.heap H) := fun b o e => base_of (KX b o e) (by
   cases q : H b with
   | none => rfl
   | some u =>
    rcases cs b u q with ⟨rfl, e0⟩ | ⟨⟨q', hq', rfl⟩, _⟩
    . rw [hK (by rw [e0]; simp)] at e; cases e
    . rw [(hT q' hq').2.1] at e; cases e)
  have hBm : BmB mg (hidT s₁.heap H) := by
   obtain ⟨bm, ob, b1, b2, b3, b4, b5, b6, b7⟩ := hbm
   refine ⟨bm, ob, b1, base_of b2 ?_, b3, b4, b5, b6, b7⟩
   cases q : H bm with
   | none => rfl
   | some u =>
    rcases cs bm u q with ⟨rfl, _⟩ | ⟨⟨q', hq', rfl⟩, _⟩
    . rw [ha] at b2; cases b2; injection b5 with b5; exact absurd b5 (by decide)
    . rw [(hT q' hq').1] at b2; cases b2; cases b5
  have hM : Mod K mg (hidT s₁.heap H) := ⟨hKb, nsK hns, ⟨mb, nsK hb, hbb⟩, let ⟨mc, h1, h2⟩ := hlim; ⟨mc, nsK h1, h2⟩⟩
  have e0 : Env0 P w K mg (hidT s₁.heap H) callerA [] s₁ H := ⟨rfl, hM, fun b o e => of_hidT e, Nat.le_of_eq (hidT_size _ _), trivial, fun b hb => absurd (show b ∈ ([] : List Addr) from hb) (by simp), hok, .of_eq hg⟩
  refine codeAny_mono ((F _ hKb (nsK hns) hBm).run callerA [] s₁ H ⟨[.ref a], []⟩ [.ref a] [.ref a] (fun v _ => v = .bl true) E0 hr e0 (hbind s₁ (.ref a)) (.cons rfl .nil) ⟨a, ns, rfl, hS', hl, tabs, fun _ => rfl⟩) fun r s' h => ?_
  cases r with
  | error e => exact False.elim h
  | ok fl =>
   cases fl with
   | next => exact False.elim h
   | brk => exact False.elim h
   | cont => exact False.elim h
   | ret u =>
    obtain ⟨v, H', os, bare, un, hok', r', q⟩ := h
    have q' : v = .bl true := q
    subst q'
    obtain rfl : u = Value.bool true := r'
    refine ⟨rfl, ⟨fun b o e => ?_, fun b o e => un.there b o e (by simp)⟩, os, bare⟩
    cases q : H b with
    | none => exact .inl (un.keep b o e q (by intro z; exact absurd (show b ∈ ([] : List Addr) from z) (by simp)) (by simp))
    | some u =>
     rcases cs b u q with ⟨rfl, e0'⟩ | ⟨⟨q', hq', rfl⟩, rfl⟩
     . rcases hO2 with z | ⟨ob, xs, z⟩
       . rw [z] at e0'; cases e0'
       . rw [z] at e0'
         cases e0'
         have z2 := un.frzs b ob _ q
         obtain ⟨e1, _⟩ := hok b _ q
         obtain ⟨e2, _⟩ := hok' b _ z2
         rw [e] at e1; cases e1
         exact .inl e2
     . obtain ⟨more, z⟩ := un.tbls q'.1 #[] q
       have e2 := hok' _ _ z
       rw [(hT q' hq').1] at e
       cases e
       exact .inr (.inl ⟨(hT q' hq').2.2, rfl, #[], more, rfl, e2⟩)
 cases hk : K.lookup a with
 | some o =>
  have e := KX a o hk
  rw [ha] at e
  cases e
  exact core (fun _ => none) (fun _ _ => rfl) (.inl rfl) (.inr ⟨_, vs.toArray, _, hk, rfl, rfl, rfl, by rw [size_toArray, lenV]; exact hz, by simpa using rv⟩) (fun b u z => nomatch z) fun z => absurd rfl z
 | none =>
  refine core (fun b => if b = a then some (.frz { cls := .type "list", data := .seq vs.toArray } (.lst (ns.map V.int))) else none) (fun b hb => if_neg hb) (.inr ⟨_, _, if_pos rfl⟩) (.inl (.inr ⟨{ cls := .type "list", data := .seq vs.toArray }, if_pos rfl⟩)) (fun b u z => ?_) fun _ => hk
  by_cases hb : b = a
  . have z' := (if_pos hb).symm.trans z
    cases z'
    subst hb
    exact ⟨ha, by rw [length_map]; exact hz, vs, _, rv, ha⟩
  . have z' := (if_neg hb).symm.trans z
    cases z'
theorem walkT {l : PySem.W.OpenLaw} {q : Program} {loose : List Str} {XP : (Str -> Option Value) -> Heap -> Prop} {YP : World -> Heap -> Prop} {d : DefRec} {K : Params -> Frag} {x : Str} {k : Nat} (hn : l.most = some 63) (hdf : d.params.defaults = []) (hr : Room k callerA)
 (hY : ∀ (w : World) (h : Heap), YP w h -> (K w.params).In h)
 (hT : ∀ (w : World) (h : Heap), YP w h -> ∀ q ∈ Tabs.T, h.get? q.1 = some (PySem.W.tabObj #[]) /\ (K w.params).lookup q.1 = none /\ PySem.isCodeTable h q.1)
 (F : ∀ (w : World) (mg : Str -> Option Value) (fa : Addr) (h : Heap), (K w.params).In h -> h.Ns mainGlobals mg -> mg d.name = some (.ref fa) ->
  ∃ fd : FuncData, (∀ (s : Shared) (u : Value), BindsTo s fd ⟨[u], []⟩ [(x, u)]) /\ ∀ base : Heap, (K w.params).In base -> base.Ns mainGlobals mg -> BmB mg base -> FnOk l.prog w (K w.params) mg base CX0 k fa fd [x] (spLaw (K w.params))) :
 PySem.W.WalkO q loose XP YP l.row.toRowW d [] (fun f vs => PySem.call f vs) := by
 refine Att.attach_call hn hdf fun w s₀ s₁ mg mb fa o pm cd doc a vs ns G Y ho hd hcd hmg hobj hints hlen hg => ?_
 have KX := hY w _ Y
 obtain ⟨fd, hb, hF⟩ := F w mg fa _ KX G.T.g hmg
 have hbm : BmB mg s₁.heap := by
  obtain ⟨bm, ob, b1, b2, b3, b4, b5, b6⟩ := G.T.bmain
  refine ⟨bm, ob, b1, b3, b2, fun z => ?_, b4, b5, b6⟩
  obtain ⟨o, es, ep, e, hd, _⟩ := G.T.g
  rw [z, e] at b3; cases b3; rw [hd] at b6; cases b6
 exact law_callT KX G.T.g G.T.b G.T.builtins G.T.nolimit hg hobj hints hlen hr (hT w _ Y) hbm hF hb
structure FunC (K : Frag) (x qual : Str) (st : Stmt) (f : Addr) (fd : FuncData) (c : Addr) : Prop where
 ex : ∃ (oc : Value) (od : Option Addr) (kV doc pm : Value) (an : Option Addr) (ct : Value) (osl : Array (Option Value)),
  fd = PySem.W.fnOf x qual (defArgs st) (defBody st) (defScope st) .none kV doc pm an (.ref c) ct /\ K.lookup f = some ⟨oc, od, .func fd, osl⟩ /\ PySem.W.codeIn K (.ref c) qual = true
 kp : keepIn K (.ref f) = true
theorem tabs_ok {K : Params -> Frag} {as : List Addr} {e : ∀ P, as = (K P).map (·.1)} {ts : List Addr} {w : World} {h : Heap} (Yk : (PySem.W.kmHook K as e ts).says w h) {c P : Addr} (hm : P ∈ ts) (hl : (K w.params).lookup P = none) (hc : codeHdIn (K w.params) c P = true) :
 h.get? P = some (PySem.W.tabObj #[]) /\ (K w.params).lookup P = none /\ PySem.isCodeTable h P := by
 obtain ⟨o, vs, _, _, _, _, _, _, _, e1, e2, e3, e4, _⟩ := PySem.W.codeHd_of_K (PySem.W.km_in_of Yk) hc
 exact ⟨PySem.W.km_tabs_of Yk P hm, hl, c, o, vs, e1, e2, e3, e4⟩
theorem FunC.fn {K : Frag} {x qual : Str} {st : Stmt} {f c : Addr} {fd : FuncData} (F : FunC K x qual st f fd c) : Fun K x qual st f fd := by
 obtain ⟨oc, od, kV, doc, pm, an, ct, osl, e, lk, hcd⟩ := F.ex
 exact ⟨⟨oc, od, kV, doc, pm, an, .ref c, ct, osl, e, lk, hcd⟩, F.kp⟩
theorem funC_mk {K : Frag} {x qual : Str} {st : Stmt} {f c : Addr} {oc kV doc pm ct : Value} {od an : Option Addr} {osl : Array (Option Value)}
 (l : K.lookup f = some ⟨oc, od, .func (PySem.W.fnOf x qual (defArgs st) (defBody st) (defScope st) .none kV doc pm an (.ref c) ct), osl⟩) (hc : PySem.W.codeIn K (.ref c) qual = true) (k : keepIn K (.ref f) = true) :
 FunC K x qual st f (PySem.W.fnOf x qual (defArgs st) (defBody st) (defScope st) .none kV doc pm an (.ref c) ct) c := ⟨⟨oc, od, kV, doc, pm, an, ct, osl, rfl, l, hc⟩, k⟩
section
variable {P : Program} {w : World} {K : Frag} {mg : Str -> Option Value} {base : Heap}
theorem def_ofC {x qual : Str} {st : Stmt} {f c : Addr} {fd : FuncData} {N ps : List Str} {k : Nat} {m : Bool} {G : List D -> D -> Prop} (Fx : FunC K x qual st f fd c) (S : FnScope N ps (defScope st)) (hmg : mg x = some (.ref f)) (hb : Binds K fd ps [])
 (hlen : ∀ ds d, G ds d -> ds.length = ps.length)
 (body : ∀ (A : Around) (outer : List Env) (s : Shared) (H : Hp) (E : XK) (Z : Zone) (ds : List D) (d : D), Room k (A.deeper (envOfC qual (defScope st) s.heap.objs.size f (.ref c))) -> G ds d ->
  SD (cxOf CX0 P w K mg base N qual (defScope st) f (.ref c) A outer s H E).nox ⟨m, Z, H⟩ (defBody st) (startD N ds) { nx := fun _ => d = .non, rt := fun d' => d' = d }) : Def P w K mg base (k + 1) x m G := by
 refine ⟨f, fd, ps, ?_, hmg, Fx.kp, hb⟩
 obtain ⟨oc, od, kV, doc, pm, an, ct, osl, rfl, lk, hcd⟩ := Fx.ex
 refine fn_of lk hcd S (fun vs H Q E ⟨Z, ds, d, oz, i, g, kk⟩ => ?_) fun A outer s H vs Q E hr ⟨Z, ds, d, oz, i, g, kk⟩ => ?_
 . rw [<- i.length]; exact hlen ds d g
 . refine ⟨_, PSs.nox (body A outer s H E Z ds d hr g), [], [], fun _ => [], ?_, start_in oz i, ⟨rfl, fun σ H' ⟨r, A', hl, S', e⟩ => ?_, fun σ H' ⟨r, A', hl, S', e⟩ => e.elim, fun σ H' ⟨r, A', hl, S', e⟩ => e.elim, fun v d' H' s' i' e => ?_, fun _ _ _ _ _ _ _ _ e => e.elim, fun _ _ _ _ _ _ _ _ _ _ _ _ _ e => e.elim⟩⟩
   . have := i.length
     simp [L2.start, startD]; omega
   . subst e
     exact kk .non H' S'.same (in_non.mpr rfl)
   . subst e
     exact kk v H' s' i'
end
structure LamK (K : Frag) (mg : Str -> Option Value) (base : Heap) (c P : Addr) (qn : Str) : Prop where
 hd : codeHdIn K c P = true
 tab : (P, qn) ∈ Tabs.T
 one : ∀ q ∈ Tabs.T, q.1 = P -> q.2 = qn
 bm : BmB mg base
 gP : mainGlobals ≠ P
theorem LamK.cx {X : Cx} {c P : Addr} {qn : Str} (L : LamK X.K X.mg X.base c P qn) (h1 : X.env.code = .ref c) (h2 : X.env.qual ++ ("<lambda>" : Str) = qn) : LamCx X c P qn := ⟨h1, L.hd, L.tab, L.one, h2, L.bm, L.gP⟩
theorem Lin.sub {P Q : D -> Prop} (L : Lin P) (h : ∀ d, Q d -> P d) : Lin Q :=
 ⟨fun a x => L.ir a (h a x), fun a b c x y z => L.tr a b c (h a x) (h b y) (h c z), fun a b x y => L.tt a b (h a x) (h b y), fun a b x y => L.cm a b (h a x) (h b y), fun a b x y => L.eq a b (h a x) (h b y)⟩
def ordD (rows : List (List Str)) (p : Nat × Nat) : D := .tup [strsD (endAt rows p), plD p]
def keyD (rows : List (List Str)) : D -> D
 | .tup [.int r, .int c] => .tup [strsD (endAt rows (r.toNat, c.toNat)), .tup [.int r, .int c]]
 | _ => .non
theorem keyD_pl (rows : List (List Str)) (p : Nat × Nat) : keyD rows (plD p) = ordD rows p := by simp [keyD, plD, ordD]
def isOrd (d : D) : Prop := ∃ (ws : List Str) (p : Nat × Nat), d = .tup [strsD ws, plD p]
theorem lin_ord : Lin isOrd := (lin_tup (lin_pr2 (lin_lst lin_str) (lin_tup fun _ => lin_int))).sub fun d ⟨ws, p, e⟩ => by
 subst e
 refine ⟨_, rfl, ⟨_, rfl, fts_strs ws⟩, ⟨_, rfl, ⟨p.1, rfl⟩, ⟨p.2, rfl⟩, trivial⟩, trivial⟩
where
 fts_strs (ws : List Str) : Fts (fun _ => isStr) (ws.map D.str) := fits_all fun d hd => by
  obtain ⟨w, _, rfl⟩ := mem_map.mp hd
  exact ⟨w, rfl⟩
theorem kind_ord : KindOf isOrd (tuples' true) := .tup "list" (.inr (.inr rfl)) fun d ⟨ws, p, e⟩ => ⟨strsD ws, [plD p], e, rfl, rfl⟩
theorem mem_allP {rows : List (List Str)} {p : Nat × Nat} (h : p ∈ allP rows) : p.1 < rows.length := by
 unfold allP allPn at h
 obtain ⟨r, hr, h2⟩ := List.mem_flatMap.mp h
 obtain ⟨a, _, rfl⟩ := mem_map.mp h2
 simpa using hr
theorem allP_tot (rows : List (List Str)) : (allP rows).length = tot rows := by
 unfold allP
 rw [allPn_len rows rows.length (Nat.le_refl _), take_length]
 rfl
theorem deps_strs : ∀ ws : List Str, deps (ws.map D.str) = 0
 | [] => rfl
 | w :: ws => by simp [deps, D.dep, deps_strs ws]
theorem ordD_room {k : Nat} {A : Around} {rows : List (List Str)} {p : Nat × Nat} (r : Room k A) : A.units + 2 + (ordD rows p).dep < cLine := by
 have h := r.un
 have e : (ordD rows p).dep = 2 := by simp [ordD, strsD, plD, D.dep, deps, deps_strs]
 omega
def lamScope (st : Stmt) : List (Str × NameKind) := match defBody st with
 | [.Return (some (.Call _ _ [⟨_, .Lambda _ _ sc _, _⟩] _)) _] => sc.names
 | _ => []
def gOrder (ds : List D) (d : D) : Prop := ∃ (rows : List (List Str)) (p : Nat × Nat), p.1 < rows.length /\ ds = [rowsD rows, plD p] /\ d = ordD rows p
def endsD (rows : List (List Str)) : D := .lst (srt (keyD rows) ((allP rows).map plD))
def gEnds (ds : List D) (d : D) : Prop := ∃ rows : List (List Str), tot rows < 64 /\ ds = [rowsD rows] /\ d = endsD rows
theorem srt_up {P : D -> Prop} {f : D -> D} (L : Lin P) {ds : List D} (hP : ∀ d ∈ ds, P (f d)) : (srt f ds).Pairwise fun x y => dor .lt (f y) (f x) = false := by
 let es : List {d // P (f d)} := ds.attach.map fun d => ⟨d.1, hP d.1 d.2⟩
 have e : ds = es.map (·.1) := by simp [es]
 have e2 : srt f ds = (es.mergeSort fun x y => !dor .lt (f y.1) (f x.1)).map (·.1) := by
  unfold srt
  rw [e]
  exact (List.map_mergeSort (f := fun z : {d // P (f d)} => z.1) (r := fun x y => !dor .lt (f y.1) (f x.1)) (s := fun x y => !dor .lt (f y) (f x)) (fun a _ b _ => rfl)).symm
 rw [e2, List.pairwise_map]
 refine (List.pairwise_mergeSort (le := fun (x y : {d // P (f d)}) => !dor .lt (f y.1) (f x.1)) (fun a b c h1 h2 => ?_) (fun a b => ?_) es).imp fun h => by simpa using h
 . simp only [Bool.not_eq_true'] at *
   cases q : dor .lt (f c.1) (f a.1) with
   | false => rfl
   | true =>
    cases q2 : dor .lt (f a.1) (f b.1) with
    | true => rw [L.tr _ _ _ c.2 a.2 b.2 q q2] at h2; cases h2
    | false => rw [L.tt _ _ a.2 b.2 q2 h1] at q; rw [q] at h2; cases h2
 . cases q : dor .lt (f b.1) (f a.1) with
   | false => simp
   | true =>
    cases q2 : dor .lt (f a.1) (f b.1) with
    | false => simp
    | true => have w := L.tr _ _ _ a.2 b.2 a.2 q2 q; rw [L.ir _ a.2] at w; cases w
end Y
namespace Y
open PySem PySem.Spec PyProof.Rows L2 PySem.SeqAt
variable [Tabs]
theorem Inv.drew {X : Cx} {pins : List (Addr × Obj)} {σ : St} {H : Hp} {s : Shared} {d : Drawn} (I : L2.Inv X pins σ H s) : L2.Inv X pins σ H { s with drawn := d } :=
 I.step (h' := s.heap) (g' := s.gens) (t' := s.toks) (ch := []) (fun _ z => nomatch z) (fun _ _ _ _ _ e _ => e) (fun _ o _ _ _ e _ => ⟨o.slots, e⟩) (fun _ _ _ _ n => n) (fun _ o _ e => ⟨o, e⟩) (fun _ _ e => e) (fun _ _ _ e => e) (fun b ps e => ⟨#[], by rw [e]; simp⟩) (fun _ h => h) I.hok I.bare
def tupsD (ts : List (List Str)) : D := .lst (ts.map tupS)
def isTs (d : D) : Prop := ∃ ws : List Str, ws ≠ [] /\ d = tupS ws
theorem isTs_tup {d : D} (h : isTs d) : isTup (fun _ => isStr) d := by
 obtain ⟨ws, _, rfl⟩ := h
 exact ⟨_, rfl, fits_all fun d hd => by obtain ⟨x, _, rfl⟩ := mem_map.mp hd; exact ⟨x, rfl⟩⟩
theorem lin_ts : Lin isTs := (lin_tup fun _ => lin_str).sub fun d h => isTs_tup h
theorem kind_ts : KindOf isTs (tuples' true) := .tup "str" (.inr (.inl rfl)) fun d ⟨ws, hw, e⟩ => by
 cases ws with
 | nil => exact absurd rfl hw
 | cons x r => exact ⟨.str x, r.map D.str, e, rfl, rfl⟩
theorem items_str {P : Program} {w : World} : ∀ {ws : List Str} {vs : List Value}, Vals (ws.map V.str) vs -> ItemsAre (PySem.strKind P w) ws vs
 | [], _, h => by cases h; exact .nil
 | x :: ws, _, h => by
  cases h with
  | cons h1 h2 =>
   obtain ⟨t, rfl⟩ := h1
   exact .cons (by rw [tx_is]; simp) (items_str h2)
theorem tu_of {P : Program} {w : World} {H : Hp} {h : Heap} {a : Addr} {ws : List Str} (ok : HOk P w H h) (e : H a = some (.tup (ws.map V.str))) : (TK P w).is h ws a := by
 obtain ⟨_, its, r, o, h1, h2, n, h3⟩ := (show ObjOk P w H h a (.tup (ws.map V.str)) from ok a _ e)
 exact ⟨o, its.toArray, n, h1, h2, h3, by simpa using items_str r⟩
theorem in_tsD {K : Frag} {H : Hp} {Z : Zone} {ws : List Str} {v : V} (h : In K H Z (tupS ws) v) : ∃ b, v = .ref b /\ H b = some (.tup (ws.map V.str)) := by
 obtain ⟨b, xs, rfl, at', j⟩ := in_tup.mp h
 rw [ins_strs_inv j] at at'
 exact ⟨b, rfl, at'⟩
def upU (ts : List (List Str)) : List D := srt id ((onceG ts).map tupS)
theorem upU_perm {ts ks : List (List Str)} (hts : ∀ t ∈ ts, t ≠ []) (h : ks.Perm (onceG ts)) : srt id (ks.map tupS) = upU ts := by
 have hP : ∀ (l : List (List Str)), (∀ t ∈ l, t ≠ []) -> ∀ d ∈ l.map tupS, isTs (id d) := fun l hl d hd => by
  obtain ⟨x, hx, rfl⟩ := mem_map.mp hd
  exact ⟨x, hl x hx, rfl⟩
 have h1 : ∀ t ∈ onceG ts, t ≠ [] := fun t ht => hts t (onceG_mem.mp ht)
 exact srt_one lin_ts (f := id) (hP _ h1) (fun _ _ _ _ e => e) ((srt_perm _ _).trans (h.map _)) (srt_up lin_ts (hP _ fun t ht => h1 t (h.mem_iff.mp ht)))
section
variable {X : Cx} {ρ : List (Option D)} {m m1 : Bool} {a : Expr} {ts : List (List Str)} {p p2 pos pos2 : Pos}
theorem ins_ts {K : Frag} {H : Hp} {Z : Zone} : ∀ {ts : List (List Str)} {vs : List V}, Ins K H Z (ts.map tupS) vs -> ∃ bs : List Addr, vs = bs.map V.ref /\ bs.length = ts.length /\ ∀ (i : Nat) (b : Addr), bs[i]? = some b -> H b = some (.tup ((ts.getD i []).map V.str))
 | [], vs, h => by cases ins_nil.mp h; exact ⟨[], rfl, rfl, fun i b e => by simp at e⟩
 | t :: ts, vs, h => by
  obtain ⟨v, r, rfl, i, j⟩ := ins_cons.mp h
  obtain ⟨b, rfl, e⟩ := in_tsD i
  obtain ⟨bs, rfl, hl, hb⟩ := ins_ts j
  refine ⟨b :: bs, rfl, by simp [hl], fun i b' e' => ?_⟩
  cases i with
  | zero => simp at e'; subst e'; exact e
  | succ i => rw [List.getElem?_cons_succ] at e'; simpa using hb i b' e'
theorem e_sortedSetU (ha : E X m1 ρ a (tupsD ts)) (hts : ∀ t ∈ ts, t ≠ []) (h64 : ts.length < 64) (hu : X.A.units + 8 < cLine) (hh : X.A.handled = none) (hmS : X.mg "sorted" = none) (hmT : X.mg "set" = none)
 (hgS : Gl X "sorted" := by rfl) (hgT : Gl X "set" := by rfl) (hs : starEach [a] X.env = [(false, eval a X.env)] := by rfl) (hs2 : starEach [.Call (.Name "set" p2) [a] [] pos2] X.env = [(false, eval (.Call (.Name "set" p2) [a] [] pos2) X.env)] := by rfl) :
 E X m ρ (.Call (.Name "sorted" p) [.Call (.Name "set" p2) [a] [] pos2] [] pos) (.lst (upU ts)) := by
 intro pins s σ H Q I ⟨Z, oz, en, k⟩
 refine wpAny_Call_Name_kw (ld_blt I hgS hmS boot_sorted ?_ (by decide) (by decide))
 refine PyProof.Rows.callWith_builtin1 ?_ (by rw [hs2]; rfl) (by rfl)
 rw [hs2]
 refine Calls.spliced_cons ?_
 refine wpAny_Call_Name_kw (ld_blt I hgT hmT boot_set ?_ (by decide) (by decide))
 refine callWith_type1 (thn (pa_cons ha pa_nil (by rw [hs]; rfl) pos2 pins s σ H (fun vs H1 => Same H H1 /\ ∃ x, vs = [x] /\ In X.K H1 (out m1 Z H) (tupsD ts) x) I ⟨Z, oz, en, fun x H1 s1 i1 => ⟨s1, x, rfl, i1⟩⟩) fun us s1 ⟨vs, H1, I1, r1, sm1, x, e, i1⟩ => ?_) (by rw [hs]; rfl) (by rfl)
 subst e
 obtain ⟨l, xs, rfl, at', j⟩ := in_lst.mp i1
 obtain ⟨u, rfl, rx⟩ := vals1 r1
 cases rx
 obtain ⟨bs, rfl, hbl, hbs⟩ := ins_ts j
 obtain ⟨its, rv, pl, hz⟩ := I1.list at'.sq
 have zl := rv.length
 rw [length_map] at zl
 have itv : ∀ (i : Nat) (v : Value), its.toArray[i]? = some v -> ∃ b, bs[i]? = some b /\ v = .ref b := fun i v hv => by
  rw [List.getElem?_toArray] at hv
  have hl : i < bs.length := by have := (List.getElem?_eq_some_iff.mp hv).1; omega
  obtain ⟨u, eu, ru⟩ := rv.get (i := i) (x := V.ref bs[i]) (by simp [hl])
  rw [eu] at hv
  cases hv
  cases ru
  exact ⟨bs[i], List.getElem?_eq_getElem hl, rfl⟩
 have hne : ∀ i, i < ts.length -> ts.getD i [] ≠ [] := fun i hi => hts _ (getD_mem hi)
 have hi : ∀ (i : Nat) (v : Value), its.toArray[i]? = some v -> ∃ b, v = .ref b /\ (TK X.prog X.w).is s1.heap (ts.getD i []) b /\ ts.getD i [] ≠ [] := fun i v hv => by
  obtain ⟨b, eb, rfl⟩ := itv i v hv
  exact ⟨b, rfl, tu_of I1.hok (hbs i b eb), hne i (by have := (List.getElem?_eq_some_iff.mp eb).1; omega)⟩
 have hzz : its.toArray.size = ts.length := by rw [size_toArray]; omega
 refine call_setU (ts := ts) hh (by omega) pl.isList (by omega) (by omega) hi fun s2 S2 => Calls.spliced_nil ?_
 obtain ⟨h2, tk2, es, ep, t, rfl, T, pp, vin, k2⟩ := S2
 have hn : es.size <= ts.length := by
  have e1 := pp.length_eq
  have e2 := onceG_len ts
  have e3 : (tks h2 es).length = es.size := by simp [tks]
  omega
 have I2 := I1.kept (t' := tk2) k2
 refine Calls.call_function_entry kind_sorted plain_sorted entry_sorted (args_sorted1 _) ?_
 unfold Builtin.«sorted»
 have hh1 : X.A.in1.handled = none := hh
 refine wpAny_bind (m := checkCount "sorted" 1 1 _) (wpAny_pure ?_)
 refine wpAny_bind (set_collect (s := { s1 with heap := h2, toks := tk2 }) hh1 ⟨T.at', T.fit, T.led, T.pl⟩ (by rw [sizeLine_eq]; omega) fun h3 d3 tk3 acc k3 p3 => ?_)
 have I3 := Inv.drew (d := d3) (I2.kept (t' := tk3) k3)
 have el : ∀ u ∈ acc, ∃ b : Addr, u = .ref b /\ H1 b = some (.tup ((keyV h2 u).map V.str)) := fun u hu => by
  obtain ⟨e, he, rfl⟩ := mem_map.mp (p3.mem_iff.mp hu)
  obtain ⟨i, ei⟩ := vin e he
  obtain ⟨b, eb, ev⟩ := itv i _ ei
  have i1 := tu_of I1.hok (hbs i b eb)
  have i2 : (TK X.prog X.w).is h2 (ts.getD i []) b := tu_keep i1 fun o ho => k2 b o ho
  refine ⟨b, ev, ?_⟩
  rw [ev, key_is i2]
  exact hbs i b eb
 have pk : (acc.map (keyV h2)).Perm (onceG ts) := by
  have := p3.map (keyV h2)
  rw [map_map] at this
  exact this.trans pp
 have hal : acc.length = es.size := by have := p3.length_eq; simpa using this
 have knd : ∀ u ∈ acc, keyV h2 u ≠ [] := fun u hu => hts _ (onceG_mem.mp (pk.mem_iff.mp (mem_map.mpr ⟨u, hu, rfl⟩)))
 obtain ⟨xs, rv3, j3⟩ : ∃ xs : List V, Vals xs acc /\ ∀ Z', Ins X.K H1 Z' ((acc.map (keyV h2)).map tupS) xs := by
  clear pk hal p3 knd
  induction acc with
  | nil => exact ⟨[], .nil, fun Z' => ins_nil.mpr rfl⟩
  | cons u acc ih =>
   obtain ⟨xs, r, j⟩ := ih fun v hv => el v (mem_cons_of_mem _ hv)
   obtain ⟨b, rfl, eb⟩ := el u mem_cons_self
   refine ⟨.ref b :: xs, .cons rfl r, fun Z' => ins_cons.mpr ⟨.ref b, xs, rfl, in_tup.mpr ⟨b, _, rfl, eb, ins_strs _⟩, j Z'⟩⟩
 refine wpAny_bind (wpAny_newList ?_ (by rw [hal, sizeLine_eq]; omega))
 have hoL : (h3.push (seqObj "list" acc.toArray 0)).get? h3.objs.size = some (seqObj "list" acc.toArray 0) := get?_push_size _ rfl
 have kp : ∀ b o, h3.get? b = some o -> (h3.push (seqObj "list" acc.toArray 0)).get? b = some o := fun b o e => get?_push_of_some _ e
 have hP : ∀ d ∈ (acc.map (keyV h2)).map tupS, isTs d /\ X.A.in1.in1.units + d.dep < cLine := fun d hd => by
  obtain ⟨x, hx, rfl⟩ := mem_map.mp hd
  obtain ⟨u, hu', rfl⟩ := mem_map.mp hx
  refine ⟨⟨_, knd u hu', rfl⟩, ?_⟩
  have e : (tupS (keyV h2 u)).dep <= 2 := by simp [tupS, D.dep, deps_strs]
  show X.A.units + 1 + 1 + (tupS (keyV h2 u)).dep < cLine
  omega
 refine wpAny_bind (wpAny_holding (wpAny_call_entry slot_list_sort ⟨_, hoL, rfl⟩ entry_list_sort (sort_plain (s := { s1 with heap := h3, drawn := d3, toks := tk3 }) (t1 := tk3) (Z := Z) lin_ts kind_ts hP I3 (j3 Z) rv3 (by omega) kp (Nat.le_refl _) hoL fun s4 prs I4 pp4 e4 => ⟨_, rfl, ?_⟩) (args_list_sort _)))
 have Ha : H1 h3.objs.size = none := I3.hok.fresh (Nat.le_refl _)
 refine wpAny_pure ⟨_, rfl, .ref h3.objs.size, _, I4, rfl, k _ _ (sm1.trans (same_new Ha)) (in_lst.mpr ⟨_, _, rfl, .inl ⟨upd_same, ?_⟩, ?_⟩)⟩
 . cases m
   . exact oz.op _ (sm1.free Ha)
   . exact sm1.free Ha
 have j0 := ins_of_mem fun z hz => ins_zip (j3 (out m Z H)) z (pp4.mem_iff.mp hz)
 rw [e4, upU_perm hts pk] at j0
 exact j0.same (same_new Ha)
end
def partH (h : Heap) (p : Addr -> Bool) : Heap := ⟨h.objs.mapIdx fun i o => if p i then o else { o with data := .freed }, h.life⟩
theorem part_get {h : Heap} {p : Addr -> Bool} {b : Addr} : (partH h p).get? b = if p b = true then h.get? b else none := by
 unfold partH Heap.get?
 rw [Array.getElem?_mapIdx]
 cases e : h.objs[b]? with
 | none => simp
 | some o => cases q : p b <;> simp [q]
def withC (base h : Heap) (cs : List Addr) : Heap := partH h fun b => (base.get? b).isSome || cs.contains b
section
variable {P : Program} {w : World} {K : Frag} {mg : Str -> Option Value} {base base' h : Heap} {A : Around} {outer : List Env} {s : Shared} {H : Hp} {cs : List Addr} {b : Addr} {o : Obj}
theorem withC_of (bs : ∀ b o, base.get? b = some o -> h.get? b = some o) (e : base.get? b = some o) : (withC base h cs).get? b = some o := by
 unfold withC; rw [part_get, if_pos (by simp [e])]; exact bs b o e
theorem withC_cell (hb : b ∈ cs) (e : h.get? b = some o) : (withC base h cs).get? b = some o := by
 unfold withC; rw [part_get, if_pos (by simp [hb])]; exact e
theorem withC_inv (bs : ∀ b o, base.get? b = some o -> h.get? b = some o) (e : (withC base h cs).get? b = some o) : h.get? b = some o /\ (base.get? b = some o \/ b ∈ cs) := by
 unfold withC at e
 rw [part_get] at e
 by_cases q : ((base.get? b).isSome || cs.contains b) = true
 . rw [if_pos q] at e
   refine ⟨e, ?_⟩
   rw [Bool.or_eq_true] at q
   rcases q with q | q
   . obtain ⟨o', q'⟩ := Option.isSome_iff_exists.mp q
     have z := bs b o' q'
     rw [e] at z
     cases z
     exact .inl q'
   . exact .inr (by simpa using q)
 . rw [if_neg q] at e; cases e
theorem mod_more (m : Mod K mg base) (k : ∀ b o, base.get? b = some o -> base'.get? b = some o) : Mod K mg base' :=
 ⟨m.kin.keeps k, m.glob.keeps k, let ⟨mb, a, b⟩ := m.blt; ⟨mb, a.keeps k, b⟩, m.nolimit.keeps k⟩
theorem env0_withC (e : Env0 P w K mg base A outer s H) (hc : ∀ c ∈ cs, H c = none /\ c ∉ frs outer) : Env0 P w K mg (withC base s.heap cs) A outer s H := by
 have bs : ∀ b o, base.get? b = some o -> s.heap.get? b = some o := fun b o q => (e.bs b o q).1
 refine ⟨e.frames, mod_more e.mod fun b o q => withC_of bs q, fun b o q => ?_, by simp [withC, partH], ?_, e.frf, e.hok, e.bare⟩
 . obtain ⟨h1, h2⟩ := withC_inv bs q
   refine ⟨h1, ?_⟩
   rcases h2 with h2 | h2
   . exact (e.bs b o h2).2
   . exact (hc b h2).1
 . have go : ∀ (l : List Env), (∀ b ∈ frs l, b ∉ cs) -> s.heap.FunFrames base l -> s.heap.FunFrames (withC base s.heap cs) l := by
    intro l
    induction l with
    | nil => intro _ _; trivial
    | cons env rest ih =>
     intro hn hl
     obtain ⟨hk, ⟨L, o, hf, hb, ho, hd⟩, hr⟩ := hl
     have hn' : ∀ b, b = L \/ b ∈ frs rest -> b ∉ cs := fun b hb => hn b (by
      unfold frs at hb ⊢
      rw [List.filterMap_cons, hf]
      rcases hb with rfl | hb
      . exact mem_cons_self
      . exact mem_cons_of_mem _ hb)
     refine ⟨hk, ⟨L, o, hf, ?_, ho, hd⟩, ih (fun b hb => hn' b (.inr hb)) hr⟩
     have nL := hn' L (.inl rfl)
     unfold withC
     rw [part_get, if_neg]
     rw [hb]
     simpa using nL
   exact go outer (fun b hb z => (hc b z).2 hb) e.funs
end
structure CloB (base : Heap) (scope : Scope) (clos : List (Str × Addr)) (p : Str) (caps : List (Str × V)) : Prop where
 kind : scope.kind = .function
 co : scope.isCoroutine = false
 gen : scope.isGenerator = false
 nocell : ∀ x ∈ scope.names, x.2 ≠ .cell
 par : scope.names.lookup p = some .local
 cap : ∀ q ∈ caps, scope.names.lookup q.1 = some .free /\ ∃ c u, clos.lookup q.1 = some c /\ RelV q.2 u /\ base.IsCell c (some u)
 inj : ∀ x y c, clos.lookup x = some c -> clos.lookup y = some c -> x = y
 has : ∀ x, scope.names.lookup x = some .free -> ∃ c, clos.lookup x = some c
 cell : ∀ x c, clos.lookup x = some c -> ∃ v, base.IsCell c v
section
variable {X : Cx} {pins : List (Addr × Obj)} {σ : St} {H : Hp} {s : Shared} {f c : Addr} {A : Around} {scope : Scope} {clos : List (Str × Addr)} {p qn : Str} {caps : List (Str × V)}
theorem cell_nofr {x : Str} (I : Inv X pins σ H s) (hf : X.fn x = true) (h : X.env.cells.lookup x = some c) : c ∉ frs X.stack := by
 have h0 : c ∉ X.fs := fun hb => by
  obtain ⟨_, o, ho, _⟩ := I.ok.funs.mem hb
  exact absurd (lt_size ho) (Nat.not_lt.mpr (I.ok.cab x c hf h))
 rcases I.ok.stk with e | ⟨e, fr⟩
 . rw [e]; exact h0
 . rw [e]
   intro hb
   unfold frs at hb
   rw [List.filterMap_cons, fr] at hb
   rcases mem_cons.mp hb with z | z
   . exact I.cne x c h z
   . exact h0 z
def capsV (caps : List (Str × Nat)) (σ : St) : List (Str × V) := caps.map fun q => (q.1, ((σ[q.2]?).join).getD .non)
theorem cloB_of {caps : List (Str × Nat)} (L : LamOk X scope clos p caps) (I : Inv X pins σ H s) (hv : ∀ q ∈ caps, ∃ v, σ[q.2]? = some (some v)) : CloB (withC X.base s.heap (clos.map (·.2))) scope clos p (capsV caps σ) := by
 refine ⟨L.kind, L.co, L.gen, L.nocell, L.par, fun q hq => ?_, fun x y c h1 h2 => I.ok.inj x y c (L.sub x c h1) (L.sub y c h2), L.has, fun x c h => ?_⟩
 . obtain ⟨q0, hq0, rfl⟩ := mem_map.mp hq
   obtain ⟨v, ev⟩ := hv q0 hq0
   obtain ⟨c1, c2, c3, c4⟩ := L.cap q0 hq0
   obtain ⟨m0, hn0, hl0⟩ := I.loc
   obtain ⟨u', r', lk⟩ := hl0 q0.2 q0.1 v c1 ev (.inr (.inl c2))
   refine ⟨c4, ?_⟩
   rcases lk with ⟨k1, _⟩ | ⟨_, c', lc, o, ho, hdo⟩
   . rw [c2] at k1; cases k1
   . have hm : c' ∈ clos.map (·.2) := mem_map.mpr ⟨(q0.1, c'), PySem.mem_of_lookup (c3.trans lc), rfl⟩
     refine ⟨c', u', c3.trans lc, ?_, o, withC_cell hm ho, hdo⟩
     show RelV (((σ[q0.2]?).join).getD .non) u'
     rw [ev]
     exact r'
 . obtain ⟨v, o, ho, hd⟩ := I.cell x c (L.sub x c h)
   exact ⟨v, o, withC_cell (mem_map.mpr ⟨(x, c), PySem.mem_of_lookup h, rfl⟩) ho, hd⟩
theorem inv_lamB (I : Inv X pins σ H s) (L : CloB X.base scope clos p caps) (hd : A.handled = none) (e0 : Env0 X.prog X.w X.K X.mg X.base A X.stack s H) {u : Value} {v : V} (r : RelV v u) {h1 : Heap} {tk : Nat} {R : Result -> Shared -> Prop}
 (hns : h1.Ns s.heap.objs.size fun x => [(p, u)].reverse.lookup x) (hk : ∀ b o, s.heap.get? b = some o -> h1.get? b = some o) :
 Inv (cxLam X A (p :: caps.map (·.1)) qn scope clos f c s H R) [] (some v :: caps.map fun q => some q.2) H { s with heap := h1, toks := tk } := by
 have noA : ∀ b : Addr, b ∉ (cxLam X A (p :: caps.map (·.1)) qn scope clos f c s H R).ex := fun b z => absurd (show b ∈ ([] : List Addr) from z) (by simp)
 have cl : ∀ {c' : Addr} {w : Option Value}, X.base.IsCell c' w -> h1.IsCell c' w := fun {c' w} ⟨o, ho, hdo⟩ => ⟨o, hk _ _ (I.bk _ _ ho), hdo⟩
 refine ⟨⟨e0.mod, L.kind, rfl, rfl, Nat.le_refl _, L.inj, fun y hy => ?_, fun y c' z _ => absurd (show false = true from z) (by simp), fun _ => hd, Around.frames_deeper e0.frames, .inr ⟨rfl, rfl⟩, fun b z => absurd z (noA b), e0.bs, e0.bsz, fun b _ _ => noA b, fun b z => absurd z (noA b), e0.funs, e0.frf⟩,
  rfl, e0.bare, Un.kept hk, ⟨_, hns, fun i y v' h1 h2 h3 => ?_⟩, fun y c' h => ?_, e0.hok.fresh (Nat.le_refl _), fun y c' h => ?_, fun p hp => absurd (show p ∈ ([] : List (Addr × Obj)) from hp) (by simp), e0.hok.kept hk, by simp [cxLam]⟩
 . have hy : scope.names.lookup y = some .cell \/ scope.names.lookup y = some .free := hy
   rcases hy with hy | hy
   . exact absurd rfl (L.nocell _ (PySem.mem_of_lookup hy))
   . exact L.has y hy
 . cases i with
   | zero =>
    have e1 : p = y := by simpa [cxLam] using h1
    have e2 : v = v' := by simpa using h2
    subst e1 e2
    exact ⟨u, r, .inl ⟨L.par, by simp⟩⟩
   | succ i =>
    have e1 : (caps.map (·.1))[i]? = some y := by simpa [cxLam] using h1
    have e2 : (caps.map fun q => some q.2)[i]? = some (some v') := by simpa using h2
    rw [getElem?_map] at e1 e2
    cases eq : caps[i]? with
    | none => rw [eq] at e1; cases e1
    | some q =>
     rw [eq] at e1 e2
     have e3 : q.1 = y := by simpa using e1
     have e4 : q.2 = v' := by simpa using e2
     subst e3 e4
     obtain ⟨k1, c', u', lc, r', ic⟩ := L.cap q (mem_of_getElem? eq)
     exact ⟨u', r', .inr ⟨.inr k1, c', lc, cl ic⟩⟩
 . obtain ⟨v, ic⟩ := L.cell y c' h
   exact ⟨v, cl ic⟩
 . obtain ⟨v, o, ho, _⟩ := L.cell y c' h
   exact (I.bs _ _ ho).2
def LamB (K : Frag) (ds : List D) (vs : List V) (f c : Addr) (qn : Str) (params : Arguments) (body : Expr) (scope : Scope) (clos : List (Str × Addr)) (pm ctv : Value) (H : Hp) (Z : Zone) : Prop :=
 H f = some (lamO f qn params body scope clos pm c ctv) /\ H c = some (recO c qn) /\ Ins K H Z ds vs
variable {params : Arguments} {body : Expr} {pm ctv : Value} {g : D -> D} {P0 : D -> Prop} {m : Bool} {ds : List D}
theorem lam_keysB (L : CloB X.base scope clos p caps) (hd : A.handled = none) (hA : A.frames = X.A.frames) (hroom : A.depth < recursionLimit)
 (hb : ∀ u, bindArgs (PySem.W.kla_fn "<lambda>" qn params body scope clos pm (.ref c) ctv) ⟨[u], []⟩ = pure [(p, u)])
 (hbody : ∀ (s : Shared) (H : Hp) (R : Result -> Shared -> Prop) (d : D), P0 d -> E (cxLam X A (p :: caps.map (·.1)) qn scope clos f c s H R) m (some d :: ds.map some) body (g d)) :
 Keys X A σ f g P0 (LamB X.K ds (caps.map (·.2)) f c qn params body scope clos pm ctv) where
 zone := fun {H Z Z'} hS hm ⟨a, b, en⟩ => ⟨a, b, en.carry (.of (Same.refl H) (fun a xs e z => hS a _ e z) hm)⟩
 same := fun {H H' Z} sm ⟨a, b, en⟩ => ⟨sm.at a, sm.at b, en.same sm⟩
 write := fun {H Z l xs ys} hl n ⟨a, b, en⟩ => ⟨by rw [upd_ne (ne_of a hl (by intro z; cases z))]; exact a, by rw [upd_ne (ne_of b hl (by intro z; cases z))]; exact b, en.carry (.write hl n)⟩
 run := fun E' pins s H Z u d Q I oz ⟨ga, gb, en⟩ ⟨v, r, iv⟩ p0 k => by
  have hfo : s.heap.get? f = some (kla_obj "<lambda>" qn params body scope clos pm c ctv) := (I.hok f _ ga).1
  have hrec : s.heap.CodeRec (.ref c) qn := (I.hok c _ gb).1
  have e0 : Env0 X.prog X.w X.K X.mg X.base A X.stack s H := ⟨hA.trans I.env0.frames, I.env0.mod, I.env0.bs, I.env0.bsz, I.env0.funs, I.env0.frf, I.env0.hok, I.env0.bare⟩
  refine wpAny_call (PySem.W.kla_callFunE hroom hfo rfl L.co L.gen rfl hrec ?_)
  rw [hb u]
  refine wpAny_pure (wpAny_newFunctionEnv L.nocell (fun x hx => ?_) (fun h1 hns hsb => ⟨I.nolimit.fresh _ hsb, ?_⟩) L.kind)
  . have : x = (p, u) := by simpa using hx
    rw [this]; exact L.par
  . show codeAny _ _ (.expr body (envX qn scope s.heap.objs.size f (.ref c) clos)) _ _
    have hk1 : ∀ b o, s.heap.get? b = some o -> h1.get? b = some o := fun b o e => hsb.extBut b o (Nat.ne_of_lt (lt_size e)) (get?_push_of_some _ e)
    refine PySem.W.kla_codeExpr ?_
    have J := inv_lamB (f := f) (c := c) (qn := qn) (R := fun r s' => match r with | .ok (.ret v) => Q v s' | .ok _ => False | .error e => E' e s') (tk := s.toks + 1) I L hd e0 r hns hk1
    have en2 : EnvIn X.K H Z (some v :: caps.map fun q => some q.2) (some d :: ds.map some) := fun i d' e => by
     cases i with
     | zero => cases e; exact ⟨v, rfl, iv.top⟩
     | succ i =>
      have e' : ds[i]? = some d' := by
       have z : (ds.map some)[i]? = some (some d') := by simpa using e
       rw [getElem?_map] at z
       cases q : ds[i]? with
       | none => rw [q] at z; cases z
       | some x => rw [q] at z; cases z; rfl
      obtain ⟨w, h1, h2⟩ := en.get e'
      refine ⟨w, ?_, h2.top⟩
      rw [getElem?_map] at h1
      show (caps.map fun q => some q.2)[i]? = _
      rw [getElem?_map]
      cases q : caps[i]? with
      | none => rw [q] at h1; cases h1
      | some x => rw [q] at h1; cases h1; rfl
    have run := hbody s H (fun r s' => match r with | .ok (.ret v) => Q v s' | .ok _ => False | .error e => E' e s') d p0 [] _ _ H (fun v' H' => Same H H' /\ In X.K H' (out m Z H) (g d) v') J ⟨Z, oz, en2, fun v' H' sm i => ⟨sm, i⟩⟩
    refine wpAny_mono run (fun w s' ⟨v', H', J', rw', sm, iw⟩ => ?_) fun _ _ z => z
    obtain ⟨v2, H2, I2, r2, sm2, iw2⟩ := I.after (Q := fun v' H' => Same H H' /\ In X.K H' (out m Z H) (g d) v') (u := w) (s' := s') ⟨v', H', J'.os, J'.bare, J'.base, J'.hok, rw', sm, iw⟩
    exact k w H2 s' I2 sm2 ⟨v2, r2, iw2.plain oz⟩
end
section
variable {X : Cx} {f c : Addr} {scope : Scope} {clos : List (Str × Addr)} {qn x : Str} {params : Arguments} {body : Expr} {pm ctv : Value} {g : D -> D} {P0 : D -> Prop} {m : Bool} {ρ : List (Option D)} {a : Expr} {d : D} {i : Nat} {p pos : Pos} {dcs : List D} {vcs : List V}
def tCallV (K : Frag) (i : Nat) (f : Addr) (ρ : List (Option D)) (Good : Hp -> Zone -> Prop) (d' : D) : TE := fun σ H Q => σ[i]? = some (some (.ref f)) /\ ∃ Z : Zone, Z.Open H /\ EnvIn K H Z σ ρ /\ Good H Z /\ ∀ v H', Same H H' -> In K H' Z d' v -> Q v H'
theorem pe_callV (hN : X.N[i]? = some x) (hv : Vis X.env.scope x) (ha : E X m ρ a d) (kk : ∀ σ, Keys X X.A σ f g P0 (LamB X.K dcs vcs f c qn params body scope clos pm ctv)) (hp : P0 d)
 (hd : (x == ("__debug__" : Str)) = false := by decide) (hcd : (x == ("__classdict__" : Str)) = false := by decide) (hs : starEach [a] X.env = [(false, eval a X.env)] := by rfl) :
 PE X (.Call (.Name x p) [a] [] pos) (tCallV X.K i f ρ (LamB X.K dcs vcs f c qn params body scope clos pm ctv) (g d)) := by
 intro pins s σ H Q I ⟨e, Z, oz, en, gd, k⟩
 refine wpAny_Call_Name_kw (thn (pe_var hN hv hd hcd pins s σ H (fun v H' => v = .ref f /\ H' = H) I ⟨_, e, rfl, rfl⟩) fun u s1 ⟨v, H1, I1, r1, q1, q2⟩ => ?_)
 subst q1 q2
 cases r1
 have PAa := pa_cons ha pa_nil (by rw [hs]; rfl)
 refine PyProof.Rows.callWith_def (o := kla_obj "<lambda>" qn params body scope clos pm c ctv) rfl (thn (PAa pos pins s1 σ H1 (fun vs H2 => Same H1 H2 /\ ∃ x, vs = [x] /\ In X.K H2 (out m Z H1) d x) I1 ⟨Z, oz, en, fun x H2 s2 i2 => ⟨s2, x, rfl, i2⟩⟩) fun us s2 ⟨vs, H2, I2, r2, sm, x, ex, ix⟩ => ⟨?_, ?_⟩) (by rw [hs]; rfl)
 . exact (I2.hok f _ (sm.at gd.1)).1
 . subst ex
   obtain ⟨u, rfl, rx⟩ := vals1 r2
   exact (kk σ).run _ pins s2 H2 Z u d _ I2 (oz.same sm) ((kk σ).same sm gd) ⟨x, rx, ix.plain oz⟩ hp fun kv H3 s3 I3 sm3 ⟨v3, r3, i3⟩ => ⟨v3, H3, I3, r3, k v3 H3 (sm.trans sm3) i3⟩
end
section
variable {X : Cx} {F : Fn} {ρ ρ1 : Rho} {Q : EndD} {rest body orelse : List Stmt} {e a : Expr} {d : D} {pos p cpos : Pos} {i : Nat} {x : Str} {m : Bool} {f c : Addr} {scope : Scope} {clos : List (Str × Addr)} {qn : Str} {params : Arguments} {lb : Expr} {pm ctv : Value} {g : D -> D} {P0 : D -> Prop} {dcs : List D} {vcs : List V} {b : Bool}
theorem sd_ifV (hi : ρ[i]? = some (some (.rf (.ref f)))) (ha : E X m (view true false ρ) a d) (kk : ∀ σ, Keys X X.A σ f g P0 (LamB X.K dcs vcs f c qn params lb scope clos pm ctv)) (hp : P0 d) (hg : g d = .bl b) (gd : LamB X.K dcs vcs f c qn params lb scope clos pm ctv F.H F.Z)
 (h1 : b = true -> SD X F body ρ { Q with nx := fun r => SD X F rest r Q }) (h2 : b = false -> SD X F orelse ρ { Q with nx := fun r => SD X F rest r Q }) (hN : X.N[i]? = some x := by rfl) (hv : Vis X.env.scope x := by first | exact Or.inl rfl | exact Or.inr (Or.inl rfl) | exact Or.inr (Or.inr rfl))
 (hd : (x == ("__debug__" : Str)) = false := by decide) (hcd : (x == ("__classdict__" : Str)) = false := by decide) (hs : starEach [a] X.env = [(false, eval a X.env)] := by rfl) :
 SD X F (.If (.Call (.Name x p) [a] [] cpos) body orelse pos :: rest) ρ Q := by
 refine sd_seq (N := fun r => SD X F rest r Q) ?_ fun _ h => h
 have hc := pt_val (pe_callV (p := p) (pos := cpos) hN hv ha kk hp hd hcd hs)
 have at' : ∀ {σ hv : St} {hρ : Rho} {A : Nat -> List Addr} {H : Hp}, σ.length = ρ.length -> StIn X.K F H (σ ++ hv) (ρ ++ hρ) A -> σ[i]? = some (some (.ref f)) := fun {σ hv hρ A H} hl S => by
  have il : i < ρ.length := (List.getElem?_eq_some_iff.mp hi).1
  obtain ⟨v, e1, e2⟩ := S.at' i (.rf (.ref f)) (by rw [getElem?_append_left il]; exact hi)
  rw [getElem?_append_left (by omega)] at e1
  have e3 : v = .ref f := e2
  rw [e1, e3]
 cases b with
 | true =>
  exact PS.mono (ps_if hc (h1 rfl) (pss_never (sts := orelse))) fun Q' σ H z0 => el33 z0 fun hv hρ A hl S ff => ⟨at' hl S, _, vz_open S true false, S.env hl true false, (kk σ).same S.same gd, fun v H1 s1 i1 => by
   rw [hg] at i1
   exact ⟨true, in_bl.mp i1, by refine iteT ?_; exact ⟨hv, hρ, A, hl, S.grow s1, ff⟩⟩⟩
 | false =>
  exact PS.mono (ps_if hc (pss_never (sts := body)) (h2 rfl)) fun Q' σ H z0 => el33 z0 fun hv hρ A hl S ff => ⟨at' hl S, _, vz_open S true false, S.env hl true false, (kk σ).same S.same gd, fun v H1 s1 i1 => by
   rw [hg] at i1
   exact ⟨false, in_bl.mp i1, by refine iteF ?_; exact ⟨hv, hρ, A, hl, S.grow s1, ff⟩⟩⟩
end
def spV (K : Frag) (f : Addr) (Good : Hp -> Zone -> Prop) (m : Bool) (ds : List D) (d : D) : Sp := fun vs H Q _ => ∃ (Z : Zone) (xs : List V), vs = xs ++ [.ref f] /\ Z.Open H /\ Ins K H Z ds xs /\ Good H Z /\ ∀ v H', Same H H' -> In K H' (out m Z H) d v -> Q v H'
def startV (N : List Str) (ds : List D) (v : V) : Rho := (startD N ds).set ds.length (some (.rf v))
theorem start_put {N : List Str} {xs : List V} {v : V} (h : xs.length < N.length) : L2.start N (xs ++ [v]) = (L2.start N xs).set xs.length (some v) := by
 unfold L2.start
 obtain ⟨k, hk⟩ : ∃ k, N.length - xs.length = k + 1 := ⟨N.length - xs.length - 1, by omega⟩
 have hk' : N.length - (xs ++ [v]).length = k := by rw [List.length_append]; simp; omega
 rw [hk, hk', List.replicate_succ, map_append, List.append_assoc, List.set_append_right _ _ (by simp)]
 simp
theorem startV_in {K : Frag} {Z : Zone} {H : Hp} {m : Bool} {N : List Str} {ds : List D} {xs : List V} {v : V} (oz : Z.Open H) (h : Ins K H Z ds xs) (hN : ds.length < N.length) :
 StIn K ⟨m, Z, H⟩ H (L2.start N (xs ++ [v]) ++ []) (startV N ds v ++ []) (putA (fun _ => []) ds.length []) := by
 have hl := h.length
 have S := start_in (m := m) (N := N) oz h
 rw [start_put (by omega), <- hl]
 unfold startV
 have e1 : (L2.start N xs).length = N.length := by simp [L2.start]; omega
 have e2 : (startD N ds).length = N.length := by simp [startD]; omega
 rw [<- set_app (by omega), <- set_app (by omega)]
 exact S.put (by rw [List.length_append]; omega) (by rw [List.length_append]; omega) (Same.refl H) List.nodup_nil (fun a ha => by simp at ha) rfl
section
variable {P : Program} {w : World} {K : Frag} {mg : Str -> Option Value} {base : Heap}
theorem fnV {x qual : Str} {st : Stmt} {f fl : Addr} {fd : FuncData} {N ps : List Str} {k : Nat} {m : Bool} {Good : Hp -> Zone -> Prop} {ds : List D} {d : D} (Fx : Fun K x qual st f fd) (S : FnScope N ps (defScope st)) (hlen : ds.length + 1 = ps.length) (hN : ds.length < N.length)
 (body : ∀ (cdv : Value) (A : Around) (outer : List Env) (s : Shared) (H : Hp) (E : XK) (Z : Zone), Room k (A.deeper (envOfC qual (defScope st) s.heap.objs.size f cdv)) -> Good H Z ->
  SD (cxOf CX0 P w K mg base N qual (defScope st) f cdv A outer s H E).nox ⟨m, Z, H⟩ (defBody st) (startV N ds (.ref fl)) { nx := fun _ => d = .non, rt := fun d' => d' = d }) : FnOk P w K mg base CX0 (k + 1) f fd ps (spV K fl Good m ds d) := by
 refine Fx.ok S (fun vs H Q E ⟨Z, xs, e, oz, i, gd, kk⟩ => ?_) (fun cdv A outer s H vs Q E hr ⟨Z, xs, e, oz, i, gd, kk⟩ => ?_)
 . rw [e, List.length_append, <- i.length]; exact hlen
 . subst e
   have hl := i.length
   refine ⟨_, body cdv A outer s H E Z hr gd, [], [], _, ?_, startV_in oz i hN, ⟨rfl, fun σ H' ⟨r, A', hl, S', e⟩ => ?_, fun σ H' ⟨r, A', hl, S', e⟩ => e.elim, fun σ H' ⟨r, A', hl, S', e⟩ => e.elim, fun v d' H' s' i' e => ?_, fun _ _ _ _ _ _ _ _ e => e.elim, fun _ _ _ _ _ _ _ _ _ _ _ _ _ e => e.elim⟩⟩
   . simp [L2.start, startV, startD]; omega
   . subst e
     exact kk .non H' S'.same (in_non.mpr rfl)
   . subst e
     exact kk v H' s' i'
end
section
variable {X : Cx} {ρ : List (Option D)} {m1 m2 m : Bool} {a b : Expr} {da db d : D} {p pos lpos : Pos} {c Pt fa : Addr} {fd : FuncData} {k : Nat} {qn pn x p1 p2 p3 : Str} {params : Arguments} {body : Expr} {scope : Scope} {clos : List (Str × Addr)} {caps : List (Str × Nat)} {dcs : List D}
def tLam (qn : Str) (params : Arguments) (body : Expr) (scope : Scope) (clos : List (Str × Addr)) : TE := fun σ H Q => TabsOk H /\ ∀ f c' pm ctv H', Same H H' -> H' f = some (lamO f qn params body scope clos pm c' ctv) -> H' c' = some (recO c' qn) -> Q (.ref f) H'
theorem pe_lam (LC : LamCx X c Pt qn) (hdef : defaultsOf params X.env = ([], [])) (hcl : closureFor scope X.env = pure clos) : PE X (.Lambda params body scope lpos) (tLam qn params body scope clos) := fun pins s σ H Q I ⟨t, k⟩ =>
 lam_eval LC I t hdef hcl fun f c' pm ctv H' s' I' sm _ h1 h2 => ⟨.ref f, H', I', rfl, k f c' pm ctv H' sm h1 h2⟩
theorem cap_at {js : List Nat} {j i : Nat} (hcap : capD js ρ = dcs.map some) (hj : js[j]? = some i) : ∃ d, dcs[j]? = some d /\ ρ[i]? = some (some d) := by
 have z : (capD js ρ)[j]? = some ((ρ[i]?).join) := by unfold capD; rw [getElem?_map, hj]; rfl
 rw [hcap, getElem?_map] at z
 cases q0 : dcs[j]? with
 | none => rw [q0] at z; cases z
 | some dd =>
  rw [q0] at z
  refine ⟨dd, rfl, ?_⟩
  cases q1 : ρ[i]? with
  | none => rw [q1] at z; cases z
  | some o =>
   rw [q1] at z
   cases o with
   | none => cases z
   | some o => cases z; rfl
theorem e_callV (ha : E X m1 ρ a da) (hb : E X m2 ρ b db) (LC : LamCx X c Pt qn) (LO : LamOk X scope clos pn caps) (hcl : closureFor scope X.env = pure clos) (hcap : capD (caps.map (·.2)) ρ = dcs.map some) (hfn : ∀ x c, clos.lookup x = some c -> X.fn x = true) (hlk : ∀ q ∈ clos, clos.lookup q.1 = some q.2)
 (hF : ∀ (base' : Heap) (capsv : List (Str × V)) (f c' : Addr) (pm ctv : Value), capsv.map (·.1) = caps.map (·.1) -> CloB base' scope clos pn capsv -> FnOk X.prog X.w X.K X.mg base' CX0 k fa fd [p1, p2, p3] (spV X.K f (LamB X.K dcs (capsv.map (·.2)) f c' qn params body scope clos pm ctv) m [da, db] d))
 (hr : Room k X.A) (hmg : X.mg x = some (.ref fa)) (hk : keepIn X.K (.ref fa) = true) (hbd : Binds X.K fd [p1, p2, p3] []) (hdef : defaultsOf params X.env = ([], []) := by rfl) (hg : Gl X x := by rfl) (hdb : (x == ("__debug__" : Str)) = false := by decide)
 (h1 : starEach [a, b, .Lambda params body scope lpos] X.env = (false, eval a X.env) :: starEach [b, .Lambda params body scope lpos] X.env := by rfl) (h2 : starEach [b, .Lambda params body scope lpos] X.env = (false, eval b X.env) :: starEach [.Lambda params body scope lpos] X.env := by rfl)
 (hng : ∀ d ∈ dcs, d.nag = true := by intro d hd; rcases List.mem_singleton.mp hd with rfl; rfl) (hx : Passes CX0 X E0 := by exact pass0) : E X m ρ (.Call (.Name x p) [a, b, .Lambda params body scope lpos] [] pos) d := by
 intro pins s σ H Q I ⟨Z, oz, en, kq⟩
 have PAa := pa_cons ha (pa_cons hb (pa_cons (pe_lam (body := body) (lpos := lpos) LC hdef hcl) pa_nil rfl) h2) h1
 refine wpAny_Call_Name_kw (ld_glob I hg hmg ?_ hdb)
 refine PySem.W.callWith_K (h₀ := X.base) I.ok.mod.kin hk (thn (PAa pos pins s σ H (fun vs H3 => Same H H3 /\ ∃ xa xb f c' pm ctv, vs = [xa, xb, .ref f] /\ In X.K H3 Z da xa /\ In X.K H3 Z db xb /\ H3 f = some (lamO f qn params body scope clos pm c' ctv) /\ H3 c' = some (recO c' qn)) I
  ⟨Z, oz, en, fun xa H1 s1 i1 => ⟨Z, oz.same s1, en.same s1, fun xb H2 s2 i2 => ⟨(s1.trans s2).tabs oz.tb, fun f c' pm ctv H3 s3 q1 q2 => ⟨(s1.trans s2).trans s3, xa, xb, f, c', pm, ctv, rfl, ((i1.plain oz).same s2).same s3, (i2.plain (oz.same s1)).same s3, q1, q2⟩⟩⟩⟩) fun us s1 ⟨vs, H3, I3, r3, sm, xa, xb, f, c', pm, ctv, ev, ia, ib, q1, q2⟩ => ⟨I3.kIn, ?_⟩) h1 (by rw [h2]; rfl)
 subst ev
 have hv : ∀ q ∈ caps, ∃ v, σ[q.2]? = some (some v) := fun q hq => by
  obtain ⟨j, hj⟩ := List.getElem?_of_mem hq
  obtain ⟨dd, _, e2⟩ := cap_at hcap (j := j) (i := q.2) (by rw [getElem?_map, hj]; rfl)
  obtain ⟨v, e, _⟩ := en q.2 dd e2
  exact ⟨v, e⟩
 have C := cloB_of LO I3 hv
 have FF := hF _ _ f c' pm ctv (by unfold capsV; rw [map_map]; rfl) C
 have cells : ∀ cc ∈ clos.map (·.2), H3 cc = none /\ cc ∉ frs X.stack := fun cc hcc => by
  obtain ⟨⟨y, cc'⟩, hm, rfl⟩ := mem_map.mp hcc
  have lk := hlk _ hm
  exact ⟨I3.freeC y cc' (LO.sub y cc' lk), cell_nofr I3 (hfn y cc' lk) (LO.sub y cc' lk)⟩
 have dat : Ins X.K H3 Z dcs ((capsV caps σ).map (·.2)) := by
  have hl : dcs.length = caps.length := by have z := congrArg List.length hcap; simpa [capD] using z.symm
  refine Ins.of_get (by simp [capsV, hl]) fun j dd v e1 e2 => ?_
  unfold capsV at e2
  rw [map_map, getElem?_map] at e2
  cases q0 : caps[j]? with
  | none => rw [q0] at e2; cases e2
  | some q =>
   rw [q0] at e2
   obtain ⟨d2, z1, z2⟩ := cap_at hcap (j := j) (i := q.2) (by rw [getElem?_map, q0]; rfl)
   rw [e1] at z1
   cases z1
   obtain ⟨v2, z3, z4⟩ := en q.2 dd z2
   have e4 : ((σ[q.2]?).join).getD .non = v := by simpa using e2
   rw [z3] at e4
   have e5 : v2 = v := e4
   rw [<- e5]
   exact (z4.same sm).inn (hng dd (mem_of_getElem? e1))
 refine wpAny_call (codeAny_mono (FF.run X.A X.stack s1 H3 ⟨us, []⟩ us [xa, xb, .ref f] Q E0 hr (env0_withC I3.env0 cells) ?_ r3 ⟨Z, [xa, xb], rfl, oz.same sm, ?_, ⟨q1, q2, dat⟩, fun v H' s' i' => kq v H' (sm.trans s') (i'.later sm)⟩) fun r s' hq => ?_)
 . have z := hbd s1 us I3.kIn (by rw [append_nil, <- r3.length]; rfl)
   rw [append_nil] at z
   exact z
 . exact ins_cons.mpr ⟨_, _, rfl, ia, Ins.one ib⟩
 . match r, hq with
   | .ok (.ret u), hq => exact I3.after hq
   | .error e, hq => exact hx pins σ H3 s1 e s' I3 hq
end
end Y
namespace Y
open PySem PySem.Spec PyProof.Rows L2
variable [Tabs]
def ltE (rows : List (List Str)) (p q : Nat × Nat) : Bool := dor .lt (ordD rows p) (ordD rows q)
theorem isOrd_ord (rows : List (List Str)) (p : Nat × Nat) : isOrd (ordD rows p) := ⟨_, p, rfl⟩
theorem plD_inj {p q : Nat × Nat} (h : plD p = plD q) : p = q := by
 unfold plD at h
 injection h with h
 injection h with h1 h
 injection h with h2 h
 injection h1 with h1
 injection h2 with h2
 exact Prod.ext (by omega) (by omega)
theorem ordD_inj {rows : List (List Str)} {p q : Nat × Nat} (h : ordD rows p = ordD rows q) : p = q := by
 unfold ordD at h
 injection h with h
 injection h with h1 h
 injection h with h2 h
 exact plD_inj h2
theorem ltE_ir (rows : List (List Str)) (p : Nat × Nat) : ltE rows p p = false := lin_ord.ir _ (isOrd_ord rows p)
theorem ltE_tr {rows : List (List Str)} {p q r : Nat × Nat} (a : ltE rows p q = true) (b : ltE rows q r = true) : ltE rows p r = true := lin_ord.tr _ _ _ (isOrd_ord rows p) (isOrd_ord rows q) (isOrd_ord rows r) a b
theorem ltE_tt {rows : List (List Str)} {p q : Nat × Nat} (n : p ≠ q) (a : ltE rows q p = false) : ltE rows p q = true := by
 cases h : ltE rows p q with
 | true => rfl
 | false => exact absurd (ordD_inj (lin_ord.tt _ _ (isOrd_ord rows p) (isOrd_ord rows q) h a)) n
theorem ltE_as {rows : List (List Str)} {p q : Nat × Nat} (a : ltE rows p q = true) : ltE rows q p = false := by
 cases h : ltE rows q p with
 | false => rfl
 | true => have := ltE_tr a h; rw [ltE_ir] at this; cases this
def endsL (rows : List (List Str)) : List (Nat × Nat) := (allP rows).mergeSort fun x y => !ltE rows y x
theorem endsD_eq (rows : List (List Str)) : endsD rows = plsD (endsL rows) := by
 unfold endsD plsD endsL srt
 congr 1
 refine (List.map_mergeSort (f := plD) (r := fun x y => !ltE rows y x) (s := fun x y => !dor .lt (keyD rows y) (keyD rows x)) fun a _ b _ => ?_).symm
 rw [keyD_pl, keyD_pl]
 rfl
theorem endsL_perm (rows : List (List Str)) : (endsL rows).Perm (allP rows) := List.mergeSort_perm _ _
theorem endsL_len (rows : List (List Str)) : (endsL rows).length = tot rows := by rw [(endsL_perm rows).length_eq, allP_tot]
theorem pairs_nodup {α β : Type} (l : List α) (f : α -> List β) (hl : l.Nodup) (h1 : ∀ a ∈ l, (f a).Nodup) (h2 : ∀ a b x, x ∈ f a -> x ∈ f b -> a = b) : (l.flatMap f).Nodup := by
 induction l with
 | nil => simp
 | cons a l ih =>
  rw [List.flatMap_cons, List.nodup_append]
  rw [nodup_cons] at hl
  refine ⟨h1 a (by simp), ih hl.2 fun b hb => h1 b (by simp [hb]), fun x hx y hy e => ?_⟩
  subst e
  obtain ⟨b, hb, hy⟩ := List.mem_flatMap.mp hy
  have := h2 a b x hx hy
  subst this
  exact hl.1 hb
theorem allP_nodup (rows : List (List Str)) : (allP rows).Nodup := by
 unfold allP allPn
 refine pairs_nodup _ _ List.nodup_range (fun n _ => ?_) fun a b x ha hb => ?_
 . rw [List.nodup_iff_pairwise_ne, List.pairwise_map]
   refine List.Pairwise.imp ?_ (List.nodup_iff_pairwise_ne.mp List.nodup_range)
   intro a b h e
   injection e with _ e
   exact h e
 . obtain ⟨_, _, rfl⟩ := mem_map.mp ha
   obtain ⟨_, _, e⟩ := mem_map.mp hb
   injection e with e _
   exact e.symm
theorem endsL_nodup (rows : List (List Str)) : (endsL rows).Nodup := (endsL_perm rows).nodup_iff.mpr (allP_nodup rows)
theorem endsL_mem {rows : List (List Str)} {p : Nat × Nat} : p ∈ endsL rows ↔ p ∈ allP rows := (endsL_perm rows).mem_iff
theorem endsL_up (rows : List (List Str)) : (endsL rows).Pairwise fun x y => ltE rows x y = true := by
 have h : (endsL rows).Pairwise fun x y => (!ltE rows y x) = true := by
  unfold endsL
  refine List.pairwise_mergeSort (le := fun x y => !ltE rows y x) (fun a b c h1 h2 => ?_) (fun a b => ?_) _
  . simp only [Bool.not_eq_true'] at *
    cases q : ltE rows c a with
    | false => rfl
    | true =>
     by_cases e : b = c
     . subst e; rw [h1] at q; cases q
     . have := ltE_tr (ltE_tt e h2) q
       rw [h1] at this; cases this
  . cases q : ltE rows b a with
    | false => simp
    | true => rw [ltE_as q]; simp
 have n := List.nodup_iff_pairwise_ne.mp (endsL_nodup rows)
 refine (h.and n).imp fun {x y} h => ltE_tt h.2 (by simpa using h.1)
def PlIn (rows : List (List Str)) (ps : List (Nat × Nat)) : Prop := ∀ p ∈ ps, p ∈ allP rows
def isPl (d : D) : Prop := ∃ p, d = plD p
theorem lin_pl : Lin isPl := (lin_tup fun _ => lin_int).sub fun d ⟨p, e⟩ => ⟨_, e, ⟨p.1, rfl⟩, ⟨p.2, rfl⟩, trivial⟩
theorem endsL_in (rows : List (List Str)) : PlIn rows (endsL rows) := fun p hp => endsL_mem.mp hp
theorem isLS (ws : List Str) : isLst isStr (strsD ws) := ⟨_, rfl, fits_all fun d hd => by obtain ⟨w, _, rfl⟩ := mem_map.mp hd; exact ⟨w, rfl⟩⟩
theorem lt_self (ws : List Str) : dor .lt (strsD ws) (strsD ws) = false := (lin_lst lin_str).ir _ (isLS ws)
theorem cmp_strs (a b : List Str) : cmpb (strsD a) (strsD b) = true := (lin_lst lin_str).cm _ _ (isLS a) (isLS b)
theorem ahead_is (rows : List (List Str)) (p q : Nat × Nat) : (dor .lt (strsD (endAt rows p)) (strsD (endAt rows q)) || (deq (strsD (endAt rows p)) (strsD (endAt rows q)) && dor .lt (plD p) (plD q))) = ltE rows p q := by
 unfold ltE ordD
 simp only [dor, dors]
 by_cases h : endAt rows p = endAt rows q
 . rw [h, lt_self, deq_refl, if_pos rfl]
   by_cases h2 : p = q
   . subst h2
     rw [deq_refl, if_pos rfl, lin_pl.ir _ ⟨p, rfl⟩]
     rfl
   . rw [told_plD, if_neg (by simpa using h2)]
     rfl
 . rw [told_strs, if_neg (by simpa using h), decide_eq_false h]
   simp
theorem ltE_or {rows : List (List Str)} {p q : Nat × Nat} (h : ltE rows p q = true) : dor .lt (strsD (endAt rows p)) (strsD (endAt rows q)) = true \/ (endAt rows p = endAt rows q /\ dor .lt (plD p) (plD q) = true) := by
 rw [<- ahead_is] at h
 rw [Bool.or_eq_true, Bool.and_eq_true, told_strs, decide_eq_true_eq] at h
 exact h
def slt (a b : List Str) : Bool := dor .lt (strsD a) (strsD b)
theorem slt_ir (a : List Str) : slt a a = false := (lin_lst lin_str).ir _ (isLS a)
theorem slt_tr {a b c : List Str} (h : slt a b = true) (k : slt b c = true) : slt a c = true := (lin_lst lin_str).tr _ _ _ (isLS a) (isLS b) (isLS c) h k
theorem strsD_inj {a b : List Str} (h : strsD a = strsD b) : a = b := by
 unfold strsD at h
 injection h with h
 exact List.map_inj_right (f := D.str) (fun x y e => by injection e) |>.mp h
theorem slt_tt {a b : List Str} (h : slt a b = false) (k : slt b a = false) : a = b := strsD_inj ((lin_lst lin_str).tt _ _ (isLS a) (isLS b) h k)
theorem slt_as {a b : List Str} (h : slt a b = true) : slt b a = false := by
 cases q : slt b a with
 | false => rfl
 | true => have z := slt_tr h q; rw [slt_ir] at z; cases z
theorem slt_nil (a : List Str) : slt a [] = false := by
 cases a <;> simp [slt, strsD, dor, dors, Od.sz]
theorem nil_slt {x : Str} {a : List Str} : slt [] (x :: a) = true := by
 simp [slt, strsD, dor, dors, Od.sz]
theorem slt_cons (x y : Str) (a b : List Str) : slt (x :: a) (y :: b) = if x = y then slt a b else Od.str .lt x y := by
 unfold slt strsD
 rw [map_cons, map_cons, dor, dors, dor]
 by_cases h : x = y
 . rw [if_pos h, if_pos (by simp [deq, h]), dor]
 . rw [if_neg h, if_neg (by simp [deq, h])]
theorem sle_not : ∀ (a b : List Str), dor .le (strsD a) (strsD b) = !slt b a
 | [], b => by rw [slt_nil]; simp [strsD, dor, dors, Od.sz]
 | x :: a, [] => by rw [nil_slt]; simp [strsD, dor, dors, Od.sz]
 | x :: a, y :: b => by
  have ih := sle_not a b
  unfold strsD at ih ⊢
  rw [dor] at ih
  rw [slt_cons, map_cons, map_cons, dor, dors, dor]
  by_cases h : x = y
  . rw [if_pos (by simp [deq, h]), if_pos h.symm]
    exact ih
  . rw [if_neg (by simp [deq, h]), if_neg (Ne.symm h)]
    rfl
theorem slt_take : ∀ (k : Nat) (a b : List Str), slt b a = false -> slt (b.take k) (a.take k) = false
 | 0, a, b, _ => by simpa using slt_nil []
 | k + 1, [], b, _ => by simpa using slt_nil _
 | k + 1, x :: a, [], h => by rw [nil_slt] at h; cases h
 | k + 1, x :: a, y :: b, h => by
  rw [List.take_succ_cons, List.take_succ_cons, slt_cons]
  rw [slt_cons] at h
  by_cases e : y = x
  . rw [if_pos e] at h ⊢
    exact slt_take k a b h
  . rw [if_neg e] at h ⊢
    exact h
theorem slt_begins : ∀ (ws e : List Str), e.take ws.length = ws -> slt e ws = false
 | [], e, _ => slt_nil e
 | y :: ws, [], h => by simp at h
 | y :: ws, x :: e, h => by
  rw [length_cons, List.take_succ_cons] at h
  injection h with h1 h2
  rw [slt_cons, if_pos h1]
  exact slt_begins ws e h2
theorem slt_cut (e ws : List Str) : slt (e.take ws.length) ws = slt e ws := by
 cases h : slt e ws with
 | false =>
  have z := slt_take ws.length ws e h
  rwa [take_length] at z
 | true =>
  cases q : slt (e.take ws.length) ws with
  | true => rfl
  | false =>
   have z := slt_take ws.length e ws (slt_as h)
   rw [take_length] at z
   rw [slt_begins ws e (slt_tt q z)] at h
   cases h
theorem sle_or (e ws : List Str) : dor .le (strsD (e.take ws.length)) (strsD ws) = (slt e ws || decide (e.take ws.length = ws)) := by
 rw [sle_not, <- slt_cut e ws]
 generalize e.take ws.length = t
 cases h : slt t ws with
 | true => rw [slt_as h]; rfl
 | false =>
  by_cases q : t = ws
  . rw [q, slt_ir]; simp
  . cases z : slt ws t with
    | true => simp [q]
    | false => exact absurd (slt_tt h z) q
def lowN (rows : List (List Str)) (ps : List (Nat × Nat)) (ws : List Str) : Nat := ps.countP fun p => slt (endAt rows p) ws
def manyN (rows : List (List Str)) (ps : List (Nat × Nat)) (ws : List Str) : Nat := ps.countP fun p => decide ((endAt rows p).take ws.length = ws)
theorem count_or {α : Type} {a b : α -> Bool} (h : ∀ x, a x = true -> b x = false) : ∀ l : List α, l.countP (fun x => a x || b x) = l.countP a + l.countP b
 | [] => rfl
 | x :: l => by
  rw [List.countP_cons, List.countP_cons, List.countP_cons, count_or h l]
  cases q : a x with
  | true => rw [h x q]; simp; omega
  | false => cases b x <;> simp <;> omega
theorem high_is (rows : List (List Str)) (ps : List (Nat × Nat)) (ws : List Str) : (ps.countP fun p => dor .le (strsD ((endAt rows p).take ws.length)) (strsD ws)) = lowN rows ps ws + manyN rows ps ws := by
 unfold lowN manyN
 rw [<- count_or (a := fun p => slt (endAt rows p) ws) (b := fun p => decide ((endAt rows p).take ws.length = ws)) fun p h => ?_]
 . congr 1
   funext p
   exact sle_or _ _
 . cases q : decide ((endAt rows p).take ws.length = ws) with
   | false => rfl
   | true => rw [slt_begins ws _ (of_decide_eq_true q)] at h; cases h
theorem ends_rise {rows : List (List Str)} {i j : Nat} (h : i < j) (hj : j < (endsL rows).length) : slt (endAt rows ((endsL rows).getD j (0, 0))) (endAt rows ((endsL rows).getD i (0, 0))) = false := by
 have up := endsL_up rows
 have z := List.pairwise_iff_getElem.mp up i j (by omega) hj h
 have e1 : (endsL rows).getD i (0, 0) = (endsL rows)[i] := by simp [show i < (endsL rows).length by omega]
 have e2 : (endsL rows).getD j (0, 0) = (endsL rows)[j] := by simp [hj]
 rw [e1, e2]
 rcases ltE_or z with q | ⟨q, _⟩
 . exact slt_as q
 . rw [q]; exact slt_ir _
def Falls (rows : List (List Str)) (ps : List (Nat × Nat)) (g : List Str -> Bool) : Prop := ∀ i j, i < j -> j < ps.length -> g (endAt rows (ps.getD j (0, 0))) = true -> g (endAt rows (ps.getD i (0, 0))) = true
theorem falls_lt (rows : List (List Str)) (ws : List Str) : Falls rows (endsL rows) fun e => slt e ws := fun i j h hj q => by
 have z := ends_rise h hj
 cases y : slt (endAt rows ((endsL rows).getD i (0, 0))) (endAt rows ((endsL rows).getD j (0, 0))) with
 | true => exact slt_tr y q
 | false => rw [slt_tt y z]; exact q
theorem falls_le (rows : List (List Str)) (ws : List Str) : Falls rows (endsL rows) fun e => dor .le (strsD (e.take ws.length)) (strsD ws) := fun i j h hj q => by
 have z := slt_take ws.length _ _ (ends_rise h hj)
 dsimp only at q ⊢
 rw [sle_not] at q ⊢
 generalize (endAt rows ((endsL rows).getD i (0, 0))).take ws.length = a at z ⊢
 generalize (endAt rows ((endsL rows).getD j (0, 0))).take ws.length = b at z q
 cases y : slt ws a with
 | false => rfl
 | true =>
  exfalso
  have hb : slt ws b = true := by
   cases x : slt a b with
   | true => exact slt_tr y x
   | false => rw [<- slt_tt x z]; exact y
  rw [hb] at q
  cases q
theorem count_at {α : Type} {g : α -> Bool} {x : α} : ∀ (l : List α) (n : Nat), n <= l.length -> (∀ i, i < n -> g (l.getD i x) = true) -> (∀ i, n <= i -> i < l.length -> g (l.getD i x) = false) -> l.countP g = n
 | [], n, h, _, _ => by simp at h; simp [h]
 | y :: l, 0, _, _, h => by
  have h0 := h 0 (Nat.le_refl _) (by simp)
  rw [List.getD_cons_zero] at h0
  rw [List.countP_cons, h0, count_at (x := x) l 0 (Nat.zero_le _) (fun i hi => absurd hi (by omega)) fun i _ hi => by simpa using h (i + 1) (Nat.zero_le _) (by simpa using hi)]
  rfl
 | y :: l, n + 1, hn, h1, h2 => by
  have h0 := h1 0 (by omega)
  rw [List.getD_cons_zero] at h0
  rw [List.countP_cons, h0, count_at (x := x) l n (by simpa using hn) (fun i hi => by simpa using h1 (i + 1) (by omega)) fun i hi hl => by simpa using h2 (i + 1) (by omega) (by simpa using hl)]
  rfl
def strsOf : D -> List Str
 | .lst ds => ds.map fun d => match d with | .str x => x | _ => ""
 | _ => []
theorem strsOf_strs (e : List Str) : strsOf (strsD e) = e := by
 show (e.map D.str).map _ = e
 rw [map_map]
 exact (map_congr_left (fun x _ => rfl)).trans (List.map_id e)
def gStretchE (ds : List D) (d : D) : Prop := ∃ (rows : List (List Str)) (ws : List Str), ds = [rowsD rows, plsD (endsL rows), strsD ws] /\ d = .tup [.int ((lowN rows (endsL rows) ws : Nat) : Int), .int ((lowN rows (endsL rows) ws + manyN rows (endsL rows) ws : Nat) : Int)]
theorem falls_take {α : Type} (g : α -> Bool) : ∀ (ps : List α), (∀ i j : Nat, i < j -> ∀ a b, ps[i]? = some a -> ps[j]? = some b -> g b = true -> g a = true) -> ps.filter g = ps.take (ps.countP g) /\ ps.filter (fun a => !g a) = ps.drop (ps.countP g)
 | [], _ => by simp
 | p :: ps, h => by
  have ih := falls_take g ps fun i j hij a b ha hb => h (i + 1) (j + 1) (by omega) a b (by simpa using ha) (by simpa using hb)
  cases q : g p with
  | true =>
   rw [List.filter_cons_of_pos q, List.countP_cons_of_pos q, List.take_succ_cons, List.drop_succ_cons, List.filter_cons_of_neg (by simp [q]), ih.1, ih.2]
   exact ⟨rfl, rfl⟩
  | false =>
   have no : ∀ a ∈ ps, g a = false := fun a ha => by
    obtain ⟨j, hj, rfl⟩ := List.mem_iff_getElem.mp ha
    cases w : g ps[j] with
    | false => rfl
    | true =>
     have := h 0 (j + 1) (by omega) p ps[j] rfl (by simp [hj]) w
     rw [q] at this; cases this
   have c0 : ps.countP g = 0 := List.countP_eq_zero.mpr fun a ha => by simp [no a ha]
   rw [List.filter_cons_of_neg (by simp [q]), List.countP_cons_of_neg (by simp [q]), c0, List.filter_cons_of_pos (by simp [q])]
   refine ⟨by rw [List.take_zero]; exact List.filter_eq_nil_iff.mpr fun a ha => by simp [no a ha], ?_⟩
   rw [List.drop_zero, List.filter_eq_self.mpr fun a ha => by simp [no a ha]]
def begB (rows : List (List Str)) (ws : List Str) (p : Nat × Nat) : Bool := decide ((endAt rows p).take ws.length = ws)
theorem Falls.of {rows : List (List Str)} {ps : List (Nat × Nat)} {g : List Str -> Bool} (h : Falls rows ps g) : ∀ i j : Nat, i < j -> ∀ a b, ps[i]? = some a -> ps[j]? = some b -> g (endAt rows b) = true -> g (endAt rows a) = true := fun i j hij a b ha hb q => by
 have hj := (List.getElem?_eq_some_iff.mp hb).1
 have := h i j hij hj
 rw [List.getD_eq_getElem?_getD, List.getD_eq_getElem?_getD, ha, hb] at this
 exact this q
theorem beg_is (rows : List (List Str)) (ws : List Str) (p : Nat × Nat) : begB rows ws p = (dor .le (strsD ((endAt rows p).take ws.length)) (strsD ws) && !slt (endAt rows p) ws) := by
 rw [sle_or]
 unfold begB
 cases q : decide ((endAt rows p).take ws.length = ws) with
 | true => rw [slt_begins ws _ (of_decide_eq_true q)]; rfl
 | false => cases slt (endAt rows p) ws <;> rfl
theorem mid_is (rows : List (List Str)) (ws : List Str) : ((endsL rows).drop (lowN rows (endsL rows) ws)).take (manyN rows (endsL rows) ws) = (endsL rows).filter (begB rows ws) := by
 have f1 := falls_take (fun p => slt (endAt rows p) ws) (endsL rows) (falls_lt rows ws).of
 have f2 := falls_take (fun p => dor .le (strsD ((endAt rows p).take ws.length)) (strsD ws)) (endsL rows) (falls_le rows ws).of
 rw [high_is] at f2
 have e : (endsL rows).filter (begB rows ws) = ((endsL rows).filter fun p => dor .le (strsD ((endAt rows p).take ws.length)) (strsD ws)).filter fun p => !slt (endAt rows p) ws := by
  rw [List.filter_filter]
  congr 1
  funext p
  rw [beg_is, Bool.and_comm]
 rw [e, f2.1, List.take_add, filter_append]
 have a1 : ((endsL rows).take (lowN rows (endsL rows) ws)).filter (fun p => !slt (endAt rows p) ws) = [] := by
  have : (endsL rows).take (lowN rows (endsL rows) ws) = (endsL rows).filter fun p => slt (endAt rows p) ws := f1.1.symm
  rw [this, List.filter_filter]
  exact List.filter_eq_nil_iff.mpr fun p _ => by simp
 have a2 : (((endsL rows).drop (lowN rows (endsL rows) ws)).take (manyN rows (endsL rows) ws)).filter (fun p => !slt (endAt rows p) ws) = ((endsL rows).drop (lowN rows (endsL rows) ws)).take (manyN rows (endsL rows) ws) := by
  refine List.filter_eq_self.mpr fun p hp => ?_
  have : (endsL rows).drop (lowN rows (endsL rows) ws) = (endsL rows).filter fun p => !slt (endAt rows p) ws := f1.2.symm
  rw [this] at hp
  exact (mem_filter.mp (List.mem_of_mem_take hp)).2
 rw [a1, a2, List.nil_append]
def plsOf (rows : List (List Str)) (ws : List Str) : List (Nat × Nat) := (allP rows).filter (begB rows ws)
def ltPl (p q : Nat × Nat) : Prop := p.1 < q.1 \/ p.1 = q.1 /\ p.2 < q.2
theorem allP_up (rows : List (List Str)) : (allP rows).Pairwise ltPl := by
 unfold allP allPn
 rw [List.pairwise_flatMap]
 refine ⟨fun r _ => ?_, List.pairwise_lt_range.imp fun {a b} h p hp q hq => ?_⟩
 . rw [List.pairwise_map]
   exact List.pairwise_lt_range.imp fun {a b} h => .inr ⟨rfl, h⟩
 . obtain ⟨_, _, rfl⟩ := mem_map.mp hp
   obtain ⟨_, _, rfl⟩ := mem_map.mp hq
   exact .inl h
theorem ltPl_dor {p q : Nat × Nat} (h : ltPl p q) : dor .lt (plD p) (plD q) = true := by
 unfold plD
 rw [dor, dors]
 rcases h with h | ⟨h, h2⟩
 . have ne : ¬ ((p.1 : Int) = (q.1 : Int)) := by omega
   simp [deq, ne, dor, Od.int]
   omega
 . have ne : ¬ ((p.2 : Int) = (q.2 : Int)) := by omega
   simp [deq, h, dors, dor, Od.int, ne]
   omega
theorem sort_pls {rows : List (List Str)} {ws : List Str} {ps : List (Nat × Nat)} (h : ps.Perm (plsOf rows ws)) : srt id (ps.map plD) = (plsOf rows ws).map plD := by
 refine (srt_one lin_pl (f := id) (fun d hd => ?_) (fun _ _ _ _ e => e) (h.symm.map plD) ?_).symm
 . obtain ⟨p, _, rfl⟩ := mem_map.mp hd
   exact ⟨p, rfl⟩
 . rw [List.pairwise_map]
   refine ((allP_up rows).sublist List.filter_sublist).imp fun {a b} h => ?_
   have := ltPl_dor h
   cases q : dor .lt (plD b) (plD a) with
   | false => exact q
   | true =>
    have z := lin_pl.tr _ _ _ ⟨a, rfl⟩ ⟨b, rfl⟩ ⟨a, rfl⟩ this q
    rw [lin_pl.ir _ ⟨a, rfl⟩] at z; cases z
theorem mid_perm (rows : List (List Str)) (ws : List Str) : (((endsL rows).drop (lowN rows (endsL rows) ws)).take (manyN rows (endsL rows) ws)).Perm (plsOf rows ws) := by
 rw [mid_is]
 exact (endsL_perm rows).filter _
theorem cut_mid (rows : List (List Str)) (ws : List Str) : cut ((endsL rows).map plD) (some ((lowN rows (endsL rows) ws : Nat) : Int)) (some ((lowN rows (endsL rows) ws + manyN rows (endsL rows) ws : Nat) : Int)) = (((endsL rows).drop (lowN rows (endsL rows) ws)).take (manyN rows (endsL rows) ws)).map plD := by
 rw [cut_both, List.map_take, List.map_drop]
 congr 1
 omega
def foundL (rows : List (List Str)) : List (List Str) := (((endsL rows).zip (shL rows (endsL rows))).filter fun q => decide (0 < q.2)).map fun q => (endAt rows q.1).take q.2
def partS (rows : List (List Str)) : List (List Str) := (onceG (foundL rows)).mergeSort fun x y => !dor .lt (tupS y) (tupS x)
theorem partS_eq (rows : List (List Str)) : upU (foundL rows) = (partS rows).map tupS := by
 unfold upU partS srt
 exact (List.map_mergeSort (f := tupS) (r := fun x y => !dor .lt (tupS y) (tupS x)) (s := fun x y => !dor .lt (id y) (id x)) fun a _ b _ => rfl).symm
theorem partS_mem {rows : List (List Str)} {t : List Str} : t ∈ partS rows ↔ t ∈ foundL rows := (List.mergeSort_perm _ _).mem_iff.trans onceG_mem
theorem partS_nodup (rows : List (List Str)) : (partS rows).Nodup := (List.mergeSort_perm _ _).nodup_iff.mpr (onceG_nodup _)
theorem found_len (rows : List (List Str)) : (foundL rows).length <= tot rows := by
 unfold foundL
 rw [length_map]
 have := length_filter_le (fun q : (Nat × Nat) × Nat => decide (0 < q.2)) ((endsL rows).zip (shL rows (endsL rows)))
 rw [List.length_zip, endsL_len] at this
 omega
theorem partS_len (rows : List (List Str)) : (partS rows).length <= tot rows := by
 have := onceG_len (foundL rows)
 have := found_len rows
 unfold partS
 rw [List.length_mergeSort]
 omega
theorem found_ne {rows : List (List Str)} : ∀ t ∈ foundL rows, t ≠ [] := fun t ht => by
 obtain ⟨q, hq, rfl⟩ := mem_map.mp ht
 obtain ⟨hz, h0⟩ := mem_filter.mp hq
 have h0 : 0 < q.2 := by simpa using h0
 obtain ⟨p, hp, hpl⟩ : ∃ p, p ∈ allP rows /\ p = q.1 := ⟨q.1, endsL_mem.mp (List.of_mem_zip hz).1, rfl⟩
 have := (allP_mem hp).2
 intro z
 have l := congrArg List.length z
 rw [length_take] at l
 unfold endAt at l
 rw [length_drop, List.length_nil] at l
 subst hpl
 omega
inductive Node (H : Hp) : V -> List (Bool × Int) -> V -> Prop
 | here (v : V) : Node H v [] v
 | lst {a : Addr} {xs : List V} {j : Int} {w u : V} {p : List (Bool × Int)} (h : H a = some (.lst xs)) (e : atI xs j = some w) (n : Node H w p u) : Node H (.ref a) ((true, j) :: p) u
 | tup {a : Addr} {xs : List V} {j : Int} {w u : V} {p : List (Bool × Int)} (h : H a = some (.tup xs)) (e : atI xs j = some w) (n : Node H w p u) : Node H (.ref a) ((false, j) :: p) u
inductive TUp (e : D) (n : Nat) : List (Bool × Int) -> D -> D -> Prop
 | here {ds : List D} (h : ds.length = n) : TUp e n [] (.lst ds) (.lst (ds ++ [e]))
 | lst {ds : List D} {j : Int} {k : Nat} {d d' : D} {p : List (Bool × Int)} (hk : ixN ds.length j = some k) (hd : ds[k]? = some d) (u : TUp e n p d d') : TUp e n ((true, j) :: p) (.lst ds) (.lst (ds.set k d'))
 | tup {ds : List D} {j : Int} {k : Nat} {d d' : D} {p : List (Bool × Int)} (hk : ixN ds.length j = some k) (hd : ds[k]? = some d) (u : TUp e n p d d') : TUp e n ((false, j) :: p) (.tup ds) (.tup (ds.set k d'))
section
variable {K : Frag} {H H' : Hp}
theorem Trs.length : ∀ {ds : List D} {vs : List V} {as : List Addr}, Trs K H ds vs as -> ds.length = vs.length
 | [], _, _, h => by rw [(trs_nil.mp h).1]; rfl
 | d :: ds, _, _, h => by
  obtain ⟨v, r, bs, cs, rfl, _, _, j⟩ := trs_cons.mp h
  rw [length_cons, length_cons, Trs.length j]
theorem Trs.one {d : D} {v : V} {as : List Addr} (h : Tr K H d v as) : Trs K H [d] [v] as := trs_cons.mpr ⟨v, [], as, [], rfl, by simp, h, trs_nil.mpr ⟨rfl, rfl⟩⟩
theorem Trs.append : ∀ {ds es : List D} {vs ws : List V} {as bs : List Addr}, Trs K H ds vs as -> Trs K H es ws bs -> Trs K H (ds ++ es) (vs ++ ws) (as ++ bs)
 | [], _, _, _, _, _, h, k => by obtain ⟨rfl, rfl⟩ := trs_nil.mp h; exact k
 | d :: ds, _, _, _, _, _, h, k => by
  obtain ⟨v, r, bs, cs, rfl, rfl, a, j⟩ := trs_cons.mp h
  exact trs_cons.mpr ⟨v, r ++ _, bs, cs ++ _, rfl, by rw [List.append_assoc], a, Trs.append j k⟩
theorem Trs.at : ∀ {ds : List D} {vs : List V} {as : List Addr} {k : Nat} {d : D}, Trs K H ds vs as -> ds[k]? = some d ->
 ∃ w b1 b2 b3, vs[k]? = some w /\ as = b1 ++ (b2 ++ b3) /\ Tr K H d w b2 /\ ∀ (H2 : Hp) (d' : D) (b2' : List Addr), (∀ a (xs : List V), H a = some (.tup xs) -> H2 a = some (.tup xs)) -> (∀ a (xs : List V), a ∈ b1 ++ b3 -> H a = some (.lst xs) -> H2 a = some (.lst xs)) -> Tr K H2 d' w b2' -> Trs K H2 (ds.set k d') vs (b1 ++ (b2' ++ b3))
 | [], _, _, _, _, _, e => by simp at e
 | d :: ds, _, _, 0, d0, h, e => by
  obtain ⟨v, r, bs, cs, rfl, rfl, a, j⟩ := trs_cons.mp h
  simp at e
  subst e
  exact ⟨v, [], bs, cs, rfl, rfl, a, fun H2 d' b2' t k h' => trs_cons.mpr ⟨v, r, b2', cs, rfl, rfl, h', j.carry t fun b xs hb => k b xs (by simpa using hb)⟩⟩
 | d :: ds, _, _, k + 1, d0, h, e => by
  obtain ⟨v, r, bs, cs, rfl, rfl, a, j⟩ := trs_cons.mp h
  obtain ⟨w, b1, b2, b3, e1, rfl, i, f⟩ := Trs.at (k := k) (d := d0) j (by simpa using e)
  refine ⟨w, bs ++ b1, b2, b3, by simpa using e1, by rw [List.append_assoc], i, fun H2 d' b2' t kk h' => trs_cons.mpr ⟨v, r, bs, b1 ++ (b2' ++ b3), rfl, by rw [List.append_assoc], a.carry t fun b xs hb => kk b xs (by simp [hb]), f H2 d' b2' t (fun b xs hb => kk b xs ?_) h'⟩⟩
  rcases mem_append.mp hb with hb | hb <;> simp [hb]
theorem atI_of {α : Type} {xs : List α} {j : Int} {k : Nat} {x : α} (h : ixN xs.length j = some k) (e : xs[k]? = some x) : atI xs j = some x := by
 unfold atI; rw [h]; exact e
theorem Tr.app {e : D} {n : Nat} {p : List (Bool × Int)} {d d' : D} (u : TUp e n p d d') : ∀ {v : V} {as : List Addr}, Tr K H d v as -> as.Nodup ->
 ∃ a xs, Node H v p (.ref a) /\ a ∈ as /\ H a = some (.lst xs) /\ xs.length = n /\ ∀ (H2 : Hp) (w : V) (bs : List Addr), (∀ a (xs : List V), H a = some (.tup xs) -> H2 a = some (.tup xs)) -> (∀ b (ys : List V), b ∈ as -> b ≠ a -> H b = some (.lst ys) -> H2 b = some (.lst ys)) -> H2 a = some (.lst (xs ++ [w])) -> Tr K H2 e w bs ->
  ∃ as', Tr K H2 d' v as' /\ as'.Perm (as ++ bs) := by
 induction u with
 | here hn =>
  intro v as h nd
  obtain ⟨a, xs, bs, rfl, rfl, ha, i⟩ := tr_lst.mp h
  refine ⟨a, xs, .here _, mem_cons_self, ha, by rw [<- i.length]; exact hn, fun H2 w cs t k h2 hw => ?_⟩
  have na := (nodup_cons.mp nd).1
  exact ⟨a :: (bs ++ cs), tr_lst.mpr ⟨a, xs ++ [w], bs ++ cs, rfl, rfl, h2, (i.carry t fun b ys hb => k b ys (mem_cons_of_mem _ hb) fun z => na (z ▸ hb)).append (Trs.one hw)⟩, List.Perm.refl _⟩
 | lst hk hd u ih =>
  intro v as h nd
  obtain ⟨a0, xs, bs, rfl, rfl, ha, i⟩ := tr_lst.mp h
  obtain ⟨w0, b1, b2, b3, e1, rfl, i2, f⟩ := i.at hd
  obtain ⟨n0, nd1⟩ := nodup_cons.mp nd
  have nd2 : b2.Nodup := nd1.sublist ((List.sublist_append_left b2 b3).trans (List.sublist_append_right b1 _))
  obtain ⟨a, ys, q1, q2, q3, q4, q5⟩ := ih i2 nd2
  have a0n : a ≠ a0 := fun z => n0 (by rw [<- z]; simp [q2])
  have out13 : ∀ b, b ∈ b1 ++ b3 -> b ≠ a := fun b hb z => by
   subst z
   rw [List.nodup_append] at nd1
   obtain ⟨_, nd3, dj⟩ := nd1
   rcases mem_append.mp hb with hb | hb
   . exact dj b hb b (by simp [q2]) rfl
   . rw [List.nodup_append] at nd3
     exact nd3.2.2 b q2 b hb rfl
  refine ⟨a, ys, .lst ha (atI_of (by rw [<- i.length]; exact hk) e1) q1, by simp [q2], q3, q4, fun H2 w cs t k h2 hw => ?_⟩
  obtain ⟨as', z1, z2⟩ := q5 H2 w cs t (fun b zs hb hn => k b zs (by simp [hb]) hn) h2 hw
  refine ⟨a0 :: (b1 ++ (as' ++ b3)), tr_lst.mpr ⟨a0, xs, _, rfl, rfl, k a0 xs mem_cons_self (Ne.symm a0n) ha, f H2 _ as' t (fun b zs hb => k b zs ?_ (out13 b hb)) z1⟩, ?_⟩
  . rcases mem_append.mp hb with hb | hb <;> simp [hb]
  . rw [cons_append]
    refine List.Perm.cons _ ?_
    rw [List.append_assoc]
    refine List.Perm.append_left _ ?_
    rw [List.append_assoc]
    exact (z2.append_right b3).trans (by rw [List.append_assoc]; exact List.Perm.append_left _ List.perm_append_comm)
 | tup hk hd u ih =>
  intro v as h nd
  obtain ⟨a0, xs, rfl, ha, i⟩ := tr_tup.mp h
  obtain ⟨w0, b1, b2, b3, e1, rfl, i2, f⟩ := i.at hd
  have nd2 : b2.Nodup := nd.sublist ((List.sublist_append_left b2 b3).trans (List.sublist_append_right b1 _))
  obtain ⟨a, ys, q1, q2, q3, q4, q5⟩ := ih i2 nd2
  have out13 : ∀ b, b ∈ b1 ++ b3 -> b ≠ a := fun b hb z => by
   subst z
   rw [List.nodup_append] at nd
   obtain ⟨_, nd3, dj⟩ := nd
   rcases mem_append.mp hb with hb | hb
   . exact dj b hb b (by simp [q2]) rfl
   . rw [List.nodup_append] at nd3
     exact nd3.2.2 b q2 b hb rfl
  refine ⟨a, ys, .tup ha (atI_of (by rw [<- i.length]; exact hk) e1) q1, by simp [q2], q3, q4, fun H2 w cs t k h2 hw => ?_⟩
  obtain ⟨as', z1, z2⟩ := q5 H2 w cs t (fun b zs hb hn => k b zs (by simp [hb]) hn) h2 hw
  refine ⟨b1 ++ (as' ++ b3), tr_tup.mpr ⟨a0, xs, rfl, t a0 xs ha, f H2 _ as' t (fun b zs hb => k b zs ?_ (out13 b hb)) z1⟩, ?_⟩
  . rcases mem_append.mp hb with hb | hb <;> simp [hb]
  . rw [List.append_assoc]
    refine List.Perm.append_left _ ?_
    rw [List.append_assoc]
    exact (z2.append_right b3).trans (by rw [List.append_assoc]; exact List.Perm.append_left _ List.perm_append_comm)
end
def tET (K : Frag) (ρ : List (Option D)) (d : D) : TE := fun σ H Q => ∃ Z : Zone, Z.Open H /\ EnvIn K H Z σ ρ /\ ∀ v H' as, Same H H' -> Tr K H' d v as -> as.Nodup -> (∀ a ∈ as, H a = none) -> Q v H'
def ET (X : Cx) (ρ : List (Option D)) (e : Expr) (d : D) : Prop := PE X e (tET X.K ρ d)
def tETA (K : Frag) (ρ : List (Option D)) (ds : List D) : TA := fun σ H Q => ∃ Z : Zone, Z.Open H /\ EnvIn K H Z σ ρ /\ ∀ vs H' as, Same H H' -> Trs K H' ds vs as -> as.Nodup -> (∀ a ∈ as, H a = none) -> Q vs H'
def ETA (X : Cx) (ρ : List (Option D)) (es : List Expr) (ds : List D) : Prop := PA X es (tETA X.K ρ ds)
section
variable {X : Cx} {ρ : List (Option D)} {m : Bool} {e : Expr} {es : List Expr} {d : D} {ds : List D} {pos : Pos}
theorem et_new (he : E X true ρ e (.lst ds)) (fl : flats ds = true) : ET X ρ e (.lst ds) := PE.mono he fun σ H Q z0 => el13 z0 fun Z oz en k => ⟨Z, oz, en, fun v H' s i => by
 obtain ⟨a, xs, rfl, at', j⟩ := in_lst.mp i
 obtain ⟨e1, e2⟩ : H' a = some (.lst xs) /\ H a = none := by
  rcases at' with z | z
  . exact z
  . exact absurd z.1 (by simp [out, nw])
 exact k _ H' [a] s (tr_lst.mpr ⟨a, xs, [], rfl, rfl, e1, Trs.of_flat fl j⟩) nodup1 fun b hb => by
  have : b = a := by simpa using hb
  rw [this]; exact e2⟩
theorem eta_nil : ETA X ρ [] [] := PA.mono pa_nil fun σ H Q z0 => el13 z0 fun Z oz en k => k [] H [] (Same.refl H) (trs_nil.mpr ⟨rfl, rfl⟩) List.nodup_nil fun a ha => (by cases ha)
theorem et_lst (h : ETA X ρ es ds) (hz : ds.length <= 1000 := by exact of_decide_eq_true rfl) : ET X ρ (.List es pos) (.lst ds) :=
 PE.mono (pe_lst h) fun σ H Q z0 => el13 z0 fun Z oz en k => ⟨Z, oz, en, fun vs H1 as s1 t1 n1 w1 => ⟨by rw [<- t1.length]; exact smallL hz, fun p hp => by
  have s2 : Same H1 (upd H1 p (.lst vs)) := same_new hp
  refine k _ _ (p :: as) (s1.trans s2) (tr_lst.mpr ⟨p, vs, as, rfl, rfl, upd_same, t1.carry (fun a xs h => s2.at h) fun a xs _ h => s2.at h⟩) (nodup_cons.mpr ⟨fun z => ?_, n1⟩) fun a ha => ?_
  . obtain ⟨xs, q⟩ := t1.lsts p z
    rw [hp] at q; cases q
  . rcases mem_cons.mp ha with rfl | ha
    . exact s1.free hp
    . exact w1 a ha⟩⟩
end
def tN (K : Frag) (i : Nat) (ρ : List (Option D)) (p : List (Bool × Int)) : TE := fun σ H Q => ∃ (v u : V) (Z : Zone), σ[i]? = some (some v) /\ Node H v p u /\ Z.Open H /\ EnvIn K H Z σ ρ /\ ∀ H', Same H H' -> Q u H'
def EN (X : Cx) (i : Nat) (ρ : List (Option D)) (p : List (Bool × Int)) (o : Expr) : Prop := PE X o (tN X.K i ρ p)
section
variable {X : Cx} {ρ : List (Option D)} {m : Bool} {o ix : Expr} {pos : Pos} {i : Nat} {p : List (Bool × Int)} {j : Int} {x : Str}
theorem en_name (hN : X.N[i]? = some x := by rfl) (hv : Vis X.env.scope x := by first | exact Or.inl rfl | exact Or.inr (Or.inl rfl) | exact Or.inr (Or.inr rfl)) (hd : (x == ("__debug__" : Str)) = false := by decide) (hcd : (x == ("__classdict__" : Str)) = false := by decide) : EN X i ρ [] (.Name x pos) :=
 PE.mono (pe_var hN hv hd hcd) fun σ H Q ⟨v, u, Z, e, n, oz, en, k⟩ => by cases n; exact ⟨v, e, k H (Same.refl H)⟩
end
section
variable {X : Cx} {F : Fn} {ρ : Rho} {Q : EndD} {rest : List Stmt} {e o : Expr} {d d' e' : D} {pos p : Pos}
def TreeSlot (mk : D -> Slot) (c : V -> Prop) : Prop := ∀ (K : Frag) (F : Fn) (H : Hp) (O : Addr -> Prop) (mine : List Addr) (v : V) (d : D), SlotIn K F H O mine v (mk d) ↔ c v /\ Tr K H d v mine
theorem tree_tr : TreeSlot Slot.tr (fun _ => True) := fun K F H O mine v d => ⟨fun h => ⟨trivial, h⟩, fun h => h.2⟩
theorem StIn.trG {K : Frag} {H : Hp} {σ hv : St} {hρ : Rho} {A : Nat -> List Addr} {i : Nat} {mk : D -> Slot} {c : V -> Prop} (S : StIn K F H (σ ++ hv) (ρ ++ hρ) A) (hm : TreeSlot mk c) (hl : σ.length = ρ.length) (h : ρ[i]? = some (some (mk d))) : ∃ v, σ[i]? = some (some v) /\ c v /\ Tr K H d v (A i) := by
 have il : i < ρ.length := (List.getElem?_eq_some_iff.mp h).1
 obtain ⟨v, e1, e2⟩ := S.at' i (mk d) (by rw [getElem?_append_left il]; exact h)
 rw [getElem?_append_left (by omega)] at e1
 exact ⟨v, e1, (hm _ _ _ _ _ _ _).mp e2⟩
theorem StIn.tr {K : Frag} {H : Hp} {σ hv : St} {hρ : Rho} {A : Nat -> List Addr} {i : Nat} (S : StIn K F H (σ ++ hv) (ρ ++ hρ) A) (hl : σ.length = ρ.length) (h : ρ[i]? = some (some (.tr d))) : ∃ v, σ[i]? = some (some v) /\ Tr K H d v (A i) :=
 let ⟨v, a, _, b⟩ := S.trG tree_tr hl h
 ⟨v, a, b⟩
theorem sd_setT (i : Nat) {x : Str} {d : D} (he : ET X (view true false ρ) e d) (hr : SD X F rest (ρ.set i (some (.tr d))) Q) (hN : X.N.Nodup) (hi : X.N[i]? = some x := by rfl)
 (hx : Loc X.env.scope x := by first | exact Or.inl rfl | exact Or.inr rfl) (hρ : i < ρ.length := by exact of_decide_eq_true rfl) (hs : swapsWith e (some (.Name x p)) pos.line X.env = pure false := by rfl) (hf : X.fn x = true \/ X.env.scope.names.lookup x = some .local := by first | exact .inl rfl | exact .inr rfl) :
 SD X F (.Assign [.Name x p] e pos :: rest) ρ Q :=
 sd_then (PS.mono (ps_set hN hi hx he hs hf) fun Q' σ H z0 => el33 z0 fun hv hρ' A hl S f => ⟨_, vz_open S true false, S.env hl true false, fun v H1 as s1 t1 n1 w1 => by
  refine f.nx _ H1 ⟨_, putA A i as, by simp [hl], ?_, rfl⟩
  rw [<- set_app (by omega), <- set_app hρ]
  exact S.put (by rw [List.length_append]; omega) (by rw [List.length_append]; omega) s1 n1 (fun a ha => ⟨w1 a ha, let ⟨xs, q⟩ := t1.lsts a ha; ⟨.l xs, q⟩⟩) t1⟩) hr
theorem sd_retT (i : Nat) {x : Str} (h : ρ[i]? = some (some (.tr d))) (hq : Q.rtT d) (hN : X.N[i]? = some x := by rfl) (hv : Vis X.env.scope x := by first | exact Or.inl rfl | exact Or.inr (Or.inl rfl) | exact Or.inr (Or.inr rfl))
 (hd : (x == ("__debug__" : Str)) = false := by decide) (hcd : (x == ("__classdict__" : Str)) = false := by decide) : SD X F (.Return (some (.Name x p)) pos :: rest) ρ Q :=
 sd_seq (N := fun _ => False) (PS.mono (ps_ret (pe_var hN hv hd hcd)) fun Q' σ H z0 => el33 z0 fun hv hρ A hl S f => by
  obtain ⟨v, e1, tv⟩ := S.tr hl h
  exact ⟨v, e1, f.rtT v d H (A i) S.same tv (S.nd i) (S.new i) hq⟩) fun _ n => n.elim
end
def spT (K : Frag) (G : List D -> D -> Prop) : Sp := fun vs H Q _ => ∃ (Z : Zone) (ds : List D) (d : D), Z.Open H /\ Ins K H Z ds vs /\ G ds d /\ ∀ v H' as, Same H H' -> Tr K H' d v as -> as.Nodup -> (∀ a ∈ as, H a = none) -> Q v H'
structure DefT (P : Program) (w : World) (K : Frag) (mg : Str -> Option Value) (base : Heap) (k : Nat) (x : Str) (G : List D -> D -> Prop) : Prop where
 ex : ∃ f fd ps, FnOk P w K mg base CX0 k f fd ps (spT K G) /\ mg x = some (.ref f) /\ keepIn K (.ref f) = true /\ Binds K fd ps []
section
variable {P : Program} {w : World} {K : Frag} {mg : Str -> Option Value} {base : Heap}
theorem def_ofT {x qual : Str} {st : Stmt} {f : Addr} {fd : FuncData} {N ps : List Str} {k : Nat} {G : List D -> D -> Prop} (Fx : Fun K x qual st f fd) (S : FnScope N ps (defScope st)) (hmg : mg x = some (.ref f)) (hb : Binds K fd ps [])
 (hlen : ∀ ds d, G ds d -> ds.length = ps.length)
 (body : ∀ (cdv : Value) (A : Around) (outer : List Env) (s : Shared) (H : Hp) (E : XK) (Z : Zone) (ds : List D) (d : D), Room k (A.deeper (envOfC qual (defScope st) s.heap.objs.size f cdv)) -> G ds d ->
  SD (cxOf CX0 P w K mg base N qual (defScope st) f cdv A outer s H E).nox ⟨true, Z, H⟩ (defBody st) (startD N ds) { nx := fun _ => False, rt := fun _ => False, rtT := fun d' => d' = d }) : DefT P w K mg base (k + 1) x G := by
 refine ⟨f, fd, ps, Fx.ok S (fun vs H Q E ⟨Z, ds, d, oz, i, g, kk⟩ => ?_) (fun cdv A outer s H vs Q E hr ⟨Z, ds, d, oz, i, g, kk⟩ => ?_), hmg, Fx.kp, hb⟩
 . rw [<- i.length]; exact hlen ds d g
 . refine ⟨_, body cdv A outer s H E Z ds d hr g, [], [], fun _ => [], ?_, start_in oz i, ⟨rfl, fun σ H' ⟨_, _, _, _, e⟩ => e.elim, fun σ H' ⟨_, _, _, _, e⟩ => e.elim, fun σ H' ⟨_, _, _, _, e⟩ => e.elim, fun _ _ _ _ _ e => e.elim, fun v d' H' as s' t n w e => ?_, fun _ _ _ _ _ _ _ _ _ _ _ _ _ e => e.elim⟩⟩
   . have := i.length
     simp [L2.start, startD]; omega
   . subst e
     exact kk v H' as s' t n w
theorem DefT.def' {k : Nat} {x : Str} {G : List D -> D -> Prop} (h : DefT P w K mg base k x G) : Def P w K mg base k x true G := by
 obtain ⟨f, fd, ps, a, b, c, d⟩ := h.ex
 exact ⟨f, fd, ps, a.imp fun vs H Q E ⟨Z, ds, d, oz, i, g, kk⟩ => ⟨Z, ds, d, oz, i, g, fun v H' as s t n w => kk v H' s (t.inn w)⟩, b, c, d⟩
end
section
variable {K : Frag} {F : Fn} {H : Hp} {vs : St} {ρ : Rho} {A : Nat -> List Addr}
theorem StIn.regroup {i j : Nat} {v w : V} {si sj : Option Slot} {l1 l2 : List Addr} (hij : i ≠ j) (S : StIn K F H vs ρ A) (hi : i < ρ.length) (hiv : i < vs.length) (hj : j < ρ.length) (hjv : j < vs.length) (nd1 : l1.Nodup) (nd2 : l2.Nodup) (dj : ∀ a ∈ l1, a ∉ l2)
 (eq : ∀ a, (a ∈ l1 \/ a ∈ l2) ↔ (a ∈ A i \/ a ∈ A j)) (h1 : ∀ sl, si = some sl -> SlotIn K F H (Owned A) l1 v sl) (h2 : ∀ sl, sj = some sl -> SlotIn K F H (Owned A) l2 w sl) :
 StIn K F H ((vs.set i (some v)).set j (some w)) ((ρ.set i si).set j sj) (putA (putA A i l1) j l2) := by
 have ai : putA (putA A i l1) j l2 i = l1 := by rw [putA_ne hij, putA_same]
 have aj : putA (putA A i l1) j l2 j = l2 := putA_same
 have ak : ∀ {k : Nat}, k ≠ i -> k ≠ j -> putA (putA A i l1) j l2 k = A k := fun {k} q1 q2 => by rw [putA_ne q2, putA_ne q1]
 have two : ∀ {k : Nat} {a : Addr}, (k = i \/ k = j) -> a ∈ putA (putA A i l1) j l2 k -> a ∈ A i \/ a ∈ A j := fun {k a} hk ha => by
  rcases hk with rfl | rfl
  . rw [ai] at ha; exact (eq a).mp (.inl ha)
  . rw [aj] at ha; exact (eq a).mp (.inr ha)
 have own : Owned (putA (putA A i l1) j l2) = Owned A := by
  funext a
  refine propext ⟨fun ⟨k, hk⟩ => ?_, fun ⟨k, hk⟩ => ?_⟩
  . by_cases q : k = i \/ k = j
    . rcases two q hk with z | z
      . exact ⟨i, z⟩
      . exact ⟨j, z⟩
    . rw [ak (fun z => q (.inl z)) fun z => q (.inr z)] at hk
      exact ⟨k, hk⟩
  . by_cases q : k = i \/ k = j
    . have z : a ∈ A i \/ a ∈ A j := by
       rcases q with rfl | rfl
       . exact .inl hk
       . exact .inr hk
      rcases (eq a).mpr z with z | z
      . exact ⟨i, by rw [ai]; exact z⟩
      . exact ⟨j, by rw [aj]; exact z⟩
    . exact ⟨k, by rw [ak (fun z => q (.inl z)) fun z => q (.inr z)]; exact hk⟩
 have apart : ∀ {k : Nat} {a : Addr}, k ≠ i -> k ≠ j -> a ∈ A k -> ¬ (a ∈ A i \/ a ∈ A j) := fun {k a} q1 q2 ha z => by
  rcases z with z | z
  . exact q1 (S.one k i a ha z)
  . exact q2 (S.one k j a ha z)
 refine ⟨S.same, S.opn, fun k => ?_, fun k k' a hk hk' => ?_, fun k a ha => ?_, fun k a ha => ?_, fun k sl e => ?_⟩
 . by_cases q1 : k = i
   . rw [q1, ai]; exact nd1
   . by_cases q2 : k = j
     . rw [q2, aj]; exact nd2
     . rw [ak q1 q2]; exact S.nd k
 . by_cases q : k = i \/ k = j
   . by_cases q' : k' = i \/ k' = j
     . rcases q with rfl | rfl <;> rcases q' with rfl | rfl
       . rfl
       . rw [ai] at hk; rw [aj] at hk'; exact absurd hk' (dj a hk)
       . rw [aj] at hk; rw [ai] at hk'; exact absurd hk (dj a hk')
       . rfl
     . have z := two q hk
       rw [ak (fun z => q' (.inl z)) fun z => q' (.inr z)] at hk'
       exact absurd z (apart (fun z => q' (.inl z)) (fun z => q' (.inr z)) hk')
   . by_cases q' : k' = i \/ k' = j
     . have z := two q' hk'
       rw [ak (fun z => q (.inl z)) fun z => q (.inr z)] at hk
       exact absurd z (apart (fun z => q (.inl z)) (fun z => q (.inr z)) hk)
     . rw [ak (fun z => q (.inl z)) fun z => q (.inr z)] at hk
       rw [ak (fun z => q' (.inl z)) fun z => q' (.inr z)] at hk'
       exact S.one k k' a hk hk'
 . have : ∃ k', a ∈ A k' := by
    have z : Owned (putA (putA A i l1) j l2) a := ⟨k, ha⟩
    rw [own] at z
    exact z
   obtain ⟨k', z⟩ := this
   exact S.new k' a z
 . have : ∃ k', a ∈ A k' := by
    have z : Owned (putA (putA A i l1) j l2) a := ⟨k, ha⟩
    rw [own] at z
    exact z
   obtain ⟨k', z⟩ := this
   exact S.lst k' a z
 . rw [own]
   by_cases q2 : k = j
   . subst q2
     rw [List.getElem?_set_self (by rw [List.length_set]; exact hj)] at e
     exact ⟨w, by rw [List.getElem?_set_self (by rw [List.length_set]; exact hjv)], by rw [aj]; exact h2 sl (Option.some.inj e)⟩
   . rw [List.getElem?_set_ne (Ne.symm q2)] at e
     by_cases q1 : k = i
     . subst q1
       rw [List.getElem?_set_self hi] at e
       exact ⟨v, by rw [List.getElem?_set_ne (Ne.symm q2), List.getElem?_set_self hiv], by rw [ai]; exact h1 sl (Option.some.inj e)⟩
     . rw [List.getElem?_set_ne (Ne.symm q1)] at e
       obtain ⟨u, a, b⟩ := S.at' k sl e
       exact ⟨u, by rw [List.getElem?_set_ne (Ne.symm q2), List.getElem?_set_ne (Ne.symm q1)]; exact a, by rw [ak q1 q2]; exact b⟩
theorem StIn.re2 {i j : Nat} {v w : V} {si sj : Option Slot} {l1 l2 : List Addr} {H2 : Hp} (hij : i ≠ j) (S : StIn K F H vs ρ A) (hi : i < ρ.length) (hiv : i < vs.length) (hj : j < ρ.length) (hjv : j < vs.length) (sm : Same F.H H2)
 (k : ∀ b o, H b = some o -> isT o = false -> b ∉ A i -> b ∉ A j -> H2 b = some o) (nd1 : l1.Nodup) (nd2 : l2.Nodup) (dj : ∀ a ∈ l1, a ∉ l2) (hl : ∀ a, a ∈ l1 \/ a ∈ l2 -> (a ∈ A i \/ a ∈ A j \/ H a = none) /\ ∃ xs : MO, H2 a = some xs.ho)
 (h1 : ∀ sl O, si = some sl -> SlotIn K F H2 O l1 v sl) (h2 : ∀ sl O, sj = some sl -> SlotIn K F H2 O l2 w sl) : ∃ A', StIn K F H2 ((vs.set i (some v)).set j (some w)) ((ρ.set i si).set j sj) A' := by
 obtain ⟨vi, evi⟩ : ∃ x, vs[i]? = some x := ⟨_, List.getElem?_eq_getElem hiv⟩
 have nij : (A i ++ A j).Nodup := List.nodup_append.mpr ⟨S.nd i, S.nd j, fun a ha b hb z => hij (S.one i j a ha (z ▸ hb))⟩
 have S1 := S.regroup (v := v) (w := w) (si := none) (sj := none) (l1 := A i ++ A j) (l2 := []) hij hi hiv hj hjv nij List.nodup_nil (fun _ _ z => by cases z) (fun a => by simp) (fun _ z => by cases z) fun _ z => by cases z
 have n12 : (l1 ++ l2).Nodup := List.nodup_append.mpr ⟨nd1, nd2, fun a ha b hb z => dj a ha (z ▸ hb)⟩
 have ai : putA (putA A i (A i ++ A j)) j [] i = A i ++ A j := by rw [putA_ne hij, putA_same]
 have S2 := S1.re (i := i) (v := v) (sl := .rf v) (l := l1 ++ l2) (H2 := H2) (by simp [hi]) (by simp [hiv]) sm (fun b o e n hb => k b o e n (fun z => hb (by rw [ai]; simp [z])) fun z => hb (by rw [ai]; simp [z])) n12 (fun a ha => ?_) rfl
 . have S3 := S2.regroup (i := i) (j := j) (v := v) (w := w) (si := si) (sj := sj) (l1 := l1) (l2 := l2) hij (by simp [hi]) (by simp [hiv]) (by simp [hj]) (by simp [hjv]) nd1 nd2 dj (fun a => ?_) (fun sl e => h1 sl _ e) fun sl e => h2 sl _ e
   . have e1 : ((((vs.set i (some v)).set j (some w)).set i (some v)).set i (some v)).set j (some w) = (vs.set i (some v)).set j (some w) := by
      rw [List.set_set, List.set_comm _ _ (Ne.symm hij), List.set_set, List.set_set]
     have e2 : ((((ρ.set i none).set j none).set i (some (Slot.rf v))).set i si).set j sj = (ρ.set i si).set j sj := by
      rw [List.set_set, List.set_comm _ _ (Ne.symm hij), List.set_set, List.set_set]
     rw [e1, e2] at S3
     exact ⟨_, S3⟩
   . rw [putA_same, putA_ne (Ne.symm hij), putA_same]
     simp
 . rcases hl a (mem_append.mp ha) with ⟨z, q⟩
   refine ⟨?_, q⟩
   rw [ai]
   rcases z with z | z | z
   . exact .inl (by simp [z])
   . exact .inl (by simp [z])
   . exact .inr z
end
def tEM (K : Frag) (j : Nat) (ρ : List (Option D)) (dj d : D) : TE := fun σ H Q => ∃ (Z : Zone) (v : V) (as : List Addr), Z.Open H /\ EnvIn K H Z σ ρ /\ σ[j]? = some (some v) /\ Tr K H dj v as /\ ∀ u H', Same H H' -> Tr K H' d u as -> Q u H'
def EM (X : Cx) (j : Nat) (ρ : List (Option D)) (dj : D) (e : Expr) (d : D) : Prop := PE X e (tEM X.K j ρ dj d)
theorem Tr.same {K : Frag} {H H' : Hp} {d : D} {v : V} {as : List Addr} (s : Same H H') (h : Tr K H d v as) : Tr K H' d v as := h.carry (fun a xs e => s.at e) fun a xs _ e => s.at e
section
variable {X : Cx} {ρ : List (Option D)} {m : Bool} {e e1 e2 : Expr} {pos : Pos} {j : Nat} {x : Str} {dj d d1 d2 : D}
theorem em_name (hN : X.N[j]? = some x := by rfl) (hv : Vis X.env.scope x := by first | exact Or.inl rfl | exact Or.inr (Or.inl rfl) | exact Or.inr (Or.inr rfl)) (hd : (x == ("__debug__" : Str)) = false := by decide) (hcd : (x == ("__classdict__" : Str)) = false := by decide) : EM X j ρ dj (.Name x pos) dj :=
 PE.mono (pe_var hN hv hd hcd) fun σ H Q ⟨Z, v, as, oz, en, e, t, k⟩ => ⟨v, e, k v H (Same.refl H) t⟩
theorem em_tup {x1} (h1 : E X m ρ e1 d1) (fl : d1.flat = true) (h2 : EM X j ρ dj e2 d2) (hs : starEach [e1, e2] X.env = [(false, eval e1 X.env), (false, eval e2 X.env)] := by rfl) (hs2 : starEach [e2] X.env = [(false, eval e2 X.env)] := by rfl) : EM X j ρ dj (.Tuple [e1, e2] x1 pos) (.tup [d1, d2]) :=
 PE.mono (pe_tup (pa_cons h1 (pa_cons h2 pa_nil (by rw [hs2]; rfl)) (by rw [hs, hs2]))) fun σ H Q ⟨Z, v, as, oz, en, e, t, k⟩ => ⟨Z, oz, en, fun y H1 s1 i1 => ⟨Z, v, as, oz.same s1, en.same s1, e, t.same s1, fun u H2 s2 t2 => ⟨by show 2 <= sizeLine; decide, fun p hp => by
  have s3 : Same H2 (upd H2 p (.tup [y, u])) := same_new hp
  refine k _ _ ((s1.trans s2).trans s3) (tr_tup.mpr ⟨p, [y, u], rfl, upd_same, ?_⟩)
  exact trs_cons.mpr ⟨y, [u], [], as, rfl, rfl, Tr.of_flat fl ((i1.same s2).same s3), Trs.one (t2.same s3)⟩⟩⟩⟩
end
section
variable {X : Cx} {F : Fn} {ρ : Rho} {Q : EndD} {rest : List Stmt} {e o : Expr} {d d' e' dj : D} {pos p : Pos}
theorem sd_trMoveG (mk : D -> Slot) {cc : V -> Prop} (hm : TreeSlot mk cc) (i j : Nat) {n : Nat} {pt : List (Bool × Int)} {ap cp : Pos} (hij : i ≠ j) (h : ρ[i]? = some (some (mk d))) (hj : ρ[j]? = some (some (.tr dj))) (ho : EN X i (view true false ρ) pt o) (up : TUp e' n pt d d') (hz : n < 100000) (he : EM X j (view true false ρ) dj e e') (hr : SD X F rest ((ρ.set i (some (mk d'))).set j none) Q)
 (hbase : attributeBase o "append" X.env (eval o X.env) = eval o X.env := by rfl) (hline : (ap.endLine == cp.line) = true := by rfl) (hs : starEach [e] X.env = [(false, eval e X.env)] := by rfl) (hsw : swapsWith (.Call (.Attribute o "append" ap) [e] [] cp) none pos.line X.env = pure false := by rfl) :
 SD X F (.Expr (.Call (.Attribute o "append" ap) [e] [] cp) pos :: rest) ρ Q := by
 refine sd_then (PS.mono (ps_expr (pe_bm PySem.F.plainAttrs_list PySem.F.slot_list_append PySem.F.type_list_append mt_append ho (pa_cons he pa_nil (by rw [hs]; rfl)) hbase (by rw [hs]; rfl) hline (by rw [hs]; rfl) rfl) hsw) ?_) hr
 rintro Q' σ H ⟨hv, hρ, A, hl, S, f⟩
 obtain ⟨v, e1, cv, tv⟩ := S.trG hm hl h
 obtain ⟨w, e2, tw⟩ := S.tr hl hj
 have hi : i < σ.length := (List.getElem?_eq_some_iff.mp e1).1
 have hj' : j < σ.length := (List.getElem?_eq_some_iff.mp e2).1
 obtain ⟨a, xs, q1, q2, q3, q4, q5⟩ := tv.app up (S.nd i)
 have na : a ∉ A j := fun z => hij (S.one i j a q2 z)
 refine ⟨v, .ref a, _, e1, q1, vz_open S true false, S.env hl true false, fun H1 s1 => ⟨.inl ⟨rfl, xs, SqL.of (s1.at q3)⟩, _, w, A j, (vz_open S true false).same s1, (S.env hl true false).same s1, e2, tw.same s1, fun u H2 s2 t2 => ?_⟩⟩
 have s12 := s1.trans s2
 refine ⟨a, xs, u, rfl, rfl, s12.at q3, by rw [q4]; exact Nat.lt_of_lt_of_le hz (by decide), f.nx _ _ ?_⟩
 have kk : ∀ b o, H b = some o -> isT o = false -> b ≠ a -> (upd H2 a (.lst (xs ++ [u]))) b = some o := fun b o e n hb => by rw [upd_ne hb]; exact s12.get b o e n
 obtain ⟨as', t3, pm⟩ := q5 (upd H2 a (.lst (xs ++ [u]))) u (A j) (fun b ys q => kk b _ q rfl fun z => by rw [z, q3] at q; cases q) (fun b ys _ hn q => kk b _ q rfl hn) upd_same
  (t2.carry (fun b ys q => by rw [upd_ne (show b ≠ a from fun z => by rw [z, s12.at q3] at q; cases q)]; exact q) fun b ys hb q => by rw [upd_ne (show b ≠ a from fun z => na (z ▸ hb))]; exact q)
 have nd' : as'.Nodup := pm.nodup_iff.mpr (List.nodup_append.mpr ⟨S.nd i, S.nd j, fun b hb c hc z => hij (S.one i j b hb (z ▸ hc))⟩)
 have hx := S.re2 (i := i) (j := j) (v := v) (w := w) (si := some (mk d')) (sj := none) (l1 := as') (l2 := []) (H2 := upd H2 a (.lst (xs ++ [u]))) hij (by rw [List.length_append]; omega) (by rw [List.length_append]; omega) (by rw [List.length_append]; omega) (by rw [List.length_append]; omega) ((S.same.trans s12).write (S.new i a q2) (s12.at q3))
  (fun b o e n hb _ => kk b o e n fun z => hb (z ▸ q2)) nd' List.nodup_nil (fun _ _ z => by cases z) (fun b hb => ?_) (fun sl O e => by cases e; exact (hm _ _ _ _ _ _ _).mpr ⟨cv, t3⟩) fun sl O e => by cases e
 . obtain ⟨A', key⟩ := hx
   refine ⟨_, A', by simp [hl], ?_, rfl⟩
   have z1 : (σ ++ hv).set i (some v) = σ ++ hv := set_self (by rw [getElem?_append_left hi]; exact e1)
   have z2 : (σ ++ hv).set j (some w) = σ ++ hv := set_self (by rw [getElem?_append_left hj']; exact e2)
   rw [z1, z2, set_app (by omega), set_app (by rw [List.length_set]; omega)] at key
   exact key
 . have hb' : b ∈ as' := by simpa using hb
   refine ⟨?_, ?_⟩
   . rcases mem_append.mp (pm.mem_iff.mp hb') with z | z
     . exact .inl z
     . exact .inr (.inl z)
   . obtain ⟨ys, q⟩ := t3.lsts b hb'
     exact ⟨.l ys, q⟩
theorem sd_trMove (i j : Nat) {n : Nat} {pt : List (Bool × Int)} {ap cp : Pos} (hij : i ≠ j) (h : ρ[i]? = some (some (.tr d))) (hj : ρ[j]? = some (some (.tr dj))) (ho : EN X i (view true false ρ) pt o) (up : TUp e' n pt d d') (hz : n < 100000) (he : EM X j (view true false ρ) dj e e') (hr : SD X F rest ((ρ.set i (some (.tr d'))).set j none) Q)
 (hbase : attributeBase o "append" X.env (eval o X.env) = eval o X.env := by rfl) (hline : (ap.endLine == cp.line) = true := by rfl) (hs : starEach [e] X.env = [(false, eval e X.env)] := by rfl) (hsw : swapsWith (.Call (.Attribute o "append" ap) [e] [] cp) none pos.line X.env = pure false := by rfl) :
 SD X F (.Expr (.Call (.Attribute o "append" ap) [e] [] cp) pos :: rest) ρ Q :=
 sd_trMoveG .tr tree_tr i j hij h hj ho up hz he hr hbase hline hs hsw
end
mutual
def tP : Pt -> List Nat
 | .word w => cl w
 | .beg w => cl w ++ [42]
 | .fin w => 42 :: cl w
 | .any => [63]
 | .upto n => [46, 46, 48 + n]
 | .inn q => [40, 32] ++ joinL [32, 124, 32] (tQs q) ++ [32, 41]
def tPs : List Pt -> List (List Nat)
 | [] => []
 | p :: ps => tP p :: tPs ps
def tQs : List (List Pt) -> List (List Nat)
 | [] => []
 | ps :: q => joinL [32] (tPs ps) :: tQs q
end
def wOk (w : Str) : Prop := cl w ≠ [] /\ (∀ c ∈ cl w, sgB c = true) /\ (cl w).length <= 40
mutual
def pW : Nat -> Pt -> Prop
 | _, .word w => wOk w
 | _, .beg w => wOk w
 | _, .fin w => wOk w
 | _, .any => True
 | _, .upto n => n < 10
 | k, .inn q => ∃ j, k = j + 1 /\ q ≠ [] /\ qWs j q
def rWs : Nat -> List Pt -> Prop
 | _, [] => True
 | k, p :: ps => pW k p /\ rWs k ps
def qWs : Nat -> List (List Pt) -> Prop
 | _, [] => True
 | k, ps :: q => (ps ≠ [] /\ rWs k ps) /\ qWs k q
end
def lastR (q : List (List Pt)) : List Pt := q.getLastD []
def addL (q : List (List Pt)) (p : Pt) : List (List Pt) := q.dropLast ++ [lastR q ++ [p]]
def isWC (t : List Nat) : Bool := !t.isEmpty && t.all sgB
def partT (t : List Nat) : Option Pt :=
 if isWC t then some (.word (mkS t))
 else if t = [63] then some .any
 else if t.length = 3 /\ t.take 2 = [46, 46] /\ 48 <= t.getD 2 0 /\ t.getD 2 0 <= 57 then some (.upto (t.getD 2 0 - 48))
 else if t.getLast? = some 42 /\ isWC t.dropLast = true then some (.beg (mkS t.dropLast))
 else if t.head? = some 42 /\ isWC (t.drop 1) = true then some (.fin (mkS (t.drop 1)))
 else none
def takeT (st : List (List (List Pt))) (t : List Nat) : List (List (List Pt)) :=
 if t = [40] then st ++ [[[]]]
 else if t = [124] then st.dropLast ++ [st.getLastD [] ++ [[]]]
 else if t = [41] then st.dropLast.dropLast ++ [addL (st.dropLast.getLastD []) (.inn (st.getLastD []))]
 else st.dropLast ++ [addL (st.getLastD []) ((partT t).getD .any)]
def Can (st : List (List (List Pt))) (t : List Nat) : Prop :=
 (t = [40] /\ st.length <= 20) \/ (t = [124] /\ lastR (st.getLastD []) ≠ []) \/ (t = [41] /\ lastR (st.getLastD []) ≠ [] /\ 2 <= st.length) \/ (∃ p k, t = tP p /\ pW k p /\ ∀ q, p ≠ .inn q)
def Good : List (List (List Pt)) -> List (List Nat) -> Prop
 | _, [] => True
 | st, t :: ts => Can st t /\ Good (takeT st t) ts
def uptos : List Str := ["..0", "..1", "..2", "..3", "..4", "..5", "..6", "..7", "..8", "..9"]
def ahW (rows : List (List Str)) (p : Nat × Nat) : Str := if 0 < p.2 then (rows.getD p.1 []).getD (p.2 - 1) "" else ""
def gAhW (ds : List D) (d : D) : Prop := ∃ (rows : List (List Str)) (p : Nat × Nat), p.1 < rows.length /\ p.2 < (rows.getD p.1 []).length /\ ds = [rowsD rows, plD p] /\ d = .str (ahW rows p)
def oneW (ws : List Str) : Bool := ws.all fun x => decide (x ≠ "") && decide (x = ws.getD 0 "")
theorem oneW_is {ws : List Str} (h : ws ≠ []) : oneW ws = (decide (ws.getD 0 "" ≠ "") && decide (ws.countP (fun x => decide (x = ws.getD 0 "")) = ws.length)) := by
 rw [Bool.eq_iff_iff, Bool.and_eq_true, decide_eq_true_eq, decide_eq_true_eq, List.countP_eq_length]
 unfold oneW
 rw [List.all_eq_true]
 constructor
 . intro a
   refine ⟨?_, fun x hx => ?_⟩
   . have := a (ws.getD 0 "") (getD_mem (List.length_pos_iff.mpr h))
     rw [Bool.and_eq_true, decide_eq_true_eq] at this
     exact this.1
   . have := a x hx
     rw [Bool.and_eq_true] at this
     exact this.2
 . rintro ⟨a, b⟩ x hx
   have e := of_decide_eq_true (b x hx)
   rw [Bool.and_eq_true, decide_eq_true_eq, decide_eq_true_eq]
   exact ⟨e ▸ a, e⟩
def gOneWord (ds : List D) (d : D) : Prop := ∃ ws : List Str, ws ≠ [] /\ ws.length <= 900 /\ ds = [strsD ws] /\ d = .bl (oneW ws)
def gParting (ds : List D) (d : D) : Prop := ∃ rows : List (List Str), tot rows < 64 /\ ds = [rowsD rows, plsD (endsL rows)] /\ d = .lst ((partS rows).map tupS)
def fullB (rows : List (List Str)) (t : List Str) : Bool := !oneW ((plsOf rows t).map (ahW rows))
def fullN (rows : List (List Str)) (n : Nat) : List (List Str) := ((partS rows).take n).filter (fullB rows)
def fullS (rows : List (List Str)) : List (List Str) := (partS rows).filter (fullB rows)
def fsD (rows : List (List Str)) (t : List Str) : D := .tup [tupS t, plsD (plsOf rows t)]
def gFullS (ds : List D) (d : D) : Prop := ∃ rows : List (List Str), tot rows < 64 /\ rows.length <= 900 /\ ds = [rowsD rows] /\ d = .lst ((fullS rows).map (fsD rows))
theorem pls_len (rows : List (List Str)) (t : List Str) : (plsOf rows t).length <= tot rows := by
 have := length_filter_le (begB rows t) (allP rows)
 rw [allP_tot] at this
 exact this
theorem pls_mem {rows : List (List Str)} {t : List Str} {p : Nat × Nat} : p ∈ plsOf rows t ↔ p ∈ allP rows /\ (endAt rows p).take t.length = t := by
 unfold plsOf begB
 rw [mem_filter, decide_eq_true_eq]
theorem found_two {rows : List (List Str)} {t : List Str} (h : t ∈ foundL rows) : ∃ p q, p ∈ allP rows /\ q ∈ allP rows /\ ltE rows p q = true /\ 0 < comm (endAt rows p) (endAt rows q) /\ t = (endAt rows q).take (comm (endAt rows p) (endAt rows q)) := by
 obtain ⟨z, hz, rfl⟩ := mem_map.mp h
 obtain ⟨hz, h0⟩ := mem_filter.mp hz
 have h0 : 0 < z.2 := by simpa using h0
 obtain ⟨i, hi, e⟩ := List.mem_iff_getElem.mp hz
 rw [List.length_zip, shL_len, Nat.min_self] at hi
 have e1 : z.1 = (endsL rows)[i] := by rw [<- e]; simp
 have hs : i < (shL rows (endsL rows)).length := by rw [shL_len]; exact hi
 have e2 : z.2 = comm (lastE rows ((endsL rows).take i)) (endAt rows ((endsL rows).getD i (0, 0))) := by
  rw [<- e, List.getElem_zip]
  simp [shL]
 have gi : (endsL rows).getD i (0, 0) = (endsL rows)[i] := by simp [hi]
 rw [gi] at e2
 by_cases w : i = 0
 . subst w
   rw [e2] at h0
   simp [lastE, comm] at h0
 . have hi1 : i - 1 < (endsL rows).length := by omega
   have gj : (endsL rows).getD (i - 1) (0, 0) = (endsL rows)[i - 1] := by simp [hi1]
   rw [lastE_take (by omega) hi, gj] at e2
   refine ⟨(endsL rows)[i - 1], (endsL rows)[i], endsL_mem.mp (getElem_mem _), endsL_mem.mp (getElem_mem _), List.pairwise_iff_getElem.mp (endsL_up rows) (i - 1) i hi1 hi (by omega), ?_, ?_⟩
   . rw [<- e2]; exact h0
   . rw [<- e2, e1]
theorem two_in {rows : List (List Str)} {t : List Str} (h : t ∈ foundL rows) : ∃ p q, p ∈ plsOf rows t /\ q ∈ plsOf rows t /\ p ≠ q /\ t.length = comm (endAt rows p) (endAt rows q) := by
 obtain ⟨p, q, hp, hq, hlt, h0, rfl⟩ := found_two h
 have hc := comm_le (endAt rows p) (endAt rows q)
 have e := comm_take (endAt rows p) (endAt rows q)
 have l : ((endAt rows q).take (comm (endAt rows p) (endAt rows q))).length = comm (endAt rows p) (endAt rows q) := by rw [length_take]; omega
 refine ⟨p, q, pls_mem.mpr ⟨hp, ?_⟩, pls_mem.mpr ⟨hq, ?_⟩, fun z => ?_, l⟩
 . rw [l, e]
 . rw [l]
 . subst z; rw [ltE_ir] at hlt; cases hlt
theorem found_in {rows : List (List Str)} {t : List Str} (h : t ∈ partS rows) : plsOf rows t ≠ [] := fun z => by
 obtain ⟨p, q, hp, _⟩ := two_in (partS_mem.mp h)
 rw [z] at hp
 cases hp
def isPlc (d : D) : Prop := ∃ p : Nat × Nat, d = plD p
theorem lin_plc : Lin isPlc := (lin_tup (lin_pr2 lin_int lin_int)).sub fun d ⟨p, e⟩ => ⟨_, e, ⟨_, rfl⟩, ⟨_, rfl⟩, trivial⟩
theorem kind_plc : KindOf isPlc (tuples' true) := .tup "int" (.inl rfl) fun d ⟨p, e⟩ => ⟨.int p.1, [.int p.2], e, rfl, rfl⟩
theorem not_one {ws : List Str} {x y : Str} (hx : x ∈ ws) (hy : y ∈ ws) (h : x = "" \/ y = "" \/ x ≠ y) : oneW ws = false := by
 cases q : oneW ws with
 | false => rfl
 | true =>
  unfold oneW at q
  rw [List.all_eq_true] at q
  have a := q x hx
  have b := q y hy
  rw [Bool.and_eq_true, decide_eq_true_eq, decide_eq_true_eq] at a b
  rcases h with h | h | h
  . exact absurd h a.1
  . exact absurd h b.1
  . exact absurd (a.2.trans b.2.symm) h
theorem fullS_mem {rows : List (List Str)} {t : List Str} : t ∈ fullS rows ↔ t ∈ partS rows /\ oneW ((plsOf rows t).map (ahW rows)) = false := by
 unfold fullS fullB
 rw [mem_filter, Bool.not_eq_true']
theorem fullS_len (rows : List (List Str)) : (fullS rows).length <= tot rows := Nat.le_trans (length_filter_le ..) (partS_len rows)
theorem comm_ge {a b : List Str} {n : Nat} (ha : n <= a.length) (ht : a.take n = b.take n) : n <= comm a b := by
 rcases Nat.lt_or_ge (comm a b) n with h | h
 . exfalso
   have e : a[comm a b]? = b[comm a b]? := by
    have := congrArg (fun l : List Str => l[comm a b]?) ht
    simpa [List.getElem?_take, h] using this
   have la : comm a b < a.length := by omega
   obtain ⟨x, hx⟩ : ∃ x, a[comm a b]? = some x := ⟨_, List.getElem?_eq_getElem la⟩
   exact comm_stop a b x x hx (e ▸ hx) rfl
 . exact h
theorem comm_get {a b : List Str} {n : Nat} (h : n < comm a b) : a[n]? = b[n]? := by
 have := congrArg (fun l : List Str => l[n]?) (comm_take a b)
 simpa [List.getElem?_take, h] using this
theorem comm_more {a b : List Str} {n : Nat} (h : n <= comm a b) (ha : n < a.length) (hb : n < b.length) : a.getD n "" = b.getD n "" ↔ n < comm a b := by
 rw [List.getD_eq_getElem?_getD, List.getD_eq_getElem?_getD]
 constructor
 . intro e
   rcases Nat.lt_or_ge n (comm a b) with z | z
   . exact z
   . exfalso
     obtain rfl : n = comm a b := by omega
     refine comm_stop a b _ _ (List.getElem?_eq_getElem ha) (List.getElem?_eq_getElem hb) ?_
     rw [List.getElem?_eq_getElem ha, List.getElem?_eq_getElem hb] at e
     exact e
 . intro z
   rw [comm_get z]
theorem found_of {rows : List (List Str)} {i : Nat} (h : i + 1 < (endsL rows).length) (h0 : 0 < comm (endAt rows ((endsL rows).getD i (0, 0))) (endAt rows ((endsL rows).getD (i + 1) (0, 0)))) :
 (endAt rows ((endsL rows).getD (i + 1) (0, 0))).take (comm (endAt rows ((endsL rows).getD i (0, 0))) (endAt rows ((endsL rows).getD (i + 1) (0, 0)))) ∈ foundL rows := by
 have hs : i + 1 < (shL rows (endsL rows)).length := by rw [shL_len]; exact h
 have e2 : (shL rows (endsL rows))[i + 1] = comm (endAt rows ((endsL rows).getD i (0, 0))) (endAt rows ((endsL rows).getD (i + 1) (0, 0))) := by
  have := lastE_take (rows := rows) (ps := endsL rows) (n := i + 1) (by omega) h
  rw [Nat.add_sub_cancel] at this
  rw [<- this]
  simp [shL]
 have e1 : (endsL rows).getD (i + 1) (0, 0) = (endsL rows)[i + 1] := by simp [h]
 unfold foundL
 refine mem_map.mpr ⟨((endsL rows)[i + 1], (shL rows (endsL rows))[i + 1]), mem_filter.mpr ⟨?_, ?_⟩, ?_⟩
 . refine List.mem_iff_getElem.mpr ⟨i + 1, ?_, List.getElem_zip⟩
   rw [List.length_zip]
   omega
 . rw [decide_eq_true_eq, e2]; exact h0
 . show (endAt rows (endsL rows)[i + 1]).take (shL rows (endsL rows))[i + 1] = _
   rw [e2, e1]
theorem part_two {rows : List (List Str)} {t : List Str} {p q : Nat × Nat} (hp : p ∈ plsOf rows t) (hq : q ∈ plsOf rows t) (ne : p ≠ q) (h0 : t ≠ []) (hl : t.length = comm (endAt rows p) (endAt rows q)) : t ∈ partS rows := by
 refine partS_mem.mpr (Classical.byContradiction fun no => ?_)
 have hM := mid_is rows t
 have inM : ∀ x, x ∈ plsOf rows t -> x ∈ (endsL rows).filter (begB rows t) := fun x hx => by
  obtain ⟨a, b⟩ := mem_filter.mp hx
  exact mem_filter.mpr ⟨endsL_mem.mpr a, b⟩
 generalize hlow : lowN rows (endsL rows) t = low at hM
 generalize hmany : manyN rows (endsL rows) t = many at hM
 generalize hMd : (endsL rows).filter (begB rows t) = M at hM inM
 have beg : ∀ x ∈ M, (endAt rows x).take t.length = t := fun x hx => by
  rw [<- hMd] at hx
  exact of_decide_eq_true (mem_filter.mp hx).2
 have tl : ∀ x ∈ M, t.length <= (endAt rows x).length := fun x hx => by
  have := congrArg List.length (beg x hx)
  rw [length_take] at this
  omega
 have hM' : ∀ i, i < M.length -> M.getD i (0, 0) = (endsL rows).getD (low + i) (0, 0) /\ low + i < (endsL rows).length := fun i hi => by
  rw [<- hM, length_take, length_drop] at hi
  refine ⟨?_, by omega⟩
  rw [<- hM, List.getD_eq_getElem?_getD, List.getD_eq_getElem?_getD, List.getElem?_take_of_lt (by omega), List.getElem?_drop]
 have mm : ∀ i, i < M.length -> M.getD i (0, 0) ∈ M := fun i hi => by
  rw [List.getD_eq_getElem?_getD, List.getElem?_eq_getElem hi]
  exact getElem_mem hi
 have step : ∀ i, i + 1 < M.length -> t.length < comm (endAt rows (M.getD i (0, 0))) (endAt rows (M.getD (i + 1) (0, 0))) := fun i hi => by
  have a := mm i (by omega)
  have b := mm (i + 1) hi
  have ge := comm_ge (tl _ a) ((beg _ a).trans (beg _ b).symm)
  rcases Nat.lt_or_ge t.length (comm (endAt rows (M.getD i (0, 0))) (endAt rows (M.getD (i + 1) (0, 0)))) with z | z
  . exact z
  . exfalso
    apply no
    have e : comm (endAt rows (M.getD i (0, 0))) (endAt rows (M.getD (i + 1) (0, 0))) = t.length := by omega
    obtain ⟨m1, _⟩ := hM' i (by omega)
    obtain ⟨m2, l2⟩ := hM' (i + 1) hi
    have f := found_of (rows := rows) (i := low + i) l2
    rw [show low + i + 1 = low + (i + 1) from rfl, <- m1, <- m2, e, beg _ b] at f
    exact f (List.length_pos_iff.mpr h0)
 have all : ∀ i, i < M.length -> 0 < i -> (endAt rows (M.getD i (0, 0))).take (t.length + 1) = (endAt rows (M.getD 0 (0, 0))).take (t.length + 1) := fun i => by
  induction i with
  | zero => intro _ h; omega
  | succ i ih =>
   intro hi _
   have s := step i hi
   have e := congrArg (List.take (t.length + 1)) (comm_take (endAt rows (M.getD i (0, 0))) (endAt rows (M.getD (i + 1) (0, 0))))
   rw [List.take_take, List.take_take, Nat.min_eq_left (by omega)] at e
   by_cases z : i = 0
   . subst z; exact e.symm
   . rw [<- e]; exact ih (by omega) (by omega)
 have al : ∀ i, i < M.length -> (endAt rows (M.getD i (0, 0))).take (t.length + 1) = (endAt rows (M.getD 0 (0, 0))).take (t.length + 1) := fun i hi => by
  by_cases z : i = 0
  . subst z; rfl
  . exact all i hi (by omega)
 obtain ⟨i, hi, ei⟩ := List.mem_iff_getElem.mp (inM p hp)
 obtain ⟨j, hj, ej⟩ := List.mem_iff_getElem.mp (inM q hq)
 have gi : M.getD i (0, 0) = p := by simp [hi, ei]
 have gj : M.getD j (0, 0) = q := by simp [hj, ej]
 have ij : i ≠ j := fun z => by subst z; exact ne (ei.symm.trans ej)
 have big : ∀ i, i < M.length -> 1 < M.length -> t.length + 1 <= (endAt rows (M.getD i (0, 0))).length := fun i hi h1 => by
  rcases Nat.lt_or_ge (i + 1) M.length with z | z
  . have := step i z
    have := (comm_le (endAt rows (M.getD i (0, 0))) (endAt rows (M.getD (i + 1) (0, 0)))).1
    omega
  . have s := step (i - 1) (by omega)
    rw [show i - 1 + 1 = i by omega] at s
    have := (comm_le (endAt rows (M.getD (i - 1) (0, 0))) (endAt rows (M.getD i (0, 0)))).2
    omega
 have fin := comm_ge (big i hi (by omega)) ((al i hi).trans (al j hj).symm)
 rw [gi, gj] at fin
 omega
theorem allP_of {rows : List (List Str)} {p : Nat × Nat} (h1 : p.1 < rows.length) (h2 : p.2 < (rows.getD p.1 []).length) : p ∈ allP rows := by
 unfold allP allPn
 exact List.mem_flatMap.mpr ⟨p.1, List.mem_range.mpr h1, mem_map.mpr ⟨p.2, List.mem_range.mpr h2, rfl⟩⟩
def outL (rows : List (List Str)) (p q : Nat × Nat) : Nat := comm ((rows.getD p.1 []).take p.2).reverse ((rows.getD q.1 []).take q.2).reverse
def outP (rows : List (List Str)) (p q : Nat × Nat) : Nat × Nat := (p.1, p.2 - outL rows p q)
def outQ (rows : List (List Str)) (p q : Nat × Nat) : Nat × Nat := (q.1, q.2 - outL rows p q)
def outN (rows : List (List Str)) (p q : Nat × Nat) : Nat := comm (endAt rows (outP rows p q)) (endAt rows (outQ rows p q))
def outT (rows : List (List Str)) (p q : Nat × Nat) : List Str := (endAt rows (outP rows p q)).take (outN rows p q)
def wAt (rows : List (List Str)) (p : Nat × Nat) : Str := (rows.getD p.1 []).getD p.2 ""
theorem rev_get {l : List Str} {i n : Nat} (hi : i <= l.length) (h : n < i) : ((l.take i).reverse).getD n "" = l.getD (i - n - 1) "" := by
 rw [List.getD_eq_getElem?_getD, List.getD_eq_getElem?_getD, List.getElem?_reverse (by rw [length_take]; omega), length_take, Nat.min_eq_left hi, List.getElem?_take_of_lt (by omega)]
 congr 2
 omega
theorem outL_le (rows : List (List Str)) (p q : Nat × Nat) : outL rows p q <= p.2 /\ outL rows p q <= q.2 := by
 have := comm_le ((rows.getD p.1 []).take p.2).reverse ((rows.getD q.1 []).take q.2).reverse
 rw [List.length_reverse, List.length_reverse, length_take, length_take] at this
 unfold outL
 omega
theorem out_full {rows : List (List Str)} {p q : Nat × Nat} (hp : p ∈ allP rows) (hq : q ∈ allP rows) (ne : p ≠ q) (hw : wAt rows p = wAt rows q) :
 outT rows p q ∈ fullS rows /\ outP rows p q ∈ plsOf rows (outT rows p q) /\ outQ rows p q ∈ plsOf rows (outT rows p q) := by
 obtain ⟨p1, p2⟩ := allP_mem hp
 obtain ⟨q1, q2⟩ := allP_mem hq
 obtain ⟨lp, lq⟩ := outL_le rows p q
 have hP : outP rows p q ∈ allP rows := allP_of p1 (show p.2 - outL rows p q < (rows.getD p.1 []).length by omega)
 have hQ : outQ rows p q ∈ allP rows := allP_of q1 (show q.2 - outL rows p q < (rows.getD q.1 []).length by omega)
 have gE : ∀ r : Nat × Nat, (endAt rows r).getD 0 "" = wAt rows r := fun r => by
  unfold endAt wAt
  rw [List.getD_eq_getElem?_getD, List.getElem?_drop, Nat.add_zero]
  exact (List.getD_eq_getElem?_getD ..).symm
 have lE : ∀ r : Nat × Nat, (endAt rows r).length = (rows.getD r.1 []).length - r.2 := fun r => by unfold endAt; rw [length_drop]
 have hw2 : wAt rows (outP rows p q) = wAt rows (outQ rows p q) := by
  by_cases z : outL rows p q = 0
  . have e1 : outP rows p q = p := by unfold outP; rw [z]; rfl
    have e2 : outQ rows p q = q := by unfold outQ; rw [z]; rfl
    rw [e1, e2]; exact hw
  . have s := congrArg (fun x : Option Str => x.getD "") (comm_get (a := ((rows.getD p.1 []).take p.2).reverse) (b := ((rows.getD q.1 []).take q.2).reverse) (n := outL rows p q - 1) (by show _ < outL rows p q; omega))
    have s' : ((rows.getD p.1 []).take p.2).reverse.getD (outL rows p q - 1) "" = ((rows.getD q.1 []).take q.2).reverse.getD (outL rows p q - 1) "" := by
     rw [List.getD_eq_getElem?_getD, List.getD_eq_getElem?_getD]; exact s
    rw [rev_get (by omega) (by omega), rev_get (by omega) (by omega), show p.2 - (outL rows p q - 1) - 1 = p.2 - outL rows p q by omega, show q.2 - (outL rows p q - 1) - 1 = q.2 - outL rows p q by omega] at s'
    exact s'
 have n0 : 0 < outN rows p q := by
  refine (comm_more (Nat.zero_le _) ?_ ?_).mp ?_
  . rw [lE]; show 0 < (rows.getD p.1 []).length - (p.2 - outL rows p q); omega
  . rw [lE]; show 0 < (rows.getD q.1 []).length - (q.2 - outL rows p q); omega
  . rw [gE, gE]; exact hw2
 obtain ⟨c1, c2⟩ := comm_le (endAt rows (outP rows p q)) (endAt rows (outQ rows p q))
 have tl : (outT rows p q).length = outN rows p q := by unfold outT; rw [length_take]; unfold outN; omega
 have iP : outP rows p q ∈ plsOf rows (outT rows p q) := pls_mem.mpr ⟨hP, by rw [tl]; rfl⟩
 have iQ : outQ rows p q ∈ plsOf rows (outT rows p q) := pls_mem.mpr ⟨hQ, by rw [tl]; exact (comm_take _ _).symm⟩
 refine ⟨fullS_mem.mpr ⟨part_two iP iQ (fun z => ne ?_) (fun z => ?_) tl, ?_⟩, iP, iQ⟩
 . have e1 := congrArg Prod.fst z
   have e2 := congrArg Prod.snd z
   have e1 : p.1 = q.1 := e1
   have e2 : p.2 - outL rows p q = q.2 - outL rows p q := e2
   exact Prod.ext e1 (by omega)
 . rw [z] at tl; simp at tl; omega
 . refine not_one (mem_map.mpr ⟨_, iP, rfl⟩) (mem_map.mpr ⟨_, iQ, rfl⟩) ?_
   by_cases z1 : p.2 - outL rows p q = 0
   . refine .inl ?_
     unfold ahW outP
     rw [if_neg (by show ¬ 0 < p.2 - outL rows p q; omega)]
   by_cases z2 : q.2 - outL rows p q = 0
   . refine .inr (.inl ?_)
     unfold ahW outQ
     rw [if_neg (by show ¬ 0 < q.2 - outL rows p q; omega)]
   refine .inr (.inr fun e => ?_)
   unfold ahW outP outQ at e
   rw [if_pos (by show 0 < p.2 - outL rows p q; omega), if_pos (by show 0 < q.2 - outL rows p q; omega)] at e
   have e : (rows.getD p.1 []).getD (p.2 - outL rows p q - 1) "" = (rows.getD q.1 []).getD (q.2 - outL rows p q - 1) "" := e
   have := (comm_more (a := ((rows.getD p.1 []).take p.2).reverse) (b := ((rows.getD q.1 []).take q.2).reverse) (n := outL rows p q) (Nat.le_refl _) (by rw [List.length_reverse, length_take]; omega) (by rw [List.length_reverse, length_take]; omega)).mp (by rw [rev_get (by omega) (by omega), rev_get (by omega) (by omega)]; exact e)
   exact Nat.lt_irrefl _ this
theorem fullS_nodup (rows : List (List Str)) : (fullS rows).Nodup := (partS_nodup rows).sublist List.filter_sublist
end Y
namespace Y
open PySem PySem.Spec PyProof.Rows L2
variable [Tabs]
theorem map_inr_inj : ∀ {a b : List Str}, (a.map Sum.inr : List Key) = b.map Sum.inr -> a = b
 | [], [], _ => rfl
 | [], _ :: _, h => by cases h
 | _ :: _, [], h => by cases h
 | x :: a, y :: b, h => by
  rw [map_cons, map_cons] at h
  injection h with h1 h2
  injection h1 with h1
  rw [h1, map_inr_inj h2]
section
variable {K : Frag} {H H' : Hp} {Z : Zone}
theorem InTs.length : ∀ {ds : List D} {vs : List V}, InTs K H Z ds vs -> ds.length = vs.length
 | [], _, h => by rw [inTs_nil.mp h]; rfl
 | d :: ds, _, h => by
  obtain ⟨v, r, rfl, _, j⟩ := inTs_cons.mp h
  rw [length_cons, length_cons, InTs.length j]
theorem InTs.get : ∀ {ds : List D} {vs : List V} {i : Nat} {d : D}, InTs K H Z ds vs -> ds[i]? = some d -> ∃ v, vs[i]? = some v /\ InT K H Z d v
 | [], _, _, _, _, h => by simp at h
 | e :: ds, vs, 0, d, h, q => by
  obtain ⟨v, r, rfl, a, _⟩ := inTs_cons.mp h
  cases q
  exact ⟨v, rfl, a⟩
 | e :: ds, vs, i + 1, d, h, q => by
  obtain ⟨v, r, rfl, _, j⟩ := inTs_cons.mp h
  simpa using j.get (i := i) (by simpa using q)
theorem InTs.append : ∀ {ds es : List D} {vs ws : List V}, InTs K H Z ds vs -> InTs K H Z es ws -> InTs K H Z (ds ++ es) (vs ++ ws)
 | [], _, _, _, h, k => by rw [inTs_nil.mp h]; exact k
 | d :: ds, _, _, _, h, k => by
  obtain ⟨v, r, rfl, a, j⟩ := inTs_cons.mp h
  exact inTs_cons.mpr ⟨v, r ++ _, rfl, a, j.append k⟩
theorem InTs.one {d : D} {v : V} (h : InT K H Z d v) : InTs K H Z [d] [v] := inTs_cons.mpr ⟨v, [], rfl, h, inTs_nil.mpr rfl⟩
theorem InTs.same {ds : List D} {vs : List V} (s : Same H H') (h : InTs K H Z ds vs) : InTs K H' Z ds vs := h.carry (.same s)
end
def oaS (fr : Bool) (s : Sh) (ds : List D) : SP where
 p K F H O mine v := ∃ l xs, mine = [l] /\ v = .ref l /\ s.at H l xs /\ InTs K H (zn F O fr) ds xs
 vw ow f := if ow && (!f || fr) then some (.agg s ds) else none
 carry {K F H H' O O' mine v} h k c := by
  obtain ⟨l, xs, rfl, e, hs, i⟩ := h
  obtain ⟨m, e1, e2⟩ := Sh.mo hs
  exact ⟨l, xs, rfl, e, e2 H' (k l m (by simp) e1), i.carry (c fr)⟩
 env {K F H O mine v ow fr' d'} op inS h e := by
  by_cases q : (ow && (!fr' || fr)) = true
  . rw [if_pos q] at e
    cases e
    obtain ⟨l, xs, rfl, rfl, hs, i⟩ := h
    simp at q
    refine inT_agg.mpr ⟨l, xs, rfl, hs, inS q.1 l (by simp), i.carry (zn_vz op fun hf => ?_)⟩
    subst hf
    simpa using q.2
  . rw [if_neg q] at e; cases e
def tEG (K : Frag) (ρ : List (Option D)) (d : D) : TE := fun σ H Q => ∃ Z : Zone, Z.Open H /\ EnvIn K H Z σ ρ /\ ∀ v H', Same H H' -> InT K H' Z d v -> Q v H'
def EG (X : Cx) (ρ : List (Option D)) (e : Expr) (d : D) : Prop := PE X e (tEG X.K ρ d)
section
variable {X : Cx} {ρ : List (Option D)} {m m1 m2 : Bool} {a b o e : Expr} {d dk : D} {pos : Pos} {s : Sh} {ds : List D}
theorem eg_var (i : Nat) {x : Str} {d : D} (hr : ρ[i]? = some (some d) := by rfl) (hN : X.N[i]? = some x := by rfl)
 (hv : Vis X.env.scope x := by first | exact Or.inl rfl | exact Or.inr (Or.inl rfl) | exact Or.inr (Or.inr rfl)) (hd : (x == ("__debug__" : Str)) = false := by decide)
 (hcd : (x == ("__classdict__" : Str)) = false := by decide) : EG X ρ (.Name x pos) d :=
 PE.mono (pe_var hN hv hd hcd) fun σ H Q z0 => el13 z0 fun Z oz en k => by
  obtain ⟨v, e, i⟩ := en i d hr
  exact ⟨v, e, k v H (Same.refl H) i⟩
def Sh.key (s : Sh) (d : D) (j : Option Nat) : Prop := match s with
 | .k ks => ∃ k, d = kD k /\ j = ks.findIdx? (· = k)
 | .t ks => ∃ k, d = .tup (k.map kD) /\ j = ks.findIdx? (· = k)
 | .o _ _ => False
theorem valV_zip {κ : Type} [DecidableEq κ] : ∀ (ks : List κ) (xs : List V) (k : κ), ks.length = xs.length -> valV (ks.zip xs) k = (ks.findIdx? (· = k)).bind fun j => xs[j]?
 | [], [], _, _ => rfl
 | [], _ :: _, _, h => by cases h
 | _ :: _, [], _, h => by cases h
 | a :: ks, x :: xs, k, h => by
  have ih := valV_zip ks xs k (by simpa using h)
  rw [List.zip_cons_cons, List.findIdx?_cons]
  by_cases q : a = k
  . simp [valV, q]
  . have : valV ((a, x) :: ks.zip xs) k = valV (ks.zip xs) k := by simp [valV, q]
    rw [this, ih]
    simp only [decide_eq_true_eq, q, if_false]
    cases ks.findIdx? (· = k) with
    | none => simp
    | some j => simp
theorem gget {K : Frag} {H : Hp} {Z Z' : Zone} {d : D} {j : Option Nat} {x y : V} (hx : InT K H Z (.agg s ds) x) (hy : In K H Z' d y) (h : s.key d j) : ∃ a r, x = .ref a /\ DGet H a y r /\ (∀ v, r = some v -> ∃ i d', j = some i /\ ds[i]? = some d' /\ InT K H Z d' v) /\ r.isSome = j.isSome := by
 obtain ⟨a, xs, rfl, hs, _, hi⟩ := inT_agg.mp hx
 have key : ∀ {κ : Type} [DecidableEq κ] (ks : List κ) (k : κ), ks.length = xs.length -> j = ks.findIdx? (· = k) -> (∀ v, valV (ks.zip xs) k = some v -> ∃ i d', j = some i /\ ds[i]? = some d' /\ InT K H Z d' v) /\ (valV (ks.zip xs) k).isSome = j.isSome := fun ks k hl hj => by
  have hd := hi.length
  rw [valV_zip ks xs k hl, <- hj]
  cases hq : j with
  | none => exact ⟨fun v e => (by cases e), rfl⟩
  | some i =>
   have hlt : i < ks.length := by
    rw [hq] at hj
    exact (List.findIdx?_eq_some_iff_getElem.mp hj.symm).1
   have hx : xs[i]? = some xs[i] := by simp [<- hl, hlt]
   refine ⟨fun v e => ?_, by simp [<- hl, hlt]⟩
   have e : xs[i]? = some v := e
   obtain ⟨v', e1, e2⟩ := hi.get (i := i) (d := ds[i]) (by simp [hd, <- hl, hlt])
   rw [e1] at e
   cases e
   exact ⟨i, _, rfl, by simp [hd, <- hl, hlt], e2⟩
 cases s with
 | k ks =>
  obtain ⟨k, rfl, hj⟩ := h
  rw [in_kD hy]
  obtain ⟨e1, e2⟩ := key ks k hs.1 hj
  exact ⟨a, _, rfl, .k hs.2, e1, e2⟩
 | t ks =>
  obtain ⟨k, rfl, hj⟩ := h
  obtain ⟨b, ys, rfl, eb, jj⟩ := in_tup.mp hy
  rw [ins_kD jj] at eb
  obtain ⟨e1, e2⟩ := key ks k hs.1 hj
  exact ⟨a, _, rfl, .t hs.2 eb, e1, e2⟩
 | o C fs => exact h.elim
theorem t_gnotin {j : Option Nat} (ha : E X m1 ρ a dk) (hb : EG X ρ b (.agg s ds)) (hk : s.key dk j) (hu : X.A.units + 1 < cLine) (hm : behindInMarks .NotIn b = false := by rfl) : T X ρ (.Compare a [.NotIn] [b] pos) (!j.isSome) :=
 PT.mono (pt_cmp (pc_dnotin hu ha hb) hm) fun σ H Q z0 => el13 z0 fun Z oz en k => ⟨Z, oz, en, fun y H1 s1 i1 => ⟨Z, oz.same s1, en.same s1, fun x H2 s2 i2 => by
  obtain ⟨a, r, rfl, g, _, hr⟩ := gget i2 ((i1.plain oz).same s2) hk
  exact ⟨a, r, rfl, g, !r.isSome, rfl, hr ▸ k H2 (s1.trans s2)⟩⟩⟩
theorem e_gsub {j : Nat} (ho : EG X ρ o (.agg s ds)) (hi : E X m2 ρ e dk) (hk : s.key dk (some j)) (hj : ds[j]? = some d) (hn : d.nag = true) (hu : X.A.units + 1 < cLine) (hs : NoSl e := by intro _ _; rfl) : E X false ρ (.Subscript o e pos) d :=
 PE.mono (pe_dget hu ho hi hs) fun σ H Q z0 => el13 z0 fun Z oz en k => ⟨Z, oz, en, fun x H1 s1 i1 => ⟨Z, oz.same s1, en.same s1, fun y H2 s2 i2 => by
  obtain ⟨a, r, rfl, g, hv, hr⟩ := gget (i1.same s2) (i2.plain (oz.same s1)) hk
  cases r with
  | none => cases hr
  | some v =>
   obtain ⟨i, d', e1, e2, e3⟩ := hv v rfl
   cases e1
   rw [hj] at e2
   cases e2
   exact ⟨a, v, rfl, g, k _ H2 (s1.trans s2) (e3.inn hn)⟩⟩⟩
end
section
variable {X : Cx} {F : Fn} {ρ : Rho} {Q : EndD} {rest : List Stmt} {e key : Expr} {pos p sp : Pos} {m1 m2 : Bool}
theorem StIn.oa {K : Frag} {H : Hp} {σ hv : St} {hρ : Rho} {A : Nat -> List Addr} {i : Nat} {fr : Bool} {s : Sh} {ds : List D} (S : StIn K F H (σ ++ hv) (ρ ++ hρ) A) (hl : σ.length = ρ.length) (h : ρ[i]? = some (some (.gen (oaS fr s ds)))) :
 ∃ l xs, σ[i]? = some (some (.ref l)) /\ A i = [l] /\ s.at H l xs /\ InTs K H (zn F (Owned A) fr) ds xs := by
 have hi : i < ρ.length := (List.getElem?_eq_some_iff.mp h).1
 obtain ⟨v, a, l, xs, e1, rfl, e2, e3⟩ := S.at' i _ (by rw [getElem?_append_left hi]; exact h)
 rw [getElem?_append_left (by omega)] at a
 exact ⟨l, xs, a, e1, e2, e3⟩
theorem put_oa {K : Frag} {hv : St} {hρ : Rho} {σ : St} {H : Hp} {A : Nat -> List Addr} {i : Nat} {l : Addr} {fr : Bool} {xs : List V} {m m' : MO} {s : Sh} {ds : List D} (hl : σ.length = ρ.length) (S : StIn K F H (σ ++ hv) (ρ ++ hρ) A) (h : σ[i]? = some (some (.ref l))) (hA : A i = [l]) (hx : H l = some m.ho)
 (hs : s.at (upd H l m'.ho) l xs) (j : InTs K H (zn F (Owned A) fr) ds xs) : StOk K F hv hρ (fun r => r = ρ.set i (some (.gen (oaS fr s ds)))) σ (upd H l m'.ho) := by
 have hi : i < σ.length := (List.getElem?_eq_some_iff.mp h).1
 refine ⟨_, putA A i [l], by simp [hl], ?_, rfl⟩
 have key := S.re (i := i) (v := .ref l) (sl := .gen (oaS fr s ds)) (l := [l]) (H2 := upd H l m'.ho) (by rw [List.length_append]; omega) (by rw [List.length_append]; omega) (S.same.writeM (xs := m) (S.new i l (by rw [hA]; simp)) hx) (fun b u e _ hb => ?_) nodup1 (fun a ha => ?_) ⟨l, xs, rfl, rfl, hs, ?_⟩
 . rw [set_self (by rw [getElem?_append_left hi]; exact h), set_app (by omega)] at key
   exact key
 . rw [hA] at hb
   have : b ≠ l := by simpa using hb
   rw [upd_ne this]; exact e
 . have : a = l := by simpa using ha
   subst this
   exact ⟨.inl (by rw [hA]; simp), m', upd_same⟩
 . have eqA : putA A i [l] = A := by
    funext k
    by_cases q : k = i
    . rw [q, putA_same, hA]
    . rw [putA_ne q]
   rw [eqA]
   refine j.carry (Carry.writeM (xs := m) hx ?_)
   unfold zn
   cases fr
   . exact fun z => z.2 ⟨i, by rw [hA]; simp⟩
   . exact fun z => z.2 ⟨i, by rw [hA]; simp⟩
theorem sd_oaNewT (i : Nat) {x : Str} {p2 : Pos} (fr : Bool) (hr : SD X F rest (ρ.set i (some (.gen (oaS fr (.t []) [])))) Q) (hN : X.N.Nodup) (hi : X.N[i]? = some x := by rfl)
 (hx : Loc X.env.scope x := by first | exact Or.inl rfl | exact Or.inr rfl) (hρ : i < ρ.length := by exact of_decide_eq_true rfl) (hs : swapsWith (.Dict [] [] p2) (some (.Name x p)) pos.line X.env = pure false := by rfl) (hf : X.fn x = true \/ X.env.scope.names.lookup x = some .local := by first | exact .inl rfl | exact .inr rfl) :
 SD X F (.Assign [.Name x p] (.Dict [] [] p2) pos :: rest) ρ Q :=
 sd_then (PS.mono (ps_set hN hi hx (e_dnewT (ρ := view true false ρ)) hs hf) fun Q' σ H z0 => el33 z0 fun hv hρ' A hl S f => ⟨_, vz_open S true false, S.env hl true false, fun v H1 s1 i1 => by
  obtain ⟨l, rfl, e1, e2⟩ := in_dct.mp i1
  refine f.nx _ H1 ⟨_, putA A i [l], by simp [hl], ?_, rfl⟩
  rw [<- set_app (by omega), <- set_app hρ]
  exact S.put (by rw [List.length_append]; omega) (by rw [List.length_append]; omega) s1 nodup1 (fun a ha => by
   have : a = l := by simpa using ha
   subst this
   exact ⟨e2, .d (.t []), e1⟩) ⟨l, [], rfl, rfl, ⟨rfl, e1⟩, inTs_nil.mpr rfl⟩⟩) hr
def Sh.new (s : Sh) (d : D) (s' : Sh) : Prop := match s with
 | .k ks => ∃ k, d = kD k /\ k ∉ ks /\ ks.length < sizeLine /\ s' = .k (ks ++ [k])
 | .t ks => ∃ k, d = .tup (k.map kD) /\ k ∉ ks /\ ks.length < sizeLine /\ s' = .t (ks ++ [k])
 | .o _ _ => False
theorem gput {K : Frag} {H : Hp} {Z' : Zone} {d : D} {s s' : Sh} {xs : List V} {v y : V} {a : Addr} (hs : s.at H a xs) (hy : In K H Z' d y) (h : s.new d s') : ∃ m m' : MO, H a = some m.ho /\ DPut H a y v (upd H a m'.ho) /\ s'.at (upd H a m'.ho) a (xs ++ [v]) := by
 have key : ∀ {κ : Type} [DecidableEq κ] (ks : List κ) (k : κ), ks.length = xs.length -> k ∉ ks -> putK (ks.zip xs) k v = (ks ++ [k]).zip (xs ++ [v]) := fun ks k hl hk => by
  rw [putK_new]
  . rw [List.zip_append hl]; rfl
  . rw [valV_zip ks xs k hl, List.findIdx?_eq_none_iff.mpr fun x hx => by simp; exact fun z => hk (z ▸ hx)]
    rfl
 cases s with
 | k ks =>
  obtain ⟨k, rfl, hk, hz, rfl⟩ := h
  refine ⟨.d (.k _), .d (.k (putK (ks.zip xs) k v)), hs.2, ?_, by rw [List.length_append, List.length_append, hs.1]; rfl, ?_⟩
  . rw [in_kD hy]
    exact .k hs.2 (by rw [List.length_zip]; omega)
  . rw [<- key ks k hs.1 hk]; exact upd_same
 | t ks =>
  obtain ⟨k, rfl, hk, hz, rfl⟩ := h
  obtain ⟨b, ys, rfl, eb, jj⟩ := in_tup.mp hy
  rw [ins_kD jj] at eb
  refine ⟨.d (.t _), .d (.t (putK (ks.zip xs) k v)), hs.2, .t hs.2 eb (by rw [List.length_zip]; omega), by rw [List.length_append, List.length_append, hs.1]; rfl, ?_⟩
  rw [<- key ks k hs.1 hk]; exact upd_same
 | o C fs => exact h.elim
theorem sd_gput (i : Nat) {x : Str} {s s' : Sh} {ds : List D} (fr : Bool) {dk dv : D} (h : ρ[i]? = some (some (.gen (oaS fr s ds))) := by rfl) (hk : E X m1 (view true false ρ) key dk) (he : E X m2 (view false fr ρ) e dv) (hp : s.new dk s') (hu : X.A.units + 1 < cLine)
 (hr : SD X F rest (ρ.set i (some (.gen (oaS fr s' (ds ++ [dv]))))) Q) (hN : X.N[i]? = some x := by rfl) (hvis : Vis X.env.scope x := by first | exact Or.inl rfl | exact Or.inr (Or.inl rfl) | exact Or.inr (Or.inr rfl)) (hd : (x == ("__debug__" : Str)) = false := by decide) (hcd : (x == ("__classdict__" : Str)) = false := by decide)
 (hsw : swapsWith e (some (.Subscript (.Name x p) key sp)) pos.line X.env = pure false := by rfl) : SD X F (.Assign [.Subscript (.Name x p) key sp] e pos :: rest) ρ Q := by
 refine sd_then (PS.mono (ps_dput hu (pe_var hN hvis hd hcd) hk he hsw) fun Q' σ H ⟨hv', hρ, A, hl, S, f⟩ => ?_) hr
 obtain ⟨l, xs, e1, e2, e3, e4⟩ := S.oa hl h
 refine ⟨_, vz_open S false fr, S.env hl false fr, fun w H1 s1 i1 => ?_⟩
 have i1 : In X.K H1 (zn F (Owned A) fr) dv w := i1.plain (vz_open S false fr)
 refine ⟨.ref l, e1, _, (vz_open S true false).same s1, (S.env hl true false).same s1, fun y H2 s2 i2 => ?_⟩
 have s12 := s1.trans s2
 obtain ⟨m0, q1, q2⟩ := Sh.mo e3
 have hat : s.at H2 l xs := q2 H2 (s12.at q1 m0.nt)
 obtain ⟨m, m', z1, z2, z3⟩ := gput (v := w) hat i2 hp
 exact ⟨l, _, rfl, z2, f.nx _ _ (put_oa hl (S.grow s12) e1 e2 z1 z3 ((e4.same s12).append (InTs.one (i1.same s2).top)))⟩
end
section
variable {X : Cx} {F : Fn} {ρ : Rho} {Q : EndD} {rest : List Stmt} {e : Expr} {pos : Pos} {m1 : Bool}
theorem sd_trip (k l n : Nat) {x y z : Str} {px py pz pt : Pos} {kt : Nat} {d1 d2 d3 : D} (he : E X m1 (view true false ρ) e (.tup [d1, d2, d3])) (f1 : d1.flat = true) (f2 : d2.flat = true) (f3 : d3.flat = true) (hr : SD X F rest (((ρ.set k (some (.pl true d1))).set l (some (.pl true d2))).set n (some (.pl true d3))) Q) (hρ : k < ρ.length /\ l < ρ.length /\ n < ρ.length)
 (hN : X.N.Nodup) (hx : X.N[k]? = some x := by rfl) (hy : X.N[l]? = some y := by rfl) (hz : X.N[n]? = some z := by rfl) (hxl : Loc X.env.scope x := by first | exact Or.inl rfl | exact Or.inr rfl) (hyl : Loc X.env.scope y := by first | exact Or.inl rfl | exact Or.inr rfl) (hzl : Loc X.env.scope z := by first | exact Or.inl rfl | exact Or.inr rfl)
 (hf : X.fn x = true \/ X.env.scope.names.lookup x = some .local := by first | exact .inl rfl | exact .inr rfl) (hf' : X.fn y = true \/ X.env.scope.names.lookup y = some .local := by first | exact .inl rfl | exact .inr rfl) (hg : X.fn z = true \/ X.env.scope.names.lookup z = some .local := by first | exact .inl rfl | exact .inr rfl) (hc : X.calm = true := by rfl)
 (hes : (assignEach [.Name x px, .Name y py, .Name z pz] X.env).map (·.2) = [assign (.Name x px) X.env, assign (.Name y py) X.env, assign (.Name z pz) X.env] := by rfl) (hes2 : (assignEach [.Name y py, .Name z pz] X.env).map (·.2) = [assign (.Name y py) X.env, assign (.Name z pz) X.env] := by rfl) (hes3 : (assignEach [.Name z pz] X.env).map (·.2) = [assign (.Name z pz) X.env] := by rfl)
 (hen : (assignEach [.Name x px, .Name y py, .Name z pz] X.env).length = 3 := by rfl) (hst : (assignEach [.Name x px, .Name y py, .Name z pz] X.env).findIdx? (·.1) = none := by rfl)
 (hs : swapsWithSole [.Tuple [.Name x px, .Name y py, .Name z pz] kt pt] e pos.line X.env = pure false := by rfl) (hw : swappedStores [.Tuple [.Name x px, .Name y py, .Name z pz] kt pt] e X.env = pure none := by rfl)
 (h1 : (assignEach [.Tuple [.Name x px, .Name y py, .Name z pz] kt pt] X.env).map (·.2) = [assign (.Tuple [.Name x px, .Name y py, .Name z pz] kt pt) X.env] := by rfl) :
 SD X F (.Assign [.Tuple [.Name x px, .Name y py, .Name z pz] kt pt] e pos :: rest) ρ Q := by
 refine sd_then (PS.mono (ps_asg he (pg_tup hc (pgs_cons (pg_name hN hx hxl hf) (pgs_cons (pg_name hN hy hyl hf') (pgs_cons (pg_name hN hz hzl hg) pgs_nil (by rw [hes3]; rfl)) (by rw [hes2, hes3])) (by rw [hes, hes2])) hen hst) hs hw h1) ?_) hr
 rintro Q' σ H ⟨hv, hρ', A, hl, S, f⟩
 refine ⟨_, vz_open S true false, S.env hl true false, fun v H1 s1 i1 => ?_⟩
 obtain ⟨a, xs, rfl, t, j⟩ := in_tupS i1
 obtain ⟨v1, r1, rfl, i1, j1⟩ := ins_cons.mp j
 obtain ⟨v2, r2, rfl, i2, j2⟩ := ins_cons.mp j1
 obtain ⟨v3, r3, rfl, i3, j3⟩ := ins_cons.mp j2
 cases ins_nil.mp j3
 refine ⟨a, _, rfl, t, rfl, v1, _, rfl, v2, _, rfl, v3, _, rfl, rfl, f.nx _ _ ?_⟩
 exact put_pl (by simp [hl]) (put_plA (fr := true) (by simp [hl]) (put_plA (fr := true) hl S hρ.1 s1 (i1.flat' f1)) (by simpa using hρ.2.1) (Same.refl _) (i2.flat' f2)) (by simpa using hρ.2.2) (Same.refl _) (i3.flat' f3)
end
def gOut3 (ds : List D) (d : D) : Prop := ∃ (rows : List (List Str)) (p q : Nat × Nat), p ∈ allP rows /\ q ∈ allP rows /\ ds = [rowsD rows, plD p, plD q] /\ d = .tup [tupS (outT rows p q), plD (outP rows p q), plD (outQ rows p q)]
def gAllK (ds : List D) (d : D) : Prop := ∃ rows : List (List Str), tot rows < 64 /\ rows.length <= 900 /\ ds = [rowsD rows] /\ d = plsD (allP rows)
def knT (ts : List (List Str)) : List (List Key) := ts.map fun t => (t.map Sum.inr : List Key)
theorem knT_mem {ts : List (List Str)} {t : List Str} : (t.map Sum.inr : List Key) ∈ knT ts ↔ t ∈ ts := by
 unfold knT
 rw [mem_map]
 exact ⟨fun ⟨a, h, e⟩ => map_inr_inj e ▸ h, fun h => ⟨t, h, rfl⟩⟩
theorem knT_idx {ts : List (List Str)} {t : List Str} (h : t ∈ ts) : ∃ j, (knT ts).findIdx? (· = (t.map Sum.inr : List Key)) = some j /\ ts[j]? = some t := by
 cases q : (knT ts).findIdx? (· = (t.map Sum.inr : List Key)) with
 | none =>
  have := List.findIdx?_eq_none_iff.mp q _ (knT_mem.mpr h)
  simp at this
 | some j =>
  obtain ⟨h1, h2, _⟩ := List.findIdx?_eq_some_iff_getElem.mp q
  have h2 : (knT ts)[j] = (t.map Sum.inr : List Key) := by simpa using h2
  refine ⟨j, rfl, ?_⟩
  have hl : j < ts.length := by simpa [knT] using h1
  rw [List.getElem?_eq_getElem hl]
  congr 1
  apply map_inr_inj
  rw [<- h2]
  simp [knT]
end Y
namespace Z
open PySem PySem.Spec PyProof.Rows L2 Y
section
variable [Tabs]
def top (i : Nat) : Stmt := PySem.Challenge.pw_besidewords_k24_none_lacks.main.body.getD i (.Pass ⟨0, 0, 0, 0⟩)
abbrev s_all_places : Stmt := top 1
abbrev s_end_of : Stmt := top 2
abbrev s_order_of : Stmt := top 3
abbrev s_ends : Stmt := top 4
abbrev s_in_common : Stmt := top 5
abbrev s_shares : Stmt := top 6
abbrev s_stretch_of : Stmt := top 7
abbrev s_first_behind : Stmt := top 8
abbrev s_word_ahead : Stmt := top 10
abbrev s_is_one_word : Stmt := top 11
abbrev s_parting_stretches : Stmt := top 12
abbrev s_full_stretches : Stmt := top 13
abbrev s_law_cell_at : Stmt := top 15
abbrev s_law_part : Stmt := top 16
abbrev s_law_words : Stmt := top 17
abbrev s_law_rows : Stmt := top 18
abbrev s_law_all_places : Stmt := top 19
abbrev s_law_drawn_out : Stmt := top 20
abbrev s_law : Stmt := top 21
theorem fs {N P : List Str} {c : Scope} (a : c.kind = .function := by rfl) (b : c.isCoroutine = false := by rfl) (d : c.isGenerator = false := by rfl) (e : N.Nodup := by decide +kernel) (f : N.take P.length = P := by rfl) (g : ∀ x ∈ P, c.names.lookup x = some .local \/ c.names.lookup x = some .cell := by decide +kernel) (h : ∀ y ∈ c.names, y.2 ≠ .free := by decide +kernel) : FnScope N P c := ⟨a, b, d, e, f, g, h⟩
theorem sc_all_places : FnScope ["rows", "places", "row", "words", "at"] ["rows"] (defScope s_all_places) := fs
theorem sc_end_of : FnScope ["rows", "place"] ["rows", "place"] (defScope s_end_of) := fs
theorem sc_order_of : FnScope ["rows", "place"] ["rows", "place"] (defScope s_order_of) := fs
theorem sc_ends : FnScope ["rows"] ["rows"] (defScope s_ends) := fs
theorem sc_in_common : FnScope ["one", "other", "many", "word", "beside"] ["one", "other"] (defScope s_in_common) := fs
theorem sc_shares : FnScope ["rows", "places", "told", "ahead", "place", "end"] ["rows", "places"] (defScope s_shares) := fs
theorem sc_stretch_of : FnScope ["rows", "places", "words", "low", "high"] ["rows", "places", "words"] (defScope s_stretch_of) := fs
theorem sc_first_behind : FnScope ["rows", "places", "is_ahead", "low", "high", "middle"] ["rows", "places", "is_ahead"] (defScope s_first_behind) := fs
theorem sc_word_ahead : FnScope ["rows", "place"] ["rows", "place"] (defScope s_word_ahead) := fs
theorem sc_is_one_word : FnScope ["words"] ["words"] (defScope s_is_one_word) := fs
theorem sc_parting_stretches : FnScope ["rows", "places", "numbers", "found"] ["rows", "places"] (defScope s_parting_stretches) := fs
theorem sc_full_stretches : FnScope ["rows", "order", "told", "stretch", "span", "places"] ["rows"] (defScope s_full_stretches) := fs
theorem sc_law_cell_at : FnScope ["_law_script", "_law_k"] ["_law_script", "_law_k"] (defScope s_law_cell_at) := fs
theorem sc_law_part : FnScope ["_law_cell", "_law_k", "_law_many"] ["_law_cell", "_law_k", "_law_many"] (defScope s_law_part) := fs
theorem sc_law_words : FnScope ["_law_one", "_law_other", "_law_signs", "_law_size", "_law_at", "_law_words_here", "_law_k", "_law_word", "_law_j", "_law_number"] ["_law_one", "_law_other"] (defScope s_law_words) := fs
theorem sc_law_rows : FnScope ["_law_words_here", "_law_cells", "_law_rows_here", "_law_cell", "_law_k"] ["_law_words_here", "_law_cells"] (defScope s_law_rows) := fs
theorem sc_law_all_places : FnScope ["_law_rows_here", "_law_places", "_law_number", "_law_at"] ["_law_rows_here"] (defScope s_law_all_places) := fs
theorem sc_law_drawn_out : FnScope ["_law_rows_here", "_law_one", "_law_other", "_law_here", "_law_there", "_law_left", "_law_low", "_law_far", "_law_size"] ["_law_rows_here", "_law_one", "_law_other"] (defScope s_law_drawn_out) := fs
theorem sc_law : FnScope ["_law_script", "_law_words_here", "_law_rows_here", "_law_known", "_law_stretch", "_law_places", "_law_one", "_law_other", "_law_first", "_law_second"] ["_law_script"] (defScope s_law) := fs
abbrev pPart : List Str := ["_law_cell", "_law_k", "_law_many"]
structure Blt (mg : Str -> Option Value) : Prop where
 enumerate : mg "enumerate" = none
 len : mg "len" = none
 list : mg "list" = none
 range : mg "range" = none
 set : mg "set" = none
 sorted : mg "sorted" = none
 tuple : mg "tuple" = none
 zip : mg "zip" = none
section
variable {P : Program} {w : World} {K : Frag} {mg : Str -> Option Value} {base : Heap} {f : Addr} {fd : FuncData}
theorem ok_law_cell_at (Fx : Fun K "_law_cell_at" "_law_cell_at" s_law_cell_at f fd) (hmg : mg "_law_cell_at" = some (.ref f)) (hb : Binds K fd ["_law_script", "_law_k"] []) (B : Blt mg) : Def P w K mg base 1 "_law_cell_at" true gCellAt := by
 refine def_of Fx sc_law_cell_at hmg hb (by rintro ds d ⟨ns, k, hz, e1, e2⟩; subst e1; rfl) ?_
 rintro cdv A outer s H Ex Z ds d hr ⟨ns, k, hz, e1, e2⟩
 subst e1 e2
 refine sd_if (t_ltI (e_var 1) (e_lenL (e_var 0) B.len)) (fun h => ?_) (fun h => ?_)
 . refine sd_ret false (m1 := true) (E.flat (e_ixL (d := .int (cellAt ns k)) (e_var 0) (e_var 1) ?_) rfl) rfl
   simp at h
   refine atI_nat ?_
   simp [cellAt, h]
 . refine sd_nil ?_
   refine sd_ret false (E.cast e_int ?_) rfl
   simp at h
   simp [cellAt, h]
theorem ok_law_part (Fx : Fun K "_law_part" "_law_part" s_law_part f fd) (hmg : mg "_law_part" = some (.ref f)) (hb : Binds K fd pPart []) (B : Blt mg) : Def P w K mg base 1 "_law_part" true gPart := by
 refine def_of Fx sc_law_part hmg hb (by rintro ds d ⟨c, k, m, hm, e1, e2⟩; subst e1; rfl) ?_
 rintro cdv A outer s H Ex Z ds d hr ⟨c, k, m, hm, e1, e2⟩
 subst e1 e2
 have h1 := Int.emod_nonneg c (show (99991 : Int) ≠ 0 by decide)
 have h2 := Int.emod_lt_of_pos c (show (0 : Int) < 99991 by decide)
 have h3 := Int.emod_nonneg ((c % 99991 + 17) * (48271 + 7919 * k)) (show (65537 : Int) ≠ 0 by decide)
 have h4 := Int.emod_lt_of_pos ((c % 99991 + 17) * (48271 + 7919 * k)) (show (0 : Int) < 65537 by decide)
 exact sd_ret false (e_mod (e_mod (e_mul (e_mod (e_mul (e_add (e_mod (e_var 0) e_int (by decide)) e_int) (e_add e_int (e_mul e_int (e_var 1) (.inl ⟨by decide, by decide⟩))) (.inl ⟨by omega, by omega⟩)) e_int (by decide)) (e_add (e_var 1) e_int) (.inl ⟨by omega, by omega⟩)) e_int (by decide)) (e_var 2) hm) rfl
theorem ok_law_words (Fx : Fun K "_law_words" "_law_words" s_law_words f fd) (hmg : mg "_law_words" = some (.ref f)) (hb : Binds K fd ["_law_one", "_law_other"] []) (B : Blt mg) (dP : Def P w K mg base 1 "_law_part" true gPart) : Def P w K mg base 2 "_law_words" true gWordsA := by
 refine def_of Fx sc_law_words hmg hb (by rintro ds d ⟨one, other, e1, e2⟩; subst e1; rfl) ?_
 rintro cdv A outer s H Ex Z ds d hr ⟨one, other, e1, e2⟩
 subst e1 e2
 have nd := sc_law_words.nd
 have hsz : 1 <= sizeA one := by have := part_nn one 0 (show (0 : Int) < 12 by decide); unfold sizeA; omega
 refine sd_setF 2 e_str rfl ?_ nd
 refine sd_setF 3 (d := .int (sizeA one)) (e_add e_int (e_call dP hr (ea_cons (e_var 0) (ea_cons e_int (ea_one e_int))) ⟨_, _, _, by decide, rfl, rfl⟩)) rfl ?_ nd
 refine sd_setF 4 (d := .int (atA one other)) (e_call dP hr (ea_cons (e_var 1) (ea_cons e_int (ea_one (e_var 3)))) ⟨_, _, _, by omega, rfl, rfl⟩) rfl ?_ nd
 refine sd_own 5 (e_lstN ea_nil) rfl ?_ nd
 refine sd_forF 6 (ds := rangeD 0 4) (fun n r => ∃ o6 o7 o8 o9, r = [some (.pl false (.int one)), some (.pl false (.int other)), some (.pl true (.str W36)), some (.pl true (.int (sizeA one))), some (.pl true (.int (atA one other))), some (.ow true (((List.range n).map fun k => takeA one other (0 + (k : Nat))).map D.str)), o6, o7, o8, o9] /\ n <= 4)
  (it_range (n := 4) (m := true) e_int (by decide) (by decide) B.range) (fun d hd => by obtain ⟨i, _, rfl⟩ := mem_map.mp hd; rfl) ⟨_, _, _, _, rfl, by decide⟩ (by rintro n r ⟨_, _, _, _, e, _⟩; subst e; simp) ?_ ?_ nd
 . rintro n d r hd ⟨o6, o7, o8, o9, e, hn⟩
   subst e
   obtain ⟨hn4, rfl⟩ := rangeD_get hd
   refine sd_setF 7 e_str rfl ?_ nd
   refine sd_forF 8 (ds := rangeD 0 12) (fun m r => ∃ o8 o9, r = [some (.pl false (.int one)), some (.pl false (.int other)), some (.pl true (.str W36)), some (.pl true (.int (sizeA one))), some (.pl true (.int (atA one other))), some (.ow true (((List.range n).map fun k => takeA one other (0 + (k : Nat))).map D.str)), some (.pl true (.int (0 + (n : Nat)))), some (.pl true (.str (wordA one other (0 + (n : Nat)) m))), o8, o9] /\ m <= 12)
    (it_range (n := 12) (m := true) e_int (by decide) (by decide) B.range) (fun d hd => by obtain ⟨i, _, rfl⟩ := mem_map.mp hd; rfl) ⟨_, _, rfl, by decide⟩ (by rintro n r ⟨_, _, e, _⟩; subst e; simp) (fun m d r hd ⟨o8, o9, e, hm⟩ => ?_) (fun r ⟨o8, o9, e, hm⟩ => ?_) nd
   . subst e
     obtain ⟨hm12, rfl⟩ := rangeD_get hd
     refine sd_setF 9 (e_call dP hr (ea_cons (e_var 0) (ea_cons (e_add (e_var 8) e_int) (ea_one e_int))) ⟨_, _, _, by decide, rfl, rfl⟩) rfl ?_ nd
     have hlen := wordA_len one other (0 + (n : Nat)) m
     refine sd_ifJ [some (.pl false (.int one)), some (.pl false (.int other)), some (.pl true (.str W36)), some (.pl true (.int (sizeA one))), some (.pl true (.int (atA one other))), some (.ow true (((List.range n).map fun k => takeA one other (0 + (k : Nat))).map D.str)), some (.pl true (.int (0 + (n : Nat)))), some (.pl true (.str (wordA one other (0 + (n : Nat)) m))), some (.pl true (.int (0 + (m : Nat)))), some (.pl true (.int (numA one other (0 + (n : Nat)) (0 + (m : Nat)))))]
      (TW.t (tw_and (t_eqI (e_var 8) (e_var 4)) fun _ => tw_and1 (t_eqI (e_call dP hr (ea_cons (e_var 1) (ea_cons e_int (ea_one e_int))) ⟨_, _, _, by decide, rfl, rfl⟩) e_int))) (fun h => ?_) (fun h => ?_) ?_
     . refine sd_setF 9 (e_add (e_var 9) (e_var 6)) rfl ?_ nd
       refine sd_nil ?_
       simp at h
       unfold numA
       rw [if_pos (by simpa using h)]
       rfl
     . refine sd_nil ?_
       unfold numA
       rw [if_neg (by simpa using h)]
       rfl
     . refine sd_setF 7 (e_addS (e_var 7) (e_ixS (e_var 2) (e_mod (e_var 9) e_int (by decide)) (by decide +kernel) (atI_sgn _)) (smallL (by show _ + 1 <= 1000; omega))) rfl ?_ nd
       refine sd_nil ⟨some (.pl true (.int (0 + (m : Nat)))), some (.pl true (.int (numA one other (0 + (n : Nat)) (0 + (m : Nat))))), ?_, hm12⟩
       rw [wordA_succ]
       rfl
   . subst e
     have hlen := wordA_len one other (0 + (n : Nat)) (rangeD 0 12).length
     have h12 : (rangeD 0 12).length = 12 := rangeD_len
     rw [h12] at hlen
     have nx : ∀ (l : Int), l = (if part other 20 2 = 0 then sizeA one else 1 + (sizeA one + (0 + (n : Nat))) % 12) -> ((List.range n).map fun k => takeA one other (0 + (k : Nat))).map D.str ++ [D.str (Txt.slice (wordA one other (0 + (n : Nat)) 12) none (some l))] = ((List.range (n + 1)).map fun k => takeA one other (0 + (k : Nat))).map D.str := fun l hl => by
      rw [range_succ, map_append, map_append, hl]; rfl
     refine sd_if (t_eqI (e_call dP hr (ea_cons (e_var 1) (ea_cons e_int (ea_one e_int))) ⟨_, _, _, by decide, rfl, rfl⟩) e_int) (fun h => ?_) (fun h => ?_)
     . refine sd_appendF 5 true rfl (e_slS (e_var 7) eo_none (eo_some (e_var 3)) (smallL (by rw [h12, hlen]; decide))) rfl (by simp; omega) ?_
       refine sd_nil (sd_nil ⟨some (.pl true (.int (0 + (n : Nat)))), some (.pl true (.str (wordA one other (0 + (n : Nat)) 12))), o8, o9, ?_, hn4⟩)
       rw [h12, <- nx _ (by simp at h; rw [if_pos h])]
       rfl
     . refine sd_appendF 5 true rfl (e_slS (e_var 7) eo_none (eo_some (e_add e_int (e_mod (e_add (e_var 3) (e_var 6)) e_int (by decide)))) (smallL (by rw [h12, hlen]; decide))) rfl (by simp; omega) ?_
       refine sd_nil (sd_nil ⟨some (.pl true (.int (0 + (n : Nat)))), some (.pl true (.str (wordA one other (0 + (n : Nat)) 12))), o8, o9, ?_, hn4⟩)
       rw [h12, <- nx _ (by simp at h; rw [if_neg h])]
       rfl
 . rintro r ⟨o6, o7, o8, o9, e, hn⟩
   subst e
   have h4 : (rangeD 0 4).length = 4 := rangeD_len
   refine sd_ret true (E.cast (e_var 5) ?_) rfl
   rw [h4]
   rfl
theorem ok_law_rows (Fx : Fun K "_law_rows" "_law_rows" s_law_rows f fd) (hmg : mg "_law_rows" = some (.ref f)) (hb : Binds K fd ["_law_words_here", "_law_cells"] []) (B : Blt mg) (dP : Def P w K mg base 1 "_law_part" true gPart) : Def P w K mg base 2 "_law_rows" true gRowsA := by
 refine def_of Fx sc_law_rows hmg hb (by rintro ds d ⟨ws, cells, h4, hc, e1, e2⟩; subst e1; rfl) ?_
 rintro cdv A outer s H Ex Z ds d hr ⟨ws, cells, h4, hc, e1, e2⟩
 subst e1 e2
 have nd := sc_law_rows.nd
 refine sd_own21 2 (e_lstF (eaf_cons (e_lstN ea_nil) eaf_nil)) ?_ nd
 refine sd_forF 3 (ds := cells.map D.int) (fun n r => ∃ o3 o4, r = [some (.pl false (strsD ws)), some (.pl false (intsD cells)), some (.ow2 true ((rowsA ws (cells.take n)).map fun r => r.map D.str)), o3, o4])
  (it_list (e_var 1)) (fun d hd => by obtain ⟨i, _, rfl⟩ := mem_map.mp hd; rfl) ⟨_, _, rfl⟩ (by rintro n r ⟨_, _, e⟩; subst e; simp) ?_ ?_ nd
 . rintro n d r hd ⟨o3, o4, e⟩
   subst e
   rw [getElem?_map] at hd
   cases hcn : cells[n]? with
   | none => rw [hcn] at hd; cases hd
   | some c =>
    rw [hcn] at hd
    cases hd
    have hn : n < cells.length := (List.getElem?_eq_some_iff.mp hcn).1
    have ht : cells.take (n + 1) = cells.take n ++ [c] := by rw [take_add_one, hcn]; rfl
    have hl := rowsA_len ws (cells.take n)
    obtain ⟨init, last, er⟩ := rowsA_last ws (cells.take n)
    rw [er] at hl
    have hlast : last.length <= 63 := by
     have := (hl.2 last (by simp)).1
     simp at this; omega
    have hinit : init.length <= 63 := by
     have := hl.1
     simp at this; omega
    refine sd_setF 4 (e_call dP hr (ea_cons (e_var 3) (ea_cons e_int (ea_one e_int))) ⟨_, _, _, by decide, rfl, rfl⟩) rfl ?_ nd
    have p0 := part_nn c 21 (show (0 : Int) < 6 by decide)
    rw [er, map_append]
    refine sd_if (t_ltI (e_var 4) e_int) (fun h => ?_) (fun h => ?_)
    . have h5 : part c 21 6 < 5 := by simpa using h
      have hi := idx5_lt p0 h5
      refine sd_append2 2 (dss := init.map fun r => r.map D.str) (ds := last.map D.str) true rfl (e_neg e_int) (e_ixL (d := .str (pickA ws c)) (e_var 0) (e_ixL (e_lstN (ea_cons e_int (ea_cons e_int (ea_cons e_int (ea_cons e_int (ea_one e_int)))))) (e_var 4) (idx5 p0 h5)) (atI_nat (strs_get (by omega)))) rfl (by simp; omega) ?_
      refine sd_nil (sd_nil ⟨some (.pl true (.int c)), some (.pl true (.int (part c 21 6))), ?_⟩)
      rw [ht, rowsA_snoc, er]
      unfold stepA
      rw [if_pos h5]
      simp [List.set]
    . have h5 : ¬ part c 21 6 < 5 := by simpa using h
      refine sd_append2n 2 true rfl (e_lstN ea_nil) (by simp; omega) ?_
      refine sd_nil (sd_nil ⟨some (.pl true (.int c)), some (.pl true (.int (part c 21 6))), ?_⟩)
      rw [ht, rowsA_snoc, er]
      unfold stepA
      rw [if_neg h5]
      simp [List.set]
 . rintro r ⟨o3, o4, e⟩
   subst e
   refine sd_ret true (E.cast (e_var 2) ?_) rfl
   rw [length_map, take_length, map_map]
   rfl
theorem ok_end_of (Fx : Fun K "end_of" "end_of" s_end_of f fd) (hmg : mg "end_of" = some (.ref f)) (hb : Binds K fd ["rows", "place"] []) (B : Blt mg) : Def P w K mg base 1 "end_of" true gEnd := by
 refine def_of Fx sc_end_of hmg hb (by rintro ds d ⟨rows, p, hp, e1, e2⟩; subst e1; rfl) ?_
 rintro cdv A outer s H Ex Z ds d hr ⟨rows, p, hp, e1, e2⟩
 subst e1 e2
 refine sd_ret false (E.cast (e_slL (m := true) (ds := (rows.getD p.1 []).map D.str) (e_ixL (e_var 0) (e_ixT (d := .int p.1) (e_var 1) e_int rfl) (atI_nat ?_)) (eo_some (e_ixT (d := .int p.2) (e_var 1) e_int rfl)) eo_none ?_) ?_) rfl
 . simp [hp, strsD]
 . intro _
   exact .inr (flats_cut (flats_strs _))
 . rw [cut_from]
   simp [strsD, endAt]
theorem ok_in_common (Fx : Fun K "in_common" "in_common" s_in_common f fd) (hmg : mg "in_common" = some (.ref f)) (hb : Binds K fd ["one", "other"] []) (B : Blt mg) : Def P w K mg base 1 "in_common" true gCommon := by
 refine def_of Fx sc_in_common hmg hb (by rintro ds d ⟨a, b, e1, e2⟩; subst e1; rfl) ?_
 rintro cdv A outer s H Ex Z ds d hr ⟨a, b, e1, e2⟩
 subst e1 e2
 have nd := sc_in_common.nd
 refine sd_setF 2 e_int rfl ?_ nd
 refine sd_for2 3 4 false (ds := zipD (a.map D.str) (b.map D.str)) (fun n r => (∃ o3 o4, r = [some (.pl false (strsD a)), some (.pl false (strsD b)), some (.pl true (.int (n : Nat))), o3, o4]) /\ n <= a.length /\ n <= b.length /\ a.take n = b.take n)
  (it_zip (e_var 0) (e_var 1) B.zip) ⟨⟨_, _, rfl⟩, by omega, by omega, by simp⟩ (fun n r ⟨⟨_, _, e⟩, _⟩ => by subst e; simp) (fun d hd => by
   obtain ⟨i, _, rfl⟩ := mem_map.mp hd
   exact ⟨_, _, rfl⟩) (fun n d1 d2 r hd ⟨⟨o3, o4, e⟩, h1, h2, h3⟩ => ?_) (fun r ⟨⟨o3, o4, e⟩, h1, h2, h3⟩ => ?_) nd
 . subst e
   obtain ⟨x1, x2, g1, g2, e⟩ := zipD_get hd
   cases e
   rw [getElem?_map] at g1 g2
   cases ha : a[n]? with
   | none => rw [ha] at g1; cases g1
   | some x =>
    cases hb' : b[n]? with
    | none => rw [hb'] at g2; cases g2
    | some y =>
     rw [ha] at g1
     rw [hb'] at g2
     cases g1
     cases g2
     have hna := (List.getElem?_eq_some_iff.mp ha).1
     have hnb := (List.getElem?_eq_some_iff.mp hb').1
     refine sd_if (t_neS (e_var 3) (e_var 4)) (fun h => ?_) (fun h => sd_nil ?_)
     . refine sd_ret true (E.cast (e_var 2) ?_) rfl
       simp at h
       rw [comm_is h1 h2 h3 (.inr (.inr ⟨x, y, ha, hb', h⟩))]
     . simp at h
       refine sd_setF 2 (e_add (e_var 2) e_int) rfl ?_ nd
       refine sd_nil ⟨⟨some (.pl false (.str x)), some (.pl false (.str y)), ?_⟩, hna, hnb, take_succ_eq h3 (by rw [ha, hb', h])⟩
       rfl
 . subst e
   refine sd_ret true (E.cast (e_var 2) ?_) rfl
   rw [zipD_len, length_map, length_map] at h1 h2 h3 ⊢
   rw [comm_is h1 h2 h3 (by omega)]
theorem ok_shares (Fx : Fun K "shares" "shares" s_shares f fd) (hmg : mg "shares" = some (.ref f)) (hb : Binds K fd ["rows", "places"] []) (B : Blt mg) (dE : Def P w K mg base 1 "end_of" true gEnd) (dC : Def P w K mg base 1 "in_common" true gCommon) : Def P w K mg base 2 "shares" true gShares := by
 refine def_of Fx sc_shares hmg hb (by rintro ds d ⟨rows, ps, h1, h2, e1, e2⟩; subst e1; rfl) ?_
 rintro cdv A outer s H Ex Z ds d hr ⟨rows, ps, h1, h2, e1, e2⟩
 subst e1 e2
 have nd := sc_shares.nd
 refine sd_own 2 (e_lstN ea_nil) rfl ?_ nd
 refine sd_setN 3 (d := strsD []) (e_lstN ea_nil) ?_ nd
 refine sd_forF 4 (ds := ps.map plD) (fun n r => (∃ o4 o5, r = [some (.pl false (rowsD rows)), some (.pl false (plsD ps)), some (.ow true ((shL rows (ps.take n)).map fun n => .int (n : Nat))), some (.pl true (strsD (lastE rows (ps.take n)))), o4, o5]))
  (it_list (e_var 1)) (fun d hd => by obtain ⟨p, _, rfl⟩ := mem_map.mp hd; rfl) ⟨_, _, rfl⟩ (by rintro n r ⟨_, _, e⟩; subst e; simp) ?_ ?_ nd
 . rintro n d r hd ⟨o4, o5, e⟩
   subst e
   rw [getElem?_map] at hd
   cases hp : ps[n]? with
   | none => rw [hp] at hd; cases hd
   | some p =>
    rw [hp] at hd
    cases hd
    have hn := (List.getElem?_eq_some_iff.mp hp).1
    have hpo := h1 p (mem_of_getElem? hp)
    have ht : ps.take (n + 1) = ps.take n ++ [p] := by rw [take_add_one, hp]; rfl
    refine sd_setN 5 (d := strsD (endAt rows p)) (e_call dE hr (ea_cons (e_var 0) (ea_one (e_var 4))) ⟨rows, p, hpo, rfl, rfl⟩) ?_ nd
    refine sd_appendF 2 true rfl (e_call dC hr (ea_cons (e_var 3) (ea_one (e_var 5))) ⟨_, _, rfl, rfl⟩) rfl (by rw [length_map, shL_len, length_take]; omega) ?_
    refine sd_set 3 true (d := strsD (endAt rows p)) (e_var 5) ?_ nd
    refine sd_nil ⟨some (.pl true (plD p)), some (.pl true (strsD (endAt rows p))), ?_⟩
    rw [ht, shL_snoc, lastE_snoc, map_append]
    rfl
 . rintro r ⟨o4, o5, e⟩
   subst e
   refine sd_ret true (E.cast (e_var 2) ?_) rfl
   rw [length_map, take_length]
   rfl
theorem ok_all_places (Fx : Fun K "all_places" "all_places" s_all_places f fd) (hmg : mg "all_places" = some (.ref f)) (hb : Binds K fd ["rows"] []) (B : Blt mg) : Def P w K mg base 1 "all_places" true gAll := by
 refine def_of Fx sc_all_places hmg hb (by rintro ds d ⟨rows, ht, e1, e2⟩; subst e1; rfl) ?_
 rintro cdv A outer s H Ex Z ds d hr ⟨rows, ht, e1, e2⟩
 subst e1 e2
 have nd := sc_all_places.nd
 refine sd_own 1 (e_lstN ea_nil) rfl ?_ nd
 refine sd_for2 2 3 false (ds := enumD (rows.map strsD)) (fun n r => ∃ o2 o3 o4, r = [some (.pl false (rowsD rows)), some (.ow true ((allPn rows n).map plD)), o2, o3, o4])
  (it_enum (e_var 0) B.enumerate) ⟨_, _, _, rfl⟩ (by rintro n r ⟨_, _, _, e⟩; subst e; simp) (fun d hd => by
   obtain ⟨i, _, rfl⟩ := mem_map.mp hd
   exact ⟨_, _, rfl⟩) (fun n d1 d2 r hd ⟨o2, o3, o4, e⟩ => ?_) (fun r ⟨o2, o3, o4, e⟩ => ?_) nd
 . subst e
   obtain ⟨d', hd', e⟩ := enumD_get hd
   cases e
   rw [getElem?_map] at hd'
   cases hrow : rows[n]? with
   | none => rw [hrow] at hd'; cases hd'
   | some row =>
    rw [hrow] at hd'
    cases hd'
    have hrl : row.length <= tot rows := by have := tot_row hrow row.length (Nat.le_refl _); omega
    refine sd_forF 4 (ds := rangeD 0 (row.map D.str).length) (fun m r => ∃ o4, r = [some (.pl false (rowsD rows)), some (.ow true ((allPn rows n ++ (List.range m).map fun a => (n, a)).map plD)), some (.pl false (.int (n : Nat))), some (.pl false (strsD row)), o4] /\ m <= row.length)
     (it_range (n := ((row.map D.str).length : Int)) (m := true) (e_lenL (e_var 3) B.len) (by rw [length_map]; omega) (by omega) B.range) flat_range ⟨o4, by simp, by omega⟩ (by rintro n r ⟨_, e, _⟩; subst e; simp) (fun m d r hd ⟨o4, e, hm⟩ => ?_) (fun r ⟨o4, e, hm⟩ => ?_) nd
    . subst e
      obtain ⟨hm2, rfl⟩ := rangeD0_get hd
      rw [length_map] at hm2
      have hlen := tot_row hrow m hm
      refine sd_appendF 1 true rfl (e_tup (ea_cons (e_var 2) (ea_one (e_var 4)))) rfl (by simp; omega) ?_
      refine sd_nil ⟨some (.pl true (.int (m : Nat))), ?_, hm2⟩
      rw [range_succ]
      simp [plD, List.set]
    . subst e
      refine sd_nil ⟨some (.pl false (.int (n : Nat))), some (.pl false (strsD row)), o4, ?_⟩
      rw [allPn_succ, rangeD_len, length_map]
      simp [hrow]
 . subst e
   refine sd_ret true (E.cast (e_var 1) ?_) rfl
   rw [enumD_len, length_map]
   rfl
theorem ok_order_of (Fx : Fun K "order_of" "order_of" s_order_of f fd) (hmg : mg "order_of" = some (.ref f)) (hb : Binds K fd ["rows", "place"] []) (B : Blt mg) (dE : Def P w K mg base 1 "end_of" true gEnd) : Def P w K mg base 2 "order_of" false gOrder := by
 refine def_of Fx sc_order_of hmg hb (by rintro ds d ⟨rows, p, hp, e1, e2⟩; subst e1; rfl) ?_
 rintro cdv A outer s H Ex Z ds d hr ⟨rows, p, hp, e1, e2⟩
 subst e1 e2
 exact sd_ret false (e_tup (ea_cons (e_call dE hr (ea_cons (e_var 0) (ea_one (e_var 1))) ⟨rows, p, hp, rfl, rfl⟩) (ea_one (e_var 1)))) rfl
theorem ok_ends {f c Pt : Addr} {fd : FuncData} (Fx : FunC K "ends" "ends" s_ends f fd c) (LK : LamK K mg base c Pt "ends.<locals>.<lambda>") (hmg : mg "ends" = some (.ref f)) (hb : Binds K fd ["rows"] []) (B : Blt mg) (dA : Def P w K mg base 1 "all_places" true gAll) (dO : Def P w K mg base 2 "order_of" false gOrder) : Def P w K mg base 6 "ends" true gEnds := by
 refine def_ofC Fx sc_ends hmg hb (by rintro ds d ⟨rows, ht, e1, e2⟩; subst e1; rfl) fun A outer s H Ex Z ds d hr ⟨rows, ht, e1, e2⟩ => ?_
 subst e1 e2
 refine sd_ret false (e_sortedK (ds := (allP rows).map plD) (g := keyD rows) (P := isOrd) (P0 := fun d => ∃ p, d = plD p /\ p.1 < rows.length) (caps := [("rows", 0)]) (pn := "place") (c := c) (Pt := Pt) (qn := "ends.<locals>.<lambda>") (clos := [("rows", s.heap.objs.size + 1)]) (m1 := true) (mb := false) (e_call dA (hr.mono (by decide)) (ea_one (e_var 0)) ⟨rows, by omega, rfl, rfl⟩) ?LC ?LO ?cl ?body ?b lin_ord kind_ord ?P ?inj ?len ?hh ?room ?m) rfl
 case LC => exact LamK.cx LK rfl rfl
 case LO =>
  refine ⟨rfl, rfl, rfl, by decide +kernel, rfl, fun q hq => ?_, fun x c h => h, fun x hx => ?_⟩
  . have : q = (("rows" : Str), 0) := by simpa using hq
    subst this
    exact ⟨rfl, rfl, rfl, rfl⟩
  . have h := (by decide +kernel : ∀ q ∈ lamScope s_ends, q.2 = NameKind.free -> q.1 = ("rows" : Str)) _ (PySem.mem_of_lookup hx) rfl
    have h' : x = ("rows" : Str) := h
    subst h'
    exact ⟨_, rfl⟩
 case cl => rfl
 case b => exact fun _ _ _ _ => rfl
 case body =>
  rintro f' c' s' H' R d ⟨p, rfl, hp⟩
  rw [keyD_pl]
  exact e_call dO (k := 2) (((hr.in1).in1).deeper _) (ea_cons (e_var 1) (ea_one (e_var 0))) ⟨rows, p, hp, rfl, rfl⟩
 case P =>
  intro d hd
  obtain ⟨p, hp, rfl⟩ := mem_map.mp hd
  rw [keyD_pl]
  exact ⟨⟨p, rfl, mem_allP hp⟩, ⟨_, p, rfl⟩, ordD_room hr⟩
 case inj =>
  intro x hx y hy e
  obtain ⟨p, _, rfl⟩ := mem_map.mp hx
  obtain ⟨q, _, rfl⟩ := mem_map.mp hy
  rw [keyD_pl, keyD_pl] at e
  simp only [ordD] at e
  injection e with e
  injection e with _ e
  injection e with e _
 case len => rw [length_map, allP_tot]; exact ht
 case hh => exact hr.hd
 case room => exact hr.depth
 case m => exact B.sorted
def lamScopeA (st : Stmt) (n : Nat) : List (Str × NameKind) := match ((defBody st)[n]? : Option Stmt) with
 | some (.Assign _ (.Call _ [_, _, .Lambda _ _ sc _] _ _) _) => sc.names
 | _ => []
theorem ok_first_behind {f fl c : Addr} {fd : FuncData} (Fx : Fun K "first_behind" "first_behind" s_first_behind f fd) (B : Blt mg) (dE : Def P w K mg base 1 "end_of" true gEnd)
 {qn pn : Str} {params : Arguments} {lb : Expr} {scope : Scope} {clos : List (Str × Addr)} {pm ctv : Value} {capsv : List (Str × V)} {dcs : List D} (gb : List Str -> Bool) (L : CloB base scope clos pn capsv)
 (hbd : ∀ u, bindArgs (PySem.W.kla_fn "<lambda>" qn params lb scope clos pm (.ref c) ctv) ⟨[u], []⟩ = pure [(pn, u)])
 (hbody : ∀ (X0 : Cx) (s : Shared) (H : Hp) (R : Result -> Shared -> Prop) (e : List Str), X0.mg = mg -> Room 2 X0.A -> E (cxLam X0 X0.A (pn :: capsv.map (·.1)) qn scope clos fl c s H R) false (some (strsD e) :: dcs.map some) lb (.bl (gb e)))
 (rows : List (List Str)) (ps : List (Nat × Nat)) (hp : PlOk rows ps) (mono : Falls rows ps gb) :
 FnOk P w K mg base CX0 3 f fd ["rows", "places", "is_ahead"] (spV K fl (LamB K dcs (capsv.map (·.2)) fl c qn params lb scope clos pm ctv) true [rowsD rows, plsD ps] (.int ((ps.countP fun p => gb (endAt rows p) : Nat) : Int))) := by
 refine fnV Fx sc_first_behind rfl (by simp) fun cdv A outer s H Ex Z hr gd => ?_
 have nd := sc_first_behind.nd
 have kk : ∀ (X : Cx), X.base = base -> X.mg = mg -> X.K = K -> Room 2 X.A -> ∀ σ, Keys X X.A σ fl (fun d => .bl (gb (strsOf d))) (fun d => ∃ e, d = strsD e) (LamB X.K dcs (capsv.map (·.2)) fl c qn params lb scope clos pm ctv) := fun X e1 e2 e3 hr σ =>
  lam_keysB (m := false) (e1 ▸ L) hr.hd rfl hr.depth hbd fun s' H' R d ⟨e, he⟩ => by
   subst he
   rw [strsOf_strs]
   exact hbody X s' H' R e e2 hr
 refine sd_setF 3 e_int rfl ?_ nd
 refine sd_setF 4 (e_lenL (ds := ps.map plD) (e_var 1) B.len) rfl ?_ nd
 refine sd_while (fun r => ∃ (lo hi : Nat) (o5 : Option Slot), r = [some (.pl false (rowsD rows)), some (.pl false (plsD ps)), some (.rf (.ref fl)), some (.pl true (.int (lo : Int))), some (.pl true (.int (hi : Int))), o5] /\ lo <= hi /\ hi <= ps.length /\ (∀ i, i < lo -> gb (endAt rows (ps.getD i (0, 0))) = true) /\ (∀ i, hi <= i -> i < ps.length -> gb (endAt rows (ps.getD i (0, 0))) = false))
  (fun r => (getI r 4 - getI r 3).toNat) (fun r => decide (getI r 3 < getI r 4)) ⟨0, ps.length, none, by simp [startV, startD, length_map], by omega, by omega, fun i hi => absurd hi (by omega), fun i h1 h2 => absurd h1 (by omega)⟩ (by rintro r ⟨lo, hi, o5, e, _⟩; subst e; rfl) (fun r ⟨lo, hi, o5, e, _⟩ => ?_) (fun r ⟨lo, hi, o5, e, h1, h2, h3, h4⟩ hb => ?_) (fun r ⟨lo, hi, o5, e, h1, h2, h3, h4⟩ hb => ?_)
 . subst e
   exact t_ltI (e_var 3) (e_var 4)
 . subst e
   have hlt : lo < hi := by
    have z : decide ((lo : Int) < (hi : Int)) = true := hb
    have := of_decide_eq_true z
    omega
   refine sd_setF 5 (e_fdiv (e_add (e_var 3) (e_var 4)) e_int ⟨by decide, by decide⟩) rfl ?_ nd
   obtain ⟨mid, hm⟩ : ∃ mid : Nat, ((lo : Int) + (hi : Int)) / 2 = (mid : Int) := ⟨(lo + hi) / 2, by omega⟩
   have m1 : lo <= mid := by omega
   have m2 : mid < hi := by omega
   rw [hm]
   have ml : mid < ps.length := by omega
   have g0 := pls_get (ps := ps) (n := mid) ml
   refine sd_ifV (i := 2) (f := fl) (b := gb (endAt rows (ps.getD mid (0, 0)))) (d := strsD (endAt rows (ps.getD mid (0, 0)))) rfl (e_call dE (hr.mono (by decide)) (ea_cons (e_var 0) (ea_one (e_ixL (d := plD (ps.getD mid (0, 0))) (e_var 1) (e_var 5) (atI_get (by omega) (by rw [show ((mid : Nat) : Int).toNat = mid by omega]; exact g0))))) ⟨rows, _, hp _ (getD_mem ml), rfl, rfl⟩)
    (kk _ rfl rfl rfl hr) ⟨_, rfl⟩ (by rw [strsOf_strs]) gd (fun h => ?_) (fun h => ?_)
   . refine sd_setF 3 (e_add (e_var 5) e_int) rfl (sd_nil (sd_nil ⟨⟨mid + 1, hi, _, rfl, by omega, h2, fun i hi' => ?_, h4⟩, ?_⟩)) nd
     . by_cases e : i = mid
       . rw [e]; exact h
       . exact mono i mid (by omega) ml h
     . show ((hi : Int) - ((mid : Int) + 1)).toNat < ((hi : Int) - (lo : Int)).toNat
       omega
   . refine sd_setF 4 (e_var 5) rfl (sd_nil (sd_nil ⟨⟨lo, mid, _, rfl, m1, by omega, h3, fun i h5 h6 => ?_⟩, ?_⟩)) nd
     . by_cases e : i = mid
       . rw [e]; exact h
       . cases q : gb (endAt rows (ps.getD i (0, 0))) with
         | false => rfl
         | true => rw [mono mid i (by omega) h6 q] at h; cases h
     . show ((mid : Int) - (lo : Int)).toNat < ((hi : Int) - (lo : Int)).toNat
       omega
 . subst e
   have hge : lo = hi := by
    have z : decide ((lo : Int) < (hi : Int)) = false := hb
    have := of_decide_eq_false z
    omega
   refine sd_ret true (E.cast (e_var 3) ?_) rfl
   rw [count_at (x := (0, 0)) ps lo (by omega) (fun i hi' => h3 i hi') fun i h5 h6 => h4 i (by omega) h6]
theorem ok_stretch_of {f c Pt ff : Addr} {fd ffd : FuncData} (Fx : FunC K "stretch_of" "stretch_of" s_stretch_of f fd c) (LK : LamK K mg base c Pt "stretch_of.<locals>.<lambda>") (hmg : mg "stretch_of" = some (.ref f)) (hb : Binds K fd ["rows", "places", "words"] []) (B : Blt mg)
 (Ff : Fun K "first_behind" "first_behind" s_first_behind ff ffd) (af : mg "first_behind" = some (.ref ff)) (bf : Binds K ffd ["rows", "places", "is_ahead"] []) (dE : ∀ base' : Heap, Def P w K mg base' 1 "end_of" true gEnd) : Def P w K mg base 4 "stretch_of" true gStretchE := by
 refine def_ofC Fx sc_stretch_of hmg hb (by rintro ds d ⟨rows, ws, e1, e2⟩; subst e1; rfl) fun A outer s H Ex Z ds d hr ⟨rows, ws, e1, e2⟩ => ?_
 subst e1 e2
 have nd := sc_stretch_of.nd
 have hpl : PlOk rows (endsL rows) := fun p hp => mem_allP (endsL_in rows p hp)
 refine sd_setF 3 (d := .int ((lowN rows (endsL rows) ws : Nat) : Int)) (e_callV (m := true) (c := c) (Pt := Pt) (qn := "stretch_of.<locals>.<lambda>") (pn := "end") (caps := [("words", 2)]) (clos := [("words", s.heap.objs.size + 1)]) (dcs := [strsD ws]) (da := rowsD rows) (db := plsD (endsL rows)) (p1 := "rows") (p2 := "places") (p3 := "is_ahead") (fd := ffd) (fa := ff) (k := 3) (e_var 0) (e_var 1) ?LC ?LO ?cl ?cap ?fn ?lk ?F hr af Ff.kp bf) rfl ?_ nd
 case LC => exact LamK.cx LK rfl rfl
 case LO =>
  refine ⟨rfl, rfl, rfl, by decide +kernel, rfl, fun q hq => ?_, fun x c h => h, fun x hx => ?_⟩
  . have : q = (("words" : Str), 2) := by simpa using hq
    subst this
    exact ⟨rfl, rfl, rfl, rfl⟩
  . have h := (by decide +kernel : ∀ q ∈ lamScopeA s_stretch_of 0, q.2 = NameKind.free -> q.1 = ("words" : Str)) _ (PySem.mem_of_lookup hx) rfl
    have h' : x = ("words" : Str) := h
    subst h'
    exact ⟨_, rfl⟩
 case cl => rfl
 case cap => rfl
 case fn => exact fun _ _ _ => rfl
 case lk =>
  intro q hq
  have : q = (("words" : Str), s.heap.objs.size + 1) := by simpa using hq
  subst this
  simp
 case F =>
  intro base' capsv f' c' pm ctv hcap C
  refine ok_first_behind (base := base') Ff B (dE base') (fun e => slt e ws) C (fun u => rfl) (fun X0 s' H' R e hm hr' => ?_) rows (endsL rows) hpl (falls_lt rows ws)
  rw [hcap]
  refine E.plainM (e_ltD (e_var 0) (e_var 1) (cmp_strs _ _) (roomD (hr'.deeper _) (dep_strs _)))
 refine sd_setF 4 (d := .int ((lowN rows (endsL rows) ws + manyN rows (endsL rows) ws : Nat) : Int)) (e_callV (m := true) (c := c) (Pt := Pt) (qn := "stretch_of.<locals>.<lambda>") (pn := "end") (caps := [("words", 2)]) (clos := [("words", s.heap.objs.size + 1)]) (dcs := [strsD ws]) (da := rowsD rows) (db := plsD (endsL rows)) (p1 := "rows") (p2 := "places") (p3 := "is_ahead") (fd := ffd) (fa := ff) (k := 3) (e_var 0) (e_var 1) ?LC ?LO ?cl ?cap ?fn ?lk ?F hr af Ff.kp bf) rfl ?_ nd
 case LC => exact LamK.cx LK rfl rfl
 case LO =>
  refine ⟨rfl, rfl, rfl, by decide +kernel, rfl, fun q hq => ?_, fun x c h => h, fun x hx => ?_⟩
  . have : q = (("words" : Str), 2) := by simpa using hq
    subst this
    exact ⟨rfl, rfl, rfl, rfl⟩
  . have h := (by decide +kernel : ∀ q ∈ lamScopeA s_stretch_of 1, q.2 = NameKind.free -> q.1 = ("words" : Str)) _ (PySem.mem_of_lookup hx) rfl
    have h' : x = ("words" : Str) := h
    subst h'
    exact ⟨_, rfl⟩
 case cl => rfl
 case cap => rfl
 case fn => exact fun _ _ _ => rfl
 case lk =>
  intro q hq
  have : q = (("words" : Str), s.heap.objs.size + 1) := by simpa using hq
  subst this
  simp
 case F =>
  intro base' capsv f' c' pm ctv hcap C
  rw [<- high_is]
  refine ok_first_behind (base := base') Ff B (dE base') (fun e => dor .le (strsD (e.take ws.length)) (strsD ws)) C (fun u => rfl) (fun X0 s' H' R e hm hr' => ?_) rows (endsL rows) hpl (falls_le rows ws)
  rw [hcap]
  have hlen : X0.mg "len" = none := by rw [hm]; exact B.len
  refine E.plainM (E.cast (e_leD (d := strsD (e.take ws.length)) (E.cast (e_slL (m := false) (ds := e.map D.str) (e_var 0) eo_none (eo_some (e_lenL (ds := ws.map D.str) (e_var 1) hlen))) ?_) (e_var 1) (cmp_strs _ _) (roomD (hr'.deeper _) (dep_strs _))) rfl)
  rw [length_map, cut_to]
  simp [strsD]
 exact sd_ret true (e_tup (ea_cons (e_var 3) (ea_one (e_var 4)))) rfl
end
theorem room2d {k : Nat} {A : Around} {d : D} (r : Room k A) (h : d.dep <= 1) : A.units + 2 + d.dep < cLine := by have := r.un; omega
theorem room8 {k : Nat} {A : Around} (r : Room k A) : A.units + 8 < cLine := by have := r.un; omega
section
variable {P : Program} {w : World} {K : Frag} {mg : Str -> Option Value} {base : Heap} {f : Addr} {fd : FuncData}
theorem ok_word_ahead (Fx : Fun K "word_ahead" "word_ahead" s_word_ahead f fd) (hmg : mg "word_ahead" = some (.ref f)) (hb : Binds K fd ["rows", "place"] []) (B : Blt mg) : Def P w K mg base 1 "word_ahead" true gAhW := by
 refine def_of Fx sc_word_ahead hmg hb (by rintro ds d ⟨rows, p, h1, h2, e1, e2⟩; subst e1; rfl) ?_
 rintro cdv A outer s H Ex Z ds d hr ⟨rows, p, h1, h2, e1, e2⟩
 subst e1 e2
 have at1 : (rows.map strsD)[p.1]? = some (strsD (rows.getD p.1 [])) := by simp [h1]
 refine sd_ret false (E.flat (m := true) (e_ifExp (m := false) (t_gtI (e_ixT (i := 1) (d := .int (p.2 : Nat)) (e_var 1) e_int rfl) e_int) (fun h => ?_) (fun h => ?_)) rfl) rfl
 . have h0 : 0 < p.2 := by simpa using h
   have e : ahW rows p = (rows.getD p.1 []).getD (p.2 - 1) "" := by unfold ahW; rw [if_pos h0]
   rw [e]
   refine E.flat (e_ixL (e_ixL (e_var 0) (e_ixT (i := 0) (d := .int (p.1 : Nat)) (e_var 1) e_int rfl) (atI_nat at1)) (e_sub (e_ixT (i := 1) (d := .int (p.2 : Nat)) (e_var 1) e_int rfl) e_int) ?_) rfl
   rw [show ((p.2 : Nat) : Int) - 1 = ((p.2 - 1 : Nat) : Int) by omega]
   exact atI_nat (strs_get (by omega))
 . have h0 : ¬ 0 < p.2 := by simpa using h
   have e : ahW rows p = "" := by unfold ahW; rw [if_neg h0]
   rw [e]
   exact E.flat e_str rfl
theorem ok_is_one_word (Fx : Fun K "is_one_word" "is_one_word" s_is_one_word f fd) (hmg : mg "is_one_word" = some (.ref f)) (hb : Binds K fd ["words"] []) (B : Blt mg) : Def P w K mg base 1 "is_one_word" true gOneWord := by
 refine def_of Fx sc_is_one_word hmg hb (by rintro ds d ⟨ws, h1, h2, e1, e2⟩; subst e1; rfl) ?_
 rintro cdv A outer s H Ex Z ds d hr ⟨ws, h1, h2, e1, e2⟩
 subst e1 e2
 have g0 : atI (ws.map D.str) 0 = some (.str (ws.getD 0 "")) := atI_get (by decide) (strs_get (List.length_pos_iff.mpr h1))
 refine sd_ret false (E.cast (e_and (e_neS (e_ixL (e_var 0) e_int g0) e_str) fun _ => e_one (e_eqI (e_countD (ds := ws.map D.str) (e_var 0) (e_ixL (e_var 0) e_int g0) (roomDs hr (by rw [deps_strs]; decide))) (e_lenL (e_var 0) B.len))) ?_) rfl
 have e : (fun x : Str => deq (D.str x) (D.str (ws.getD 0 ""))) = fun x => decide (x = ws.getD 0 "") := funext fun x => by show (x == ws.getD 0 "") = _; rw [Bool.eq_iff_iff, beq_iff_eq, decide_eq_true_iff]
 rw [oneW_is h1, List.countP_map, length_map, Function.comp_def, e]
 congr 2
 . rw [decide_not]
 . rw [Bool.eq_iff_iff, decide_eq_true_iff, decide_eq_true_iff]
   omega
theorem ok_parting_stretches (Fx : Fun K "parting_stretches" "parting_stretches" s_parting_stretches f fd) (hmg : mg "parting_stretches" = some (.ref f)) (hb : Binds K fd ["rows", "places"] []) (B : Blt mg) (dS : Def P w K mg base 2 "shares" true gShares) (dE : Def P w K mg base 1 "end_of" true gEnd) : Def P w K mg base 3 "parting_stretches" true gParting := by
 refine def_of Fx sc_parting_stretches hmg hb (by rintro ds d ⟨rows, h1, e1, e2⟩; subst e1; rfl) ?_
 rintro cdv A outer s H Ex Z ds d hr ⟨rows, h1, e1, e2⟩
 subst e1 e2
 have nd := sc_parting_stretches.nd
 have hr2 : Room 2 _ := hr.mono (by decide)
 have hr1 : Room 1 _ := hr.mono (by decide)
 have hpl : PlOk rows (endsL rows) := fun p hp => mem_allP (endsL_in rows p hp)
 have hel := endsL_len rows
 have hfl := found_len rows
 refine sd_setN 2 (d := natsD (shL rows (endsL rows))) (e_call dS hr2 (ea_cons (e_var 0) (ea_one (e_var 1))) ⟨rows, endsL rows, hpl, by omega, rfl, rfl⟩) ?_ nd
 have hpair : ∀ d ∈ zipD ((endsL rows).map plD) ((shL rows (endsL rows)).map fun n : Nat => D.int (n : Nat)), ∃ a b, d = .tup [a, b] := fun d hd => by
  obtain ⟨q, _, rfl⟩ := mem_map.mp hd
  exact ⟨_, _, rfl⟩
 have inz : ∀ a b, D.tup [a, b] ∈ zipD ((endsL rows).map plD) ((shL rows (endsL rows)).map fun n : Nat => D.int (n : Nat)) -> ∃ (p : Nat × Nat) (n : Nat), p ∈ endsL rows /\ a = plD p /\ b = .int (n : Nat) := fun a b h => by
  obtain ⟨q, hq, e⟩ := mem_map.mp h
  rw [List.zip_map] at hq
  obtain ⟨z, hz, rfl⟩ := mem_map.mp hq
  injection e with e
  injection e with e1 e
  injection e with e2 e
  exact ⟨z.1, z.2, (List.of_mem_zip hz).1, e1.symm, e2.symm⟩
 refine sd_setCN 3 (d := tupsD (foundL rows)) (EC.cast (ec_comp2 (m := true) (me := true) ["rows"] [0] (fun a b => match b with | .int n => decide (0 < n) | _ => false) (fun a b => match a, b with | .tup [.int r, .int k], .int n => tupS ((endAt rows (r.toNat, k.toNat)).take n.toNat) | _, _ => .non)
  (it_zip (e_var 1) (e_var 2) B.zip) hpair (fun C s H fp a b h => ?_) (fun C s H fp a b h hp => ?_) ?_) ?_) ?_ nd
 . obtain ⟨p, n, hp, rfl, rfl⟩ := inz a b h
   exact ts_one (t_gtI (e_var 1) e_int)
 . clear hp
   obtain ⟨p, n, hp, rfl, rfl⟩ := inz a b h
   have hp1 := hpl p hp
   show E _ _ _ _ (tupS ((endAt rows (((p.1 : Nat) : Int).toNat, ((p.2 : Nat) : Int).toNat)).take ((n : Nat) : Int).toNat))
   rw [Int.toNat_natCast, Int.toNat_natCast, Int.toNat_natCast]
   refine E.cast (e_tupleL (m1 := true) (ds := cut ((endAt rows p).map D.str) none (some ((n : Nat) : Int))) (e_slL (m := true) (ds := (endAt rows p).map D.str) (e_call dE hr1 (ea_cons (e_var 2) (ea_one (e_var 0))) ⟨rows, p, hp1, rfl, rfl⟩) eo_none (eo_some (e_var 1)) fun _ => .inr (flats_cut (flats_strs _))) B.tuple) ?_
   rw [cut_to]
   simp [tupS]
 . rw [zipD_len, length_map]
   exact Nat.le_trans (Nat.min_le_left _ _) (smallN (by omega))
 . unfold tupsD foundL zipD
   rw [List.zip_map, map_map, filter_map, map_map, map_map]
   have e1 : (up2 false fun a b => match b with | .int n => decide (0 < n) | _ => false) ∘ ((fun p : D × D => D.tup [p.1, p.2]) ∘ Prod.map plD fun n : Nat => D.int (n : Nat)) = fun q : (Nat × Nat) × Nat => decide (0 < q.2) := funext fun q => by
    show decide ((0 : Int) < (q.2 : Nat)) = decide (0 < q.2)
    rw [Bool.eq_iff_iff, decide_eq_true_iff, decide_eq_true_iff]
    omega
   have e2 : (up2 D.non fun a b => match a, b with | .tup [.int r, .int k], .int n => tupS ((endAt rows (r.toNat, k.toNat)).take n.toNat) | _, _ => .non) ∘ ((fun p : D × D => D.tup [p.1, p.2]) ∘ Prod.map plD fun n : Nat => D.int (n : Nat)) = tupS ∘ fun q : (Nat × Nat) × Nat => (endAt rows q.1).take q.2 := funext fun q => by
    show tupS ((endAt rows (((q.1.1 : Nat) : Int).toNat, ((q.1.2 : Nat) : Int).toNat)).take ((q.2 : Nat) : Int).toNat) = tupS ((endAt rows q.1).take q.2)
    rw [Int.toNat_natCast, Int.toNat_natCast, Int.toNat_natCast]
   rw [e1, e2]
 . refine sd_ret false (E.cast (e_sortedSetU (m := true) (ts := foundL rows) (e_var 3) found_ne (by omega) (room8 hr) hr.hd B.sorted B.set) (by rw [partS_eq])) rfl
theorem ok_full_stretches (Fx : Fun K "full_stretches" "full_stretches" s_full_stretches f fd) (hmg : mg "full_stretches" = some (.ref f)) (hb : Binds K fd ["rows"] []) (B : Blt mg) (dEn : Def P w K mg base 6 "ends" true gEnds) (dPa : Def P w K mg base 3 "parting_stretches" true gParting) (dSt : Def P w K mg base 4 "stretch_of" true gStretchE) (dOne : Def P w K mg base 1 "is_one_word" true gOneWord) (dAh : Def P w K mg base 1 "word_ahead" true gAhW) : DefT P w K mg base 7 "full_stretches" gFullS := by
 refine def_ofT Fx sc_full_stretches hmg hb (by rintro ds d ⟨rows, h1, h2, e1, e2⟩; subst e1; rfl) ?_
 rintro cdv A outer s H Ex Z ds d hr ⟨rows, h1, h2, e1, e2⟩
 subst e1 e2
 have nd := sc_full_stretches.nd
 have hr6 : Room 6 _ := hr.mono (by decide)
 have hr4 : Room 4 _ := hr.mono (by decide)
 have hr3 : Room 3 _ := hr.mono (by decide)
 have hr1 : Room 1 _ := hr.mono (by decide)
 have hel := endsL_len rows
 have hpn := partS_len rows
 refine sd_setN 1 (d := plsD (endsL rows)) (E.cast (e_call dEn hr6 (ea_one (e_var 0)) ⟨rows, by omega, rfl, rfl⟩) (endsD_eq rows)) ?_ nd
 refine sd_setT 2 (et_lst eta_nil) ?_ nd
 refine sd_forF 3 (ds := (partS rows).map tupS) (fun n r => ∃ o3 o4 o5, r = [some (.pl false (rowsD rows)), some (.pl true (plsD (endsL rows))), some (.tr (.lst ((fullN rows n).map (fsD rows)))), o3, o4, o5])
  (it_list (e_call dPa hr3 (ea_cons (e_var 0) (ea_one (e_var 1))) ⟨rows, h1, rfl, rfl⟩)) (fun d hd => by obtain ⟨t, _, rfl⟩ := mem_map.mp hd; exact flat_tupS t) ⟨_, _, _, rfl⟩ (by rintro n r ⟨_, _, _, e⟩; subst e; simp) ?_ ?_ nd
 . rintro n d r hd ⟨o3, o4, o5, e⟩
   subst e
   rw [getElem?_map] at hd
   cases hq : (partS rows)[n]? with
   | none => rw [hq] at hd; cases hd
   | some t =>
    rw [hq] at hd
    cases hd
    have htm : t ∈ partS rows := mem_of_getElem? hq
    have hn := (List.getElem?_eq_some_iff.mp hq).1
    have hnx : fullN rows (n + 1) = fullN rows n ++ (if fullB rows t = true then [t] else []) := by
     unfold fullN
     rw [take_add_one, hq, filter_append]
     cases q : fullB rows t with
     | true => simp [List.filter, q]
     | false => simp [List.filter, q]
    refine sd_setF 4 (e_call dSt hr4 (ea_cons (e_var 0) (ea_cons (e_var 1) (ea_one (e_listT (m := false) (e_var 3) B.list)))) ⟨rows, t, rfl, rfl⟩) rfl ?_ nd
    have hml : (((endsL rows).drop (lowN rows (endsL rows) t)).take (manyN rows (endsL rows) t)).length <= tot rows := by rw [(mid_perm rows t).length_eq]; exact pls_len rows t
    refine sd_setT 5 (d := plsD (plsOf rows t)) (et_new (E.cast (e_sortedL (m := true) (P := isPlc) (ds := (((endsL rows).drop (lowN rows (endsL rows) t)).take (manyN rows (endsL rows) t)).map plD) (E.cast (e_slL (m := false) (e_var 1) (eo_some (e_ixT (d := .int ((lowN rows (endsL rows) t : Nat) : Int)) (e_var 4) e_int rfl)) (eo_some (e_ixT (d := .int ((lowN rows (endsL rows) t + manyN rows (endsL rows) t : Nat) : Int)) (e_var 4) e_int rfl))) (by rw [cut_mid])) lin_plc kind_plc ?hP ?h64 B.sorted (fun _ => .inr (flats_pls _))) (by rw [sort_pls (mid_perm rows t)])) (flats_pls _)) ?_ nd
    case hP =>
     intro d hd
     obtain ⟨p, _, rfl⟩ := mem_map.mp hd
     have e : (plD p).dep <= 1 := by simp [plD, D.dep, deps]
     exact ⟨⟨p, rfl⟩, room2d hr e⟩
    case h64 => rw [length_map]; omega
    have hne := found_in htm
    have hpl := pls_len rows t
    refine sd_if (t_not (t_val (e_call dOne hr1 (ea_one (E.cast (e_map (m := true) (me := true) ["rows"] [0] (fun d => match d with | .tup [.int r, .int k] => .str (ahW rows (r.toNat, k.toNat)) | d => d) (it_list (e_var 5)) (fun C s H fp d hd => ?_) (by rw [length_map]; exact smallN (by omega))) (show _ = strsD ((plsOf rows t).map (ahW rows)) from ?_))) ⟨(plsOf rows t).map (ahW rows), by simpa using hne, by rw [length_map]; omega, rfl, rfl⟩))) (fun h => ?_) (fun h => ?_)
    . obtain ⟨p, hp, rfl⟩ := mem_map.mp hd
      obtain ⟨hp1, hp2⟩ := allP_mem (pls_mem.mp hp).1
      show E _ _ _ _ (.str (ahW rows (((p.1 : Nat) : Int).toNat, ((p.2 : Nat) : Int).toNat)))
      rw [Int.toNat_natCast, Int.toNat_natCast]
      exact e_call dAh hr1 (ea_cons (e_var 1) (ea_one (e_var 0))) ⟨rows, p, hp1, hp2, rfl, rfl⟩
    . unfold strsD
      rw [map_map, map_map]
      congr 1
    . have hB : fullB rows t = true := by simpa [fullB] using h
      refine sd_trMove 2 5 (e' := fsD rows t) (by decide) rfl rfl en_name (.here rfl) (by rw [length_map]; unfold fullN; have := length_filter_le (fullB rows) ((partS rows).take n); rw [length_take] at this; omega) (em_tup (e_var 3) (flat_tupS t) em_name) ?_
      refine sd_nil (sd_nil ⟨some (.pl true (tupS t)), some (.pl true (.tup [.int ((lowN rows (endsL rows) t : Nat) : Int), .int ((lowN rows (endsL rows) t + manyN rows (endsL rows) t : Nat) : Int)])), none, ?_⟩)
      rw [hnx, if_pos hB, map_append]
      rfl
    . have hB : ¬ fullB rows t = true := by simpa [fullB] using h
      refine sd_nil (sd_nil ⟨some (.pl true (tupS t)), some (.pl true (.tup [.int ((lowN rows (endsL rows) t : Nat) : Int), .int ((lowN rows (endsL rows) t + manyN rows (endsL rows) t : Nat) : Int)])), some (.tr (plsD (plsOf rows t))), ?_⟩)
      rw [hnx, if_neg hB, append_nil]
      rfl
 . rintro r ⟨o3, o4, o5, e⟩
   subst e
   refine sd_retT 2 (d := .lst ((fullS rows).map (fsD rows))) ?_ rfl
   rw [length_map]
   unfold fullN fullS
   rw [take_length]
   rfl
theorem ok_law_all_places (Fx : Fun K "_law_all_places" "_law_all_places" s_law_all_places f fd) (hmg : mg "_law_all_places" = some (.ref f)) (hb : Binds K fd ["_law_rows_here"] []) (B : Blt mg) : Def P w K mg base 1 "_law_all_places" true gAllK := by
 refine def_of Fx sc_law_all_places hmg hb (by rintro ds d ⟨rows, ht, hl9, e1, e2⟩; subst e1; rfl) ?_
 rintro cdv A outer s H Ex Z ds d hr ⟨rows, ht, hl9, e1, e2⟩
 subst e1 e2
 have nd := sc_law_all_places.nd
 refine sd_own 1 (e_lstN ea_nil) rfl ?_ nd
 refine sd_forF 2 (ds := rangeD 0 (rows.map strsD).length) (fun n r => ∃ o2 o3, r = [some (.pl false (rowsD rows)), some (.ow true ((allPn rows n).map plD)), o2, o3])
  (it_rangeL (e_lenL (e_var 0) B.len) B.range) flat_range ⟨_, _, rfl⟩ (by rintro n r ⟨_, _, e⟩; subst e; simp) ?_ ?_ nd
 . rintro n d r hd ⟨o2, o3, e⟩
   subst e
   obtain ⟨hn, rfl⟩ := rangeD0_get hd
   rw [length_map] at hn
   obtain ⟨row, hrow⟩ : ∃ row, rows[n]? = some row := ⟨_, List.getElem?_eq_getElem hn⟩
   have hrowD : (rows.map strsD)[n]? = some (strsD row) := by rw [getElem?_map, hrow]; rfl
   have hrl : row.length <= tot rows := by have := tot_row hrow row.length (Nat.le_refl _); omega
   refine sd_forF 3 (ds := rangeD 0 (row.map D.str).length) (fun m r => ∃ o3, r = [some (.pl false (rowsD rows)), some (.ow true ((allPn rows n ++ (List.range m).map fun a => (n, a)).map plD)), some (.pl true (.int (n : Nat))), o3] /\ m <= row.length)
    (it_rangeL (e_lenL (e_ixL (e_var 0) (e_var 2) (atI_nat hrowD)) B.len) B.range) flat_range ⟨o3, by simp, by omega⟩ (by rintro n r ⟨_, e, _⟩; subst e; simp) (fun m d r hd ⟨o3, e, hm⟩ => ?_) (fun r ⟨o3, e, hm⟩ => ?_) nd
   . subst e
     obtain ⟨hm2, rfl⟩ := rangeD0_get hd
     rw [length_map] at hm2
     have hlen := tot_row hrow m hm
     refine sd_appendF 1 true rfl (e_tup (ea_cons (e_var 2) (ea_one (e_var 3)))) rfl (by simp; omega) ?_
     refine sd_nil ⟨some (.pl true (.int (m : Nat))), ?_, hm2⟩
     rw [range_succ]
     simp [plD, List.set]
   . subst e
     refine sd_nil ⟨some (.pl true (.int (n : Nat))), o3, ?_⟩
     rw [allPn_succ, rangeD_len, length_map]
     simp [hrow]
 . rintro r ⟨o2, o3, e⟩
   subst e
   refine sd_ret true (E.cast (e_var 1) ?_) rfl
   rw [rangeD_len, length_map]
   rfl
theorem ok_law_drawn_out (Fx : Fun K "_law_drawn_out" "_law_drawn_out" s_law_drawn_out f fd) (hmg : mg "_law_drawn_out" = some (.ref f)) (hb : Binds K fd ["_law_rows_here", "_law_one", "_law_other"] []) (B : Blt mg) : Def P w K mg base 1 "_law_drawn_out" true gOut3 := by
 refine def_of Fx sc_law_drawn_out hmg hb (by rintro ds d ⟨rows, p, q, hp, hq, e1, e2⟩; subst e1; rfl) ?_
 rintro cdv A outer s H Ex Z ds d hr ⟨rows, p, q, hp, hq, e1, e2⟩
 subst e1 e2
 have nd := sc_law_drawn_out.nd
 obtain ⟨p1, p2⟩ := allP_mem hp
 obtain ⟨q1, q2⟩ := allP_mem hq
 obtain ⟨lp, lq⟩ := outL_le rows p q
 have eL : outL rows p q = comm ((rows.getD p.1 []).take p.2).reverse ((rows.getD q.1 []).take q.2).reverse := rfl
 have eN : outN rows p q = comm ((rows.getD p.1 []).drop (p.2 - outL rows p q)) ((rows.getD q.1 []).drop (q.2 - outL rows p q)) := rfl
 have eP : outP rows p q = (p.1, p.2 - outL rows p q) := rfl
 have eQ : outQ rows p q = (q.1, q.2 - outL rows p q) := rfl
 have eT : outT rows p q = ((rows.getD p.1 []).drop (p.2 - outL rows p q)).take (outN rows p q) := rfl
 refine sd_set 3 false (d := strsD (rows.getD p.1 [])) (e_ixL (e_var 0) (e_ixT (d := .int p.1) (e_var 1) e_int rfl) (atI_nat (by simp [p1, strsD]))) ?_ nd
 refine sd_set 4 false (d := strsD (rows.getD q.1 [])) (e_ixL (e_var 0) (e_ixT (d := .int q.1) (e_var 2) e_int rfl) (atI_nat (by simp [q1, strsD]))) ?_ nd
 refine sd_setF 5 e_int rfl ?_ nd
 rw [eT, eP, eQ]
 generalize outL rows p q = L at lp lq eL eN
 generalize outN rows p q = n at eN
 generalize rows.getD p.1 [] = a at p2 eL eN
 generalize rows.getD q.1 [] = b at q2 eL eN
 have la : ((a.take p.2).reverse).length = p.2 := by rw [List.length_reverse, length_take]; omega
 have lb : ((b.take q.2).reverse).length = q.2 := by rw [List.length_reverse, length_take]; omega
 have ga : ∀ i, i < a.length -> atI (a.map D.str) ((i : Nat) : Int) = some (.str (a.getD i "")) := fun i hi => atI_nat (strs_get hi)
 have gb : ∀ i, i < b.length -> atI (b.map D.str) ((i : Nat) : Int) = some (.str (b.getD i "")) := fun i hi => atI_nat (strs_get hi)
 refine sd_while (fun r => ∃ m : Nat, r = [some (.pl false (rowsD rows)), some (.pl false (plD p)), some (.pl false (plD q)), some (.pl false (strsD a)), some (.pl false (strsD b)), some (.pl true (.int (m : Nat))), none, none, none] /\ m <= L) (fun r => p.2 - (getI r 5).toNat)
  (fun r => decide (getI r 5 < (p.2 : Int)) && (decide (getI r 5 < (q.2 : Int)) && decide (a.getD (p.2 - (getI r 5).toNat - 1) "" = b.getD (q.2 - (getI r 5).toNat - 1) ""))) ⟨0, rfl, by omega⟩ (by rintro r ⟨m, e, _⟩; subst e; rfl) (fun r ⟨m, e, h1⟩ => ?_) (fun r ⟨m, e, h1⟩ hb => ?_) (fun r ⟨m, e, h1⟩ hb => ?_)
 . subst e
   show T _ _ _ (decide ((m : Int) < (p.2 : Int)) && (decide ((m : Int) < (q.2 : Int)) && decide (a.getD (p.2 - m - 1) "" = b.getD (q.2 - m - 1) "")))
   refine TW.t (tw_and (t_ltI (e_var 5) (e_ixT (d := .int p.2) (e_var 1) e_int rfl)) fun g1 => tw_and (t_ltI (e_var 5) (e_ixT (d := .int q.2) (e_var 2) e_int rfl)) fun g2 => tw_and1 (t_eqS (e_ixL (d := .str (a.getD (p.2 - m - 1) "")) (e_var 3) (e_sub (e_sub (e_ixT (d := .int p.2) (e_var 1) e_int rfl) (e_var 5)) e_int) ?_) (e_ixL (d := .str (b.getD (q.2 - m - 1) "")) (e_var 4) (e_sub (e_sub (e_ixT (d := .int q.2) (e_var 2) e_int rfl) (e_var 5)) e_int) ?_)))
   . have : m < p.2 := by simpa using g1
     rw [show ((p.2 : Int) - (m : Nat)) - 1 = ((p.2 - m - 1 : Nat) : Int) by omega]
     exact ga _ (by omega)
   . have : m < q.2 := by simpa using g2
     rw [show ((q.2 : Int) - (m : Nat)) - 1 = ((q.2 - m - 1 : Nat) : Int) by omega]
     exact gb _ (by omega)
 . subst e
   have hb2 : (decide ((m : Int) < (p.2 : Int)) && (decide ((m : Int) < (q.2 : Int)) && decide (a.getD (p.2 - m - 1) "" = b.getD (q.2 - m - 1) ""))) = true := hb
   rw [Bool.and_eq_true, Bool.and_eq_true, decide_eq_true_iff, decide_eq_true_iff, decide_eq_true_iff] at hb2
   obtain ⟨g1, g2, g3⟩ := hb2
   have hm := (comm_more (a := (a.take p.2).reverse) (b := (b.take q.2).reverse) (n := m) (by omega) (by omega) (by omega)).mp (by rw [rev_get (by omega) (by omega), rev_get (by omega) (by omega)]; exact g3)
   refine sd_setF 5 (e_add (e_var 5) e_int) rfl ?_ nd
   refine sd_nil ⟨⟨m + 1, rfl, by omega⟩, ?_⟩
   show p.2 - ((m : Int) + 1).toNat < p.2 - ((m : Int)).toNat
   omega
 . subst e
   have hb2 : (decide ((m : Int) < (p.2 : Int)) && (decide ((m : Int) < (q.2 : Int)) && decide (a.getD (p.2 - m - 1) "" = b.getD (q.2 - m - 1) ""))) = false := hb
   have hm : m = L := by
    rcases Nat.lt_or_ge m L with z | z
    . exfalso
      have c := (comm_more (a := (a.take p.2).reverse) (b := (b.take q.2).reverse) (n := m) (by omega) (by omega) (by omega)).mpr (by omega)
      rw [rev_get (by omega) (by omega), rev_get (by omega) (by omega)] at c
      rw [decide_eq_true (by omega : (m : Int) < (p.2 : Int)), decide_eq_true (by omega : (m : Int) < (q.2 : Int)), decide_eq_true c] at hb2
      cases hb2
    . omega
   subst hm
   refine sd_setF 6 (d := .int ((p.2 - m : Nat) : Int)) (E.cast (e_sub (e_ixT (d := .int p.2) (e_var 1) e_int rfl) (e_var 5)) (by rw [show ((p.2 : Int) - (m : Nat)) = ((p.2 - m : Nat) : Int) by omega])) rfl ?_ nd
   refine sd_setF 7 (d := .int ((q.2 - m : Nat) : Int)) (E.cast (e_sub (e_ixT (d := .int q.2) (e_var 2) e_int rfl) (e_var 5)) (by rw [show ((q.2 : Int) - (m : Nat)) = ((q.2 - m : Nat) : Int) by omega])) rfl ?_ nd
   refine sd_setF 8 e_int rfl ?_ nd
   have pl : p.2 - m < a.length := by omega
   have ql : q.2 - m < b.length := by omega
   generalize p.2 - m = x at pl eN
   generalize q.2 - m = y at ql eN
   have da : (a.drop x).length = a.length - x := length_drop
   have db : (b.drop y).length = b.length - y := length_drop
   have nl := comm_le (a.drop x) (b.drop y)
   have gd : ∀ (l : List Str) (i k : Nat), (l.drop i).getD k "" = l.getD (i + k) "" := fun l i k => by rw [List.getD_eq_getElem?_getD, List.getElem?_drop, List.getD_eq_getElem?_getD]
   refine sd_while (fun r => ∃ k : Nat, r = [some (.pl false (rowsD rows)), some (.pl false (plD p)), some (.pl false (plD q)), some (.pl false (strsD a)), some (.pl false (strsD b)), some (.pl true (.int (m : Nat))), some (.pl true (.int (x : Nat))), some (.pl true (.int (y : Nat))), some (.pl true (.int (k : Nat)))] /\ k <= n) (fun r => a.length - (getI r 8).toNat)
    (fun r => decide ((x : Int) + getI r 8 < ((a.map D.str).length : Int)) && (decide ((y : Int) + getI r 8 < ((b.map D.str).length : Int)) && decide (a.getD (x + (getI r 8).toNat) "" = b.getD (y + (getI r 8).toNat) ""))) ⟨0, rfl, by omega⟩ (by rintro r ⟨k, e, _⟩; subst e; rfl) (fun r ⟨k, e, h2⟩ => ?_) (fun r ⟨k, e, h2⟩ hb => ?_) (fun r ⟨k, e, h2⟩ hb => ?_)
   . subst e
     show T _ _ _ (decide ((x : Int) + (k : Nat) < ((a.map D.str).length : Int)) && (decide ((y : Int) + (k : Nat) < ((b.map D.str).length : Int)) && decide (a.getD (x + k) "" = b.getD (y + k) "")))
     refine TW.t (tw_and (t_ltI (e_add (e_var 6) (e_var 8)) (e_lenL (e_var 3) B.len)) fun g1 => tw_and (t_ltI (e_add (e_var 7) (e_var 8)) (e_lenL (e_var 4) B.len)) fun g2 => tw_and1 (t_eqS (e_ixL (d := .str (a.getD (x + k) "")) (e_var 3) (e_add (e_var 6) (e_var 8)) ?_) (e_ixL (d := .str (b.getD (y + k) "")) (e_var 4) (e_add (e_var 7) (e_var 8)) ?_)))
     . have : x + k < a.length := by rw [length_map, decide_eq_true_iff] at g1; omega
       rw [show ((x : Int) + (k : Nat)) = ((x + k : Nat) : Int) by omega]
       exact ga _ this
     . have : y + k < b.length := by rw [length_map, decide_eq_true_iff] at g2; omega
       rw [show ((y : Int) + (k : Nat)) = ((y + k : Nat) : Int) by omega]
       exact gb _ this
   . subst e
     have hb2 : (decide ((x : Int) + (k : Nat) < ((a.map D.str).length : Int)) && (decide ((y : Int) + (k : Nat) < ((b.map D.str).length : Int)) && decide (a.getD (x + k) "" = b.getD (y + k) ""))) = true := hb
     rw [Bool.and_eq_true, Bool.and_eq_true, decide_eq_true_iff, decide_eq_true_iff, decide_eq_true_iff, length_map, length_map] at hb2
     obtain ⟨g1, g2, g3⟩ := hb2
     have hk := (comm_more (a := a.drop x) (b := b.drop y) (n := k) (by omega) (by omega) (by omega)).mp (by rw [gd, gd]; exact g3)
     refine sd_setF 8 (e_add (e_var 8) e_int) rfl ?_ nd
     refine sd_nil ⟨⟨k + 1, rfl, by omega⟩, ?_⟩
     show a.length - ((k : Int) + 1).toNat < a.length - ((k : Int)).toNat
     omega
   . subst e
     have hb2 : (decide ((x : Int) + (k : Nat) < ((a.map D.str).length : Int)) && (decide ((y : Int) + (k : Nat) < ((b.map D.str).length : Int)) && decide (a.getD (x + k) "" = b.getD (y + k) ""))) = false := hb
     have hk : k = n := by
      rcases Nat.lt_or_ge k n with z | z
      . exfalso
        have c := (comm_more (a := a.drop x) (b := b.drop y) (n := k) (by omega) (by omega) (by omega)).mpr (by omega)
        rw [gd, gd] at c
        rw [decide_eq_true c, length_map, length_map, decide_eq_true (by omega : (x : Int) + (k : Nat) < (a.length : Int)), decide_eq_true (by omega : (y : Int) + (k : Nat) < (b.length : Int))] at hb2
        cases hb2
      . omega
     subst hk
     refine sd_ret false (E.flat (m := true) (E.cast (e_tup (ea_cons (e_tupleL (m1 := true) (ds := cut (a.map D.str) (some ((x : Nat) : Int)) (some ((x : Nat) + ((k : Nat) : Int)))) (e_slL (m := true) (e_var 3) (eo_some (e_var 6)) (eo_some (e_add (e_var 6) (e_var 8))) fun _ => .inr (flats_cut (flats_strs _))) B.tuple) (ea_cons (e_tup (ea_cons (e_ixT (d := .int (p.1 : Nat)) (e_var 1) e_int rfl) (ea_one (e_var 6)))) (ea_one (e_tup (ea_cons (e_ixT (d := .int (q.1 : Nat)) (e_var 2) e_int rfl) (ea_one (e_var 7)))))))) (?_ : _ = D.tup [tupS ((a.drop x).take k), plD (p.1, x), plD (q.1, y)])) ?_) rfl
     . rw [show ((x : Nat) : Int) + ((k : Nat) : Int) = ((x + k : Nat) : Int) by omega, cut_both, show x + k - x = k by omega]
       simp [tupS, plD]
     . show flats _ = true
       rw [flats, flats, flats, flats]
       have := flat_tupS ((a.drop x).take k)
       rw [this]
       rfl
theorem ok_law (Fx : Fun K "law" "law" s_law f fd) (B : Blt mg) (dC : Def P w K mg base 1 "_law_cell_at" true gCellAt) (dW : Def P w K mg base 2 "_law_words" true gWordsA) (dR : Def P w K mg base 2 "_law_rows" true gRowsA) (dF : DefT P w K mg base 7 "full_stretches" gFullS) (dA : Def P w K mg base 1 "_law_all_places" true gAllK) (dO : Def P w K mg base 1 "_law_drawn_out" true gOut3) : FnOk P w K mg base CX0 9 f fd ["_law_script"] (spD K false lawG) := by
 refine fnD Fx sc_law (by rintro ds d ⟨ns, hz, e1, e2⟩; subst e1; rfl) ?_
 rintro cdv A outer s H Ex Z ds d hr ⟨ns, hz, e1, e2⟩
 subst e1 e2
 have nd := sc_law.nd
 have hr1 : Room 1 _ := hr.mono (by decide)
 have hr2 : Room 2 _ := hr.mono (by decide)
 have hr7 : Room 7 _ := hr.mono (by decide)
 refine sd_setN 1 (d := strsD (wordsA (cellAt ns 0) (cellAt ns 1))) (e_call dW hr2 (ea_cons (e_call dC hr1 (ea_cons (e_var 0) (ea_one e_int)) ⟨ns, 0, by omega, rfl, rfl⟩) (ea_one (e_call dC hr1 (ea_cons (e_var 0) (ea_one e_int)) ⟨ns, 1, by omega, rfl, rfl⟩))) ⟨_, _, rfl, rfl⟩) ?_ nd
 have hws := wordsA_len (cellAt ns 0) (cellAt ns 1)
 generalize wordsA (cellAt ns 0) (cellAt ns 1) = ws at hws
 have hcut : (cut ns (some ((2 : Nat) : Int)) (some ((32 : Nat) : Int))).length <= 30 := by rw [cut_both, length_take]; omega
 have ecut : D.lst (cut (ns.map D.int) (some ((2 : Nat) : Int)) (some ((32 : Nat) : Int))) = intsD (cut ns (some ((2 : Nat) : Int)) (some ((32 : Nat) : Int))) := by rw [cut_map]; rfl
 refine sd_setN 2 (d := rowsD (rowsA ws (cut ns (some ((2 : Nat) : Int)) (some ((32 : Nat) : Int))))) (e_call dR hr2 (ea_cons (e_var 1) (ea_one (E.cast (e_slL (m := false) (e_var 0) (eo_some e_int) (eo_some e_int)) ecut))) ⟨ws, cut ns (some ((2 : Nat) : Int)) (some ((32 : Nat) : Int)), hws, by omega, rfl, rfl⟩) ?_ nd
 have hrl := (rowsA_len ws (cut ns (some ((2 : Nat) : Int)) (some ((32 : Nat) : Int)))).1
 have hrt := rowsA_tot ws (cut ns (some ((2 : Nat) : Int)) (some ((32 : Nat) : Int)))
 generalize rowsA ws (cut ns (some ((2 : Nat) : Int)) (some ((32 : Nat) : Int))) = rows at hrl hrt
 have hfl := fullS_len rows
 have hnd := fullS_nodup rows
 refine sd_oaNewT 3 false ?_ nd
 have gF : gFullS [rowsD rows] (.lst ((fullS rows).map (fsD rows))) := ⟨rows, by omega, by omega, rfl, rfl⟩
 refine sd_for2 4 5 false (ds := (fullS rows).map (fsD rows)) (fun n r => ∃ o4 o5, r = [some (.pl false (.lst (ns.map D.int))), some (.pl true (strsD ws)), some (.pl true (rowsD rows)), some (.gen (oaS false (.t (knT ((fullS rows).take n))) (((fullS rows).take n).map fun t => plsD (plsOf rows t)))), o4, o5, none, none, none, none])
  (it_list (e_call dF.def' hr7 (ea_one (E.cast (e_map (m := true) (me := true) [] [] (fun d => d) (it_list (e_var 2)) (fun C s H fp d hd => ?_) (by rw [length_map]; exact smallN (by omega))) (show _ = rowsD rows by simp [rowsD]))) gF)) ⟨_, _, rfl⟩ (by rintro n r ⟨_, _, e⟩; subst e; simp) (fun d hd => by obtain ⟨t, _, rfl⟩ := mem_map.mp hd; exact ⟨_, _, rfl⟩) (fun n d1 d2 r hd ⟨o4, o5, e⟩ => ?_) (fun r ⟨o4, o5, e⟩ => ?_) nd
 . obtain ⟨row, _, rfl⟩ := mem_map.mp hd
   exact e_listL (e_var 0) B.list (fun _ => .inr (flats_strs _))
 . subst e
   rw [getElem?_map] at hd
   cases hq : (fullS rows)[n]? with
   | none => rw [hq] at hd; cases hd
   | some t =>
    rw [hq] at hd
    cases hd
    have hn := (List.getElem?_eq_some_iff.mp hq).1
    have tk : (fullS rows).take (n + 1) = (fullS rows).take n ++ [t] := by rw [take_add_one, hq]; rfl
    have hnew : t ∉ (fullS rows).take n := fun z => by
     obtain ⟨i, hi, e⟩ := List.mem_iff_getElem.mp z
     rw [length_take] at hi
     rw [List.getElem_take] at e
     have e2 : (fullS rows)[n] = t := by rw [List.getElem?_eq_getElem hn] at hq; exact Option.some.inj hq
     have := (List.getElem_inj hnd (h₀ := by omega) (h₁ := hn)).mp (e.trans e2.symm)
     omega
    refine sd_gput 3 false (s' := .t (knT ((fullS rows).take (n + 1)))) rfl (e_var 4) (e_var 5) ⟨t.map Sum.inr, by rw [map_map]; rfl, fun z => hnew (knT_mem.mp z), ?_, ?_⟩ (room1 hr) ?_
    . unfold knT
      rw [length_map, length_take]
      exact Nat.lt_of_le_of_lt (Nat.min_le_right _ _) (Nat.lt_of_le_of_lt hfl (by rw [sizeLine_eq]; omega))
    . rw [tk]; unfold knT; rw [map_append]; rfl
    . refine sd_nil ⟨some (.pl false (tupS t)), some (.pl false (plsD (plsOf rows t))), ?_⟩
      rw [tk, map_append]
      rfl
 . subst e
   rw [length_map, take_length]
   refine sd_setN 5 (e_call dA hr1 (ea_one (e_var 2)) ⟨rows, by omega, by omega, rfl, rfl⟩) ?_ nd
   have hal := allP_tot rows
   refine sd_forF 6 (ds := (allP rows).map plD) (fun n r => ∃ o4 o6 o7 o8 o9, r = [some (.pl false (.lst (ns.map D.int))), some (.pl true (strsD ws)), some (.pl true (rowsD rows)), some (.gen (oaS false (.t (knT (fullS rows))) ((fullS rows).map fun t => plsD (plsOf rows t)))), o4, some (.pl true (plsD (allP rows))), o6, o7, o8, o9])
    (it_list (e_var 5)) (fun d hd => by obtain ⟨p, _, rfl⟩ := mem_map.mp hd; rfl) ⟨_, _, _, _, _, rfl⟩ (by rintro n r ⟨_, _, _, _, _, e⟩; subst e; simp) ?_ ?_ nd
   . rintro n d r hd ⟨o4, o6, o7, o8, o9, e⟩
     subst e
     rw [getElem?_map] at hd
     cases hp : (allP rows)[n]? with
     | none => rw [hp] at hd; cases hd
     | some p =>
      rw [hp] at hd
      cases hd
      have hpm : p ∈ allP rows := mem_of_getElem? hp
      obtain ⟨p1, p2⟩ := allP_mem hpm
      refine sd_forF 7 (ds := (allP rows).map plD) (fun n r => ∃ o4 o7 o8 o9, r = [some (.pl false (.lst (ns.map D.int))), some (.pl true (strsD ws)), some (.pl true (rowsD rows)), some (.gen (oaS false (.t (knT (fullS rows))) ((fullS rows).map fun t => plsD (plsOf rows t)))), o4, some (.pl true (plsD (allP rows))), some (.pl true (plD p)), o7, o8, o9])
       (it_list (e_var 5)) (fun d hd => by obtain ⟨p, _, rfl⟩ := mem_map.mp hd; rfl) ⟨_, _, _, _, rfl⟩ (by rintro n r ⟨_, _, _, _, e⟩; subst e; simp) (fun m d r hd ⟨o4, o7, o8, o9, e⟩ => ?_) (fun r ⟨o4, o7, o8, o9, e⟩ => ?_) nd
      . subst e
        rw [getElem?_map] at hd
        cases hq : (allP rows)[m]? with
        | none => rw [hq] at hd; cases hd
        | some q =>
         rw [hq] at hd
         cases hd
         have hqm : q ∈ allP rows := mem_of_getElem? hq
         obtain ⟨q1, q2⟩ := allP_mem hqm
         have gw : ∀ x : Nat × Nat, x.1 < rows.length -> x.2 < (rows.getD x.1 []).length -> (rows.map strsD)[x.1]? = some (strsD (rows.getD x.1 [])) /\ atI ((rows.getD x.1 []).map D.str) (x.2 : Int) = some (.str (wAt rows x)) := fun x h1 h2 => ⟨by simp [h1, strsD], atI_nat (strs_get h2)⟩
         obtain ⟨a1, a2⟩ := gw p p1 p2
         obtain ⟨b1, b2⟩ := gw q q1 q2
         refine sd_if (TW.t (tw_and (t_ltD (d := plD p) (d' := plD q) (e_var 6) (e_var 7) (lin_pl.cm _ _ ⟨p, rfl⟩ ⟨q, rfl⟩) (roomD hr (dep_plD p))) fun _ => tw_and1 (t_eqS (e_ixL (e_ixL (e_var 2) (e_ixT (d := .int (p.1 : Nat)) (e_var 6) e_int rfl) (atI_nat a1)) (e_ixT (d := .int (p.2 : Nat)) (e_var 6) e_int rfl) a2) (e_ixL (e_ixL (e_var 2) (e_ixT (d := .int (q.1 : Nat)) (e_var 7) e_int rfl) (atI_nat b1)) (e_ixT (d := .int (q.2 : Nat)) (e_var 7) e_int rfl) b2)))) (fun h => ?_) (fun h => ?_)
         . rw [Bool.and_eq_true, decide_eq_true_eq] at h
           obtain ⟨h1, h2⟩ := h
           have ne : p ≠ q := fun z => by
            subst z
            rw [lin_pl.ir _ ⟨p, rfl⟩] at h1
            cases h1
           obtain ⟨f1, f2, f3⟩ := out_full hpm hqm ne h2
           refine sd_trip 4 8 9 (d1 := tupS (outT rows p q)) (d2 := plD (outP rows p q)) (d3 := plD (outQ rows p q)) (e_call dO hr1 (ea_cons (e_var 2) (ea_cons (e_var 6) (ea_one (e_var 7)))) ⟨rows, p, q, hpm, hqm, rfl, rfl⟩) (flat_tupS _) rfl rfl ?_ ⟨by simp, by simp, by simp⟩ nd
           obtain ⟨j, j1, j2⟩ := knT_idx f1
           have hpl := pls_len rows (outT rows p q)
           have inn : ∀ x ∈ plsOf rows (outT rows p q), (((plsOf rows (outT rows p q)).map plD).any fun e => deq e (plD x)) = true := fun x hx => any_eq_true.mpr ⟨plD x, mem_map.mpr ⟨x, hx, rfl⟩, deq_refl _⟩
           have hdp : deps ((plsOf rows (outT rows p q)).map plD) <= 100 := Nat.le_trans (Nat.le_of_succ_le (dep_pls (plsOf rows (outT rows p q)))) (by decide)
           have hj : ((fullS rows).map fun t => plsD (plsOf rows t))[j]? = some (plsD (plsOf rows (outT rows p q))) := by rw [getElem?_map, j2]; rfl
           generalize outT rows p q = t at *
           generalize outP rows p q = x at *
           generalize outQ rows p q = y at *
           have hk : (Sh.t (knT (fullS rows))).key (tupS t) (some j) := ⟨t.map Sum.inr, by rw [map_map]; rfl, j1.symm⟩
           refine sd_if (b := false) (T.castB (TW.t (tw_or (t_gnotin (e_var 4) (eg_var 3) hk (room1 hr)) fun _ => tw_or (t_notInD (e_var 8) (e_gsub (d := plsD (plsOf rows t)) (eg_var 3) (e_var 4) hk hj rfl (room1 hr)) (roomDs hr hdp)) fun _ => tw_or1 (t_notInD (e_var 9) (e_gsub (d := plsD (plsOf rows t)) (eg_var 3) (e_var 4) hk hj rfl (room1 hr)) (roomDs hr hdp)))) ?_) (fun h => by cases h) (fun _ => ?_)
           . rw [inn x f2, inn y f3]; rfl
           . exact sd_nil (sd_nil (sd_nil ⟨_, _, _, _, rfl⟩))
         . exact sd_nil (sd_nil ⟨_, _, _, _, rfl⟩)
      . subst e
        exact sd_nil ⟨_, _, _, _, _, rfl⟩
   . rintro r ⟨o4, o6, o7, o8, o9, e⟩
     subst e
     exact sd_ret false e_bl rfl
end
end
instance : Y.Tabs := ⟨[(37, "ends.<locals>.<lambda>"), (58, "stretch_of.<locals>.<lambda>")]⟩
def FK (K : Frag) (q : Str) (st : Stmt) (f : Addr) : Prop := PySem.W.nsIn K mainGlobals q = some (some (.ref f)) /\ ∃ fd, Fun K q q st f fd
theorem fk {K : Frag} {q : Str} {st : Stmt} {f : Addr} {oc kV dc pm ct : Value} {od an : Option Addr} {sl : Array (Option Value)} {cd : Value} (a : PySem.W.nsIn K mainGlobals q = some (some (.ref f))) (l : K.lookup f = some ⟨oc, od, .func (PySem.W.fnOf q q (defArgs st) (defBody st) (defScope st) .none kV dc pm an cd ct), sl⟩) (c : PySem.W.codeIn K cd q = true) (k : keepIn K (.ref f) = true) : FK K q st f := ⟨a, _, fun_mk l c k⟩
def FKC (K : Frag) (q : Str) (st : Stmt) (f c : Addr) (n : Nat) : Prop := PySem.W.nsIn K mainGlobals q = some (some (.ref f)) /\ (∃ fd, FunC K q q st f fd c) /\ codeHdIn K c n = true
theorem fkc {K : Frag} {q : Str} {st : Stmt} {f : Addr} {oc kV dc pm ct : Value} {od an : Option Addr} {sl : Array (Option Value)} {cc : Addr} {n : Nat} (a : PySem.W.nsIn K mainGlobals q = some (some (.ref f))) (l : K.lookup f = some ⟨oc, od, .func (PySem.W.fnOf q q (defArgs st) (defBody st) (defScope st) .none kV dc pm an (.ref cc) ct), sl⟩) (c : PySem.W.codeIn K (.ref cc) q = true) (k : keepIn K (.ref f) = true) (h : codeHdIn K cc n = true) : FKC K q st f cc n := ⟨a, ⟨_, funC_mk l c k⟩, h⟩
theorem len1 {us : List Value} (h : us.length = 1) : ∃ a, us = [a] := by
  cases us with
  | nil => cases h
  | cons a r =>
    cases r with
    | nil => exact ⟨a, rfl⟩
    | cons b c => simp at h
theorem len2 {us : List Value} (h : us.length = 2) : ∃ a0 a1, us = [a0, a1] := by
  cases us with
  | nil => cases h
  | cons a r =>
    obtain ⟨a1, rfl⟩ := len1 (Nat.succ.inj h)
    exact ⟨a, a1, rfl⟩
theorem len3 {us : List Value} (h : us.length = 3) : ∃ a0 a1 a2, us = [a0, a1, a2] := by
  cases us with
  | nil => cases h
  | cons a r =>
    obtain ⟨a1, a2, rfl⟩ := len2 (Nat.succ.inj h)
    exact ⟨a, a1, a2, rfl⟩
theorem all_mk {l : PySem.W.OpenLaw} {w : World} {K : Frag} {h : Heap} {mg : Str -> Option Value} {fa : Addr} (X : K.In h) (G : h.Ns mainGlobals mg) (hfa : mg "law" = some (.ref fa))
 {f1 f2 f3 f4 cc4 f5 f6 f7 cc7 f8 f9 f10 f11 f12 f13 f14 f15 f16 f17 f18 f19 : Addr} {od19 an19 : Option Addr} {sl19 : Array (Option Value)} {oc19 kV19 dc19 pm19 cd19 ct19 : Value}
 (q1 : FK K "all_places" s_all_places f1)
 (q2 : FK K "end_of" s_end_of f2)
 (q3 : FK K "order_of" s_order_of f3)
 (q4 : FKC K "ends" s_ends f4 cc4 37)
 (q5 : FK K "in_common" s_in_common f5)
 (q6 : FK K "shares" s_shares f6)
 (q7 : FKC K "stretch_of" s_stretch_of f7 cc7 58)
 (q8 : FK K "first_behind" s_first_behind f8)
 (q9 : FK K "word_ahead" s_word_ahead f9)
 (q10 : FK K "is_one_word" s_is_one_word f10)
 (q11 : FK K "parting_stretches" s_parting_stretches f11)
 (q12 : FK K "full_stretches" s_full_stretches f12)
 (q13 : FK K "_law_cell_at" s_law_cell_at f13)
 (q14 : FK K "_law_part" s_law_part f14)
 (q15 : FK K "_law_words" s_law_words f15)
 (q16 : FK K "_law_rows" s_law_rows f16)
 (q17 : FK K "_law_all_places" s_law_all_places f17)
 (q18 : FK K "_law_drawn_out" s_law_drawn_out f18)
 (a19 : PySem.W.nsIn K mainGlobals "law" = some (some (.ref f19)))
 (l19 : K.lookup f19 = some ⟨oc19, od19, .func (PySem.W.fnOf "law" "law" (defArgs s_law) (defBody s_law) (defScope s_law) .none kV19 dc19 pm19 an19 cd19 ct19), sl19⟩)
 (c19 : PySem.W.codeIn K cd19 "law" = true) (k19 : keepIn K (.ref f19) = true)
 (z_enumerate : PySem.W.nsIn K mainGlobals "enumerate" = some none)
 (z_len : PySem.W.nsIn K mainGlobals "len" = some none)
 (z_list : PySem.W.nsIn K mainGlobals "list" = some none)
 (z_range : PySem.W.nsIn K mainGlobals "range" = some none)
 (z_set : PySem.W.nsIn K mainGlobals "set" = some none)
 (z_sorted : PySem.W.nsIn K mainGlobals "sorted" = some none)
 (z_tuple : PySem.W.nsIn K mainGlobals "tuple" = some none)
 (z_zip : PySem.W.nsIn K mainGlobals "zip" = some none) :
 ∃ fd : FuncData, (∀ (s : Shared) (v : Value), BindsTo s fd ⟨[v], []⟩ [("_law_script", v)]) /\ ∀ base : Heap, K.In base -> base.Ns mainGlobals mg -> BmB mg base -> FnOk l.prog w K mg base CX0 9 fa fd ["_law_script"] (spLaw K) := by
 have e := hfa.symm.trans (mg_of X G a19)
 cases e
 have B : Blt mg := ⟨mg_none_of X G z_enumerate, mg_none_of X G z_len, mg_none_of X G z_list, mg_none_of X G z_range, mg_none_of X G z_set, mg_none_of X G z_sorted, mg_none_of X G z_tuple, mg_none_of X G z_zip⟩
 obtain ⟨a1, _, F1⟩ := q1
 obtain ⟨a2, _, F2⟩ := q2
 obtain ⟨a3, _, F3⟩ := q3
 obtain ⟨a4, ⟨_, G4⟩, h4⟩ := q4
 obtain ⟨a5, _, F5⟩ := q5
 obtain ⟨a6, _, F6⟩ := q6
 obtain ⟨a7, ⟨_, G7⟩, h7⟩ := q7
 obtain ⟨a8, _, F8⟩ := q8
 obtain ⟨a9, _, F9⟩ := q9
 obtain ⟨a10, _, F10⟩ := q10
 obtain ⟨a11, _, F11⟩ := q11
 obtain ⟨a12, _, F12⟩ := q12
 obtain ⟨a13, _, F13⟩ := q13
 obtain ⟨a14, _, F14⟩ := q14
 obtain ⟨a15, _, F15⟩ := q15
 obtain ⟨a16, _, F16⟩ := q16
 obtain ⟨a17, _, F17⟩ := q17
 obtain ⟨a18, _, F18⟩ := q18
 have b1 := F1.binds (ps := ["rows"]) fun _ _ _ _ _ _ us hl => by obtain ⟨u0, rfl⟩ := len1 hl; rfl
 have b2 := F2.binds (ps := ["rows", "place"]) fun _ _ _ _ _ _ us hl => by obtain ⟨u0, u1, rfl⟩ := len2 hl; rfl
 have b3 := F3.binds (ps := ["rows", "place"]) fun _ _ _ _ _ _ us hl => by obtain ⟨u0, u1, rfl⟩ := len2 hl; rfl
 have F4 := G4.fn
 have b4 := F4.binds (ps := ["rows"]) fun _ _ _ _ _ _ us hl => by obtain ⟨u0, rfl⟩ := len1 hl; rfl
 have b5 := F5.binds (ps := ["one", "other"]) fun _ _ _ _ _ _ us hl => by obtain ⟨u0, u1, rfl⟩ := len2 hl; rfl
 have b6 := F6.binds (ps := ["rows", "places"]) fun _ _ _ _ _ _ us hl => by obtain ⟨u0, u1, rfl⟩ := len2 hl; rfl
 have F7 := G7.fn
 have b7 := F7.binds (ps := ["rows", "places", "words"]) fun _ _ _ _ _ _ us hl => by obtain ⟨u0, u1, u2, rfl⟩ := len3 hl; rfl
 have b8 := F8.binds (ps := ["rows", "places", "is_ahead"]) fun _ _ _ _ _ _ us hl => by obtain ⟨u0, u1, u2, rfl⟩ := len3 hl; rfl
 have b9 := F9.binds (ps := ["rows", "place"]) fun _ _ _ _ _ _ us hl => by obtain ⟨u0, u1, rfl⟩ := len2 hl; rfl
 have b10 := F10.binds (ps := ["words"]) fun _ _ _ _ _ _ us hl => by obtain ⟨u0, rfl⟩ := len1 hl; rfl
 have b11 := F11.binds (ps := ["rows", "places"]) fun _ _ _ _ _ _ us hl => by obtain ⟨u0, u1, rfl⟩ := len2 hl; rfl
 have b12 := F12.binds (ps := ["rows"]) fun _ _ _ _ _ _ us hl => by obtain ⟨u0, rfl⟩ := len1 hl; rfl
 have b13 := F13.binds (ps := ["_law_script", "_law_k"]) fun _ _ _ _ _ _ us hl => by obtain ⟨u0, u1, rfl⟩ := len2 hl; rfl
 have b14 := F14.binds (ps := ["_law_cell", "_law_k", "_law_many"]) fun _ _ _ _ _ _ us hl => by obtain ⟨u0, u1, u2, rfl⟩ := len3 hl; rfl
 have b15 := F15.binds (ps := ["_law_one", "_law_other"]) fun _ _ _ _ _ _ us hl => by obtain ⟨u0, u1, rfl⟩ := len2 hl; rfl
 have b16 := F16.binds (ps := ["_law_words_here", "_law_cells"]) fun _ _ _ _ _ _ us hl => by obtain ⟨u0, u1, rfl⟩ := len2 hl; rfl
 have b17 := F17.binds (ps := ["_law_rows_here"]) fun _ _ _ _ _ _ us hl => by obtain ⟨u0, rfl⟩ := len1 hl; rfl
 have b18 := F18.binds (ps := ["_law_rows_here", "_law_one", "_law_other"]) fun _ _ _ _ _ _ us hl => by obtain ⟨u0, u1, u2, rfl⟩ := len3 hl; rfl
 have F19 := fun_mk (st := s_law) l19 c19 k19
 refine ⟨PySem.W.fnOf "law" "law" (defArgs s_law) (defBody s_law) (defScope s_law) .none kV19 dc19 pm19 an19 cd19 ct19, fun s v => .of_eq rfl, fun base _ _ bm => ?_⟩
 have D1 := ok_all_places (P := l.prog) (w := w) (base := base) F1 (mg_of X G a1) b1 B
 have D2 := ok_end_of (P := l.prog) (w := w) (base := base) F2 (mg_of X G a2) b2 B
 have D3 := ok_order_of (P := l.prog) (w := w) (base := base) F3 (mg_of X G a3) b3 B D2
 have L4 : LamK K mg base cc4 37 "ends.<locals>.<lambda>" := ⟨h4, by decide, by decide, bm, by decide⟩
 have D4 := ok_ends (P := l.prog) (w := w) (base := base) G4 L4 (mg_of X G a4) b4 B D1 D3
 have D5 := ok_in_common (P := l.prog) (w := w) (base := base) F5 (mg_of X G a5) b5 B
 have D6 := ok_shares (P := l.prog) (w := w) (base := base) F6 (mg_of X G a6) b6 B D2 D5
 have L7 : LamK K mg base cc7 58 "stretch_of.<locals>.<lambda>" := ⟨h7, by decide, by decide, bm, by decide⟩
 have D7 := ok_stretch_of (P := l.prog) (w := w) (base := base) G7 L7 (mg_of X G a7) b7 B F8 (mg_of X G a8) b8 (fun base => ok_end_of (P := l.prog) (w := w) (base := base) F2 (mg_of X G a2) b2 B)
 have D9 := ok_word_ahead (P := l.prog) (w := w) (base := base) F9 (mg_of X G a9) b9 B
 have D10 := ok_is_one_word (P := l.prog) (w := w) (base := base) F10 (mg_of X G a10) b10 B
 have D11 := ok_parting_stretches (P := l.prog) (w := w) (base := base) F11 (mg_of X G a11) b11 B D6 D2
 have D12 := ok_full_stretches (P := l.prog) (w := w) (base := base) F12 (mg_of X G a12) b12 B D4 D11 D7 D10 D9
 have D13 := ok_law_cell_at (P := l.prog) (w := w) (base := base) F13 (mg_of X G a13) b13 B
 have D14 := ok_law_part (P := l.prog) (w := w) (base := base) F14 (mg_of X G a14) b14 B
 have D15 := ok_law_words (P := l.prog) (w := w) (base := base) F15 (mg_of X G a15) b15 B D14
 have D16 := ok_law_rows (P := l.prog) (w := w) (base := base) F16 (mg_of X G a16) b16 B D14
 have D17 := ok_law_all_places (P := l.prog) (w := w) (base := base) F17 (mg_of X G a17) b17 B
 have D18 := ok_law_drawn_out (P := l.prog) (w := w) (base := base) F18 (mg_of X G a18) b18 B
 exact law_of (ok_law F19 B D13 D15 D16 D12 D17 D18)
end Z
open PySem PySem.W PyProof.Rows
set_option maxRecDepth 100000 in
set_option maxHeartbeats 0 in
theorem PySem.Challenge.cw_besidewords_k24_none_lacks_holds : PySem.Challenge.rw_besidewords_k24_none_lacks.Holds := by
 w_on; o_law; k_head; (case hw => w_witness2)
 k_fill
 refine Y.walkT (l := PySem.Challenge.rw_besidewords_k24_none_lacks) (k := 9) (x := "_law_script") rfl rfl ⟨rfl, by decide, by decide⟩ (fun w h Y => km_in_of Y) ?T ?F
 case T =>
  intro w h Yk q hq
  rcases (by simpa [Y.Tabs.T] using hq : q = ((37 : Addr), ("ends.<locals>.<lambda>" : Str)) \/ q = ((58 : Addr), ("stretch_of.<locals>.<lambda>" : Str))) with rfl | rfl
  . refine Y.tabs_ok (c := 41) Yk ?x1 ?x2 ?x3
    (case x1 => simp)
    (case x2 => kernel_rfl)
    (case x3 => kernel_rfl)
  . refine Y.tabs_ok (c := 62) Yk ?x1 ?x2 ?x3
    (case x1 => simp)
    (case x2 => kernel_rfl)
    (case x3 => kernel_rfl)
 case F =>
  intro w mg fa h KX G hmg
  refine' Z.all_mk KX G hmg (Z.fk ?a1 ?l1 ?c1 ?k1) (Z.fk ?a2 ?l2 ?c2 ?k2) (Z.fk ?a3 ?l3 ?c3 ?k3) (Z.fkc ?a4 ?l4 ?c4 ?k4 ?h4) (Z.fk ?a5 ?l5 ?c5 ?k5) (Z.fk ?a6 ?l6 ?c6 ?k6) (Z.fkc ?a7 ?l7 ?c7 ?k7 ?h7) (Z.fk ?a8 ?l8 ?c8 ?k8) (Z.fk ?a9 ?l9 ?c9 ?k9) (Z.fk ?a10 ?l10 ?c10 ?k10) (Z.fk ?a11 ?l11 ?c11 ?k11) (Z.fk ?a12 ?l12 ?c12 ?k12) (Z.fk ?a13 ?l13 ?c13 ?k13) (Z.fk ?a14 ?l14 ?c14 ?k14) (Z.fk ?a15 ?l15 ?c15 ?k15) (Z.fk ?a16 ?l16 ?c16 ?k16) (Z.fk ?a17 ?l17 ?c17 ?k17) (Z.fk ?a18 ?l18 ?c18 ?k18) ?a19 ?l19 ?c19 ?k19 ?z_enumerate ?z_len ?z_list ?z_range ?z_set ?z_sorted ?z_tuple ?z_zip
  (case a1|l1|c1|k1|a2|l2|c2|k2|a3|l3|c3|k3|a4|l4|c4|k4|a5|l5|c5|k5|a6|l6|c6|k6|a7|l7|c7|k7|a8|l8|c8|k8|a9|l9|c9|k9|a10|l10|c10|k10|a11|l11|c11|k11|a12|l12|c12|k12|a13|l13|c13|k13|a14|l14|c14|k14|a15|l15|c15|k15|a16|l16|c16|k16|a17|l17|c17|k17|a18|l18|c18|k18|a19|l19|c19|k19|z_enumerate|z_len|z_list|z_range|z_set|z_sorted|z_tuple|z_zip => k_is)
  (case h4|h7 => kernel_rfl)
