import PyProof.Rows.All
import Wide.All
import OpenK.AllK
import Wide.FinOn
import Lean
import PyProof.EqAt
import PyProof.EqKinds
import PyProof.TupleCall
import PySem.SetOps
import PyProof.SetScanFacts
import PyProof.FactsAll.dict
import PyProof.Rows.SeqMore
import PyProof.Rows.StrCase
import PyProof.ToksMono
import PyProof.AutoIntG2
import PyProof.DictIter
import PyProof.DictWalks
import KE.KItemsList
import PyProof.SetKind
import PyProof.Rows.SetFrom
import PyProof.ListNew
import PyProof.SetNew
import PyProof.SetRoads
import PyProof.FactsAll.set_1
import PyProof.TupleKey
import PyProof.IsRules
import PyProof.AutoListH
import PyProof.FactsAll.list_2
import PyProof.Rows.StrCut
import PyProof.FactsAll.tuple_3
import PyProof.StrOps2
import KE.KDictLaws
import PyProof.DictItems
import KE.KPairComp
import KE.KDictList
import PySem.Challenge.RW_besidewords_k61_put_and_taken
section
open PySem
abbrev GI:=List (List Str)
abbrev GJ:=Value -> Shared -> Prop
abbrev GL:=Array (Option Value)
abbrev GN:=Str -> Option Value
abbrev GO:=List Value
abbrev GP:=Array Value
abbrev GQ:=Option Addr
abbrev GR:=List (Addr × Obj)
abbrev GV:=List Str
abbrev GX:=List Nat
abbrev GZ:=Nat × Nat
end
open List (length_map mem_map getElem?_map map_map mem_cons map_append size_toArray map_cons mem_append getElem?_append_left mem_of_getElem? mem_cons_of_mem length_take take_length take_add_one mem_cons_self mem_append_right append_nil map_congr_left getElem_mem range_succ length_range nodup_cons getElem?_append_right cons_append length_cons lookup_cons not_mem_nil find?_cons any_eq_true map_nil length_filter_le take_append_drop mem_filter length_drop filter_map filter_append flatten_append)
open PySem.Heap (lt_size get?_push_of_some get?_push_size)
open PySem.W (Frag keepIn codeHdIn kla_obj envX mg_of mg_none_of)
set_option Elab.async false
set_option linter.all false
set_option maxRecDepth 100000
namespace L2
open PySem PySem.Spec PyProof.Rows
abbrev Key := Sum Int Str
def kC : Key -> Value -> Bool
 | .inl k, v => Value.isInt k v
 | .inr x, v => Value.isStrOf x v
def Fb (w : World) : Key -> Int
 | .inl k => hashInt k
 | .inr x => hashStr w x
theorem bq : ∀ {k : Key} {v : Value}, kC k v = true -> (∃ i t, k = Sum.inl i /\ v = Value.int i t) \/ (∃ x t, k = Sum.inr x /\ v = Value.str x t)
 | .inl i, v, h => by
  obtain ⟨t, e⟩ := Value.isInt_shape (k := i) (v := v) h;exact .inl ⟨i, t, rfl, e⟩
 | .inr x, v, h => by
  obtain ⟨t, e⟩ := Value.isStrOf_shape (x := x) (v := v) h;exact .inr ⟨x, t, rfl, e⟩
theorem wu (i : Int) (t : Tok) : kC (.inl i) (.int i t) = true := by simp [kC, Value.isInt]
theorem uU (x : Str) (t : Tok) : kC (.inr x) (.str x t) = true := by simp [kC, Value.isStrOf]
theorem B3 (a b : Int) : decide ((Sum.inl a : Key) = Sum.inl b) = (a == b) := by
 by_cases e : a = b
 . subst e; simp
 . have h : ¬ (Sum.inl a : Key) = Sum.inl b := fun q => e (Sum.inl.inj q);rw [decide_eq_false h];exact (beq_eq_false_iff_ne.mpr e).symm
theorem Ci (a b : Str) : decide ((Sum.inr a : Key) = Sum.inr b) = decide (a = b) := by
 by_cases e : a = b
 . subst e; simp
 . have h : ¬ (Sum.inr a : Key) = Sum.inr b := fun q => e (Sum.inr.inj q);rw [decide_eq_false h, decide_eq_false e]
theorem B8 (a : Int) (b : Str) : decide ((Sum.inl a : Key) = Sum.inr b) = false := decide_eq_false (fun q => nomatch q)
theorem Cz (a : Str) (b : Int) : decide ((Sum.inr a : Key) = Sum.inl b) = false := decide_eq_false (fun q => nomatch q)
def bA (prog : Program) (w : World) : PySem.KeyKind prog w Key where
 is := kC
 hash := Fb w
 inj := fun v a b ha hb => by
  rcases bq ha with ⟨i, t, rfl, rfl⟩ | ⟨x, t, rfl, rfl⟩
  . rcases bq hb with ⟨j, u, rfl, e⟩ | ⟨y, u, rfl, e⟩
    . injection e with e1 _; rw [e1]
    . exact nomatch e
  . rcases bq hb with ⟨j, u, rfl, e⟩ | ⟨y, u, rfl, e⟩
    . exact nomatch e
    . injection e with e1 _; rw [e1]
 byValue := fun k v h => by
  rcases bq h with ⟨i, t, rfl, rfl⟩ | ⟨x, t, rfl, rfl⟩ <;> rfl
 pyHash := fun hv h => by
  rcases bq hv with ⟨i, t, rfl, rfl⟩ | ⟨x, t, rfl, rfl⟩
  . exact wpAny_pyHash_int h
  . exact wpAny_pyHash_str h
 eqBool := fun hu hv h => by
  rcases bq hu with ⟨i, t, rfl, rfl⟩ | ⟨x, t, rfl, rfl⟩
  . rcases bq hv with ⟨j, u, rfl, rfl⟩ | ⟨y, u, rfl, rfl⟩
    . rw [B3] at h; exact wpAny_eqBool_int h
    . rw [B8] at h; exact SeqAt.EqAt.int_str i t y u _ _ _ _ h
  . rcases bq hv with ⟨j, u, rfl, rfl⟩ | ⟨y, u, rfl, rfl⟩
    . rw [Cz] at h; exact SeqAt.EqAt.str_int x t j u _ _ _ _ h
    . rw [Ci] at h; exact wpAny_eqBool_str h
 «strs» := fun k x t v h => by
  rcases bq h with ⟨i, u, rfl, e⟩ | ⟨y, u, rfl, e⟩
  . exact nomatch e
  . injection e with e1 _;subst e1;cases v <;> rfl
theorem tf (prog : Program) (w : World) (k : Key) (v : Value) : (bA prog w).is k v = kC k v := rfl
theorem qD (prog : Program) (w : World) (i : Int) (t : Tok) : (bA prog w).is (.inl i) (.int i t) = true := wu i t
theorem qj (prog : Program) (w : World) (x : Str) (t : Tok) : (bA prog w).is (.inr x) (.str x t) = true := uU x t
inductive V where
 | non | bl (b : Bool) | int (i : Int) | str (x : Str) | byt (b : Array UInt8) | flt (b : UInt64) | ref (a : Addr) | ty (n : String)
 deriving DecidableEq
def RelV : V -> Value -> Prop
 | .non, u => u = Value.none
 | .bl b, u => u = Value.bool b
 | .int i, u => ∃ t, u = Value.int i t
 | .str x, u => ∃ t, u = Value.str x t
 | .byt b, u => ∃ t, u = Value.bytes b t
 | .flt b, u => ∃ t, u = Value.float b t
 | .ref a, u => u = Value.ref a
 | .ty n, u => u = Value.type n
abbrev Vals : List V -> List Value -> Prop := Paired RelV
theorem Vals.length {xs : List V} {us : GO} (r : Vals xs us) : xs.length = us.length := Paired.length r
theorem Vals.get : ∀ {xs : List V} {us : GO} {i : Nat} {x : V}, Vals xs us -> xs[i]? = some x -> ∃ u, us[i]? = some u /\ RelV x u
 | _, _, _, _, .nil, e => by simp at e
 | _, _, 0, _, .cons r _, e => by simp at e; subst e; exact ⟨_, rfl, r⟩
 | _, _, i + 1, x, .cons _ t, e => by
  obtain ⟨u, h1, h2⟩ := Vals.get (i := i) (x := x) t (by simpa using e);exact ⟨u, by simpa using h1, h2⟩
theorem Vals.append : ∀ {xs ys : List V} {us ws : GO}, Vals xs us -> Vals ys ws -> Vals (xs ++ ys) (us ++ ws)
 | _, _, _, _, .nil, s => s
 | _, _, _, _, .cons r t, s => .cons r (Vals.append t s)
theorem Vals.take : ∀ {xs : List V} {us : GO} (n : Nat), Vals xs us -> Vals (xs.take n) (us.take n)
 | _, _, 0, _ => .nil
 | _, _, _ + 1, .nil => .nil
 | _, _, n + 1, .cons r t => .cons r (Vals.take n t)
theorem Vals.drop : ∀ {xs : List V} {us : GO} (n : Nat), Vals xs us -> Vals (xs.drop n) (us.drop n)
 | _, _, 0, r => r
 | _, _, _ + 1, .nil => .nil
 | _, _, n + 1, .cons _ t => Vals.drop n t
def fX : Option V -> Option Value -> Prop
 | some v, some u => RelV v u
 | none, none => True
 | _, _ => False
def KV {κ : Type} : List (κ × V) -> List (κ × Value) -> Prop := Paired fun (p : κ × V) (q : κ × Value) => p.1 = q.1 /\ RelV p.2 q.2
def kV : Key -> V
 | .inl i => .int i
 | .inr x => .str x
inductive HO where
 | lst (xs : List V)
 | tup (xs : List V)
 | dK (kvs : List (Key × V)) | dT (kvs : List (List Key × V))
 | set (S : Int -> Bool) (n : Nat)
 | ins (C dx : Addr) (fs : List (Str × V))
 | own (x : Addr)
 | xd (fs : List (Str × V))
 | met (f x : Addr)
 | rng (lo hi : Int)
 | frz (o : Obj) (u : HO)
 | tbl (ps : GP)
 | ext (φ : Heap -> Prop)
abbrev Hp := Addr -> Option HO
def upd (H : Hp) (a : Addr) (o : HO) : Hp := fun b => if b = a then some o else H b
theorem ae {H : Hp} {a : Addr} {o : HO} : upd H a o a = some o := by unfold upd; rw [if_pos rfl]
theorem aa {H : Hp} {a b : Addr} {o : HO} (h : b ≠ a) : upd H a o b = H b := by unfold upd; rw [if_neg h]
theorem dF {H : Hp} {a b : Addr} {o u : HO} (h : H a = some o) (h' : H b = some u) (d : o ≠ u) : a ≠ b := by
 intro e; subst e; rw [h] at h'; exact d (Option.some.inj h')
theorem aq {H : Hp} {a b : Addr} {o : HO} (h : H a = some o) (h' : H b = none) : a ≠ b := by
 intro e; subst e; rw [h] at h'; cases h'
section
variable (P : Program) (w : World)
def bz (H : Hp) (h : Heap) (a : Addr) : HO -> Prop
 | .lst xs => xs.length <= sizeLine /\ ∃ (its : GO) (n : Nat), Vals xs its /\ h.get? a = some { cls := .type "list", data := .seq its.toArray n }
 | .tup xs => xs.length <= sizeLine /\ ∃ its : List Value, Vals xs its /\ IsTup h a its.toArray
 | .dK kvs => kvs.length <= sizeLine /\ (a == sysModules) = false /\ ∃ vs, KV kvs vs /\ h.DictOf (bA P w) a vs
 | .dT kvs => kvs.length <= sizeLine /\ (a == sysModules) = false /\ ∃ xs : List (List Key × Addr × Value),
  Paired (fun (p : List Key × V) (q : List Key × Addr × Value) => p.1 = q.1 /\ H q.2.1 = some (.tup (p.1.map kV)) /\ RelV p.2 q.2.2) kvs xs /\
  ∃ o es ep, h.get? a = some o /\ o.ExactDict /\ o.data = .dict es ep /\ es.toList = xs.map (entryOfKey (tupleKind (bA P w))) /\ (xs.map (·.1)).Nodup
 | .set S n => h.SetOf (intKind P w) a S n
 | .ins C dx fs => H dx = some (.own a) /\ fs.length <= 1000 /\ dx ≠ a /\ h.get? a = some (PySem.W.instObj C dx) /\
  ∃ mA, h.Ns1 dx mA /\ (∀ f, fX (fs.lookup f) (mA f)) /\ PySem.Within mA (fs.map (·.1))
 | .own _ => ∃ o, h.get? a = some o
 | .xd fs => ∃ mA, h.Ns1 a mA /\ ∀ f, fX (fs.lookup f) (mA f)
 | .rng lo hi => ∃ t u v, h.get? a = some { cls := .type "range", data := .fields #[.int lo t, .int hi u, .int 1 v] }
 | .frz o u => h.get? a = some o /\ bz H h a u
 | .tbl ps => h.get? a = some { cls := .none, data := .fields ps }
 | .met f x => h.get? a = some (PySem.W.methodObj (.ref f) (.ref x))
 | .ext φ => φ h /\ (∃ o, h.get? a = some o) /\ ∀ h1 h2 : Heap, φ h1 -> (∀ o, h1.get? a = some o -> h2.get? a = some o) -> φ h2
def gv (H : Hp) (h : Heap) : Prop := ∀ a o, H a = some o -> bz P w H h a o
end
section
variable {P : Program} {w : World} {H H' : Hp} {h h' : Heap} {a : Addr} {o : HO}
theorem bz.lt (x : bz P w H h a o) : a < h.objs.size := by
 cases o with
 | lst xs => obtain ⟨_, _, _, _, e⟩ := x; exact lt_size e
 | tup xs => obtain ⟨_, _, _, p⟩ := x; exact p.lt
 | dK kvs => obtain ⟨_, _, _, _, o, _, _, e, _⟩ := x; exact lt_size e
 | dT kvs => obtain ⟨_, _, _, _, o, _, _, e, _⟩ := x; exact lt_size e
 | set S n => obtain ⟨o, _, _, _, e, _⟩ := x; exact lt_size e
 | ins C dx fs => obtain ⟨_, _, _, e, _⟩ := x; exact lt_size e
 | own y => obtain ⟨_, e⟩ := x; exact lt_size e
 | xd fs => obtain ⟨_, ⟨_, _, _, e, _⟩, _⟩ := x; exact lt_size e
 | rng lo hi => obtain ⟨_, _, _, e⟩ := x; exact lt_size e
 | frz ob u => obtain ⟨e, _⟩ := x; exact lt_size e
 | tbl ps => exact lt_size (show h.get? a = some _ from x)
 | met f y => exact lt_size (show h.get? a = some _ from x)
 | ext φ => obtain ⟨_, ⟨_, e⟩, _⟩ := x; exact lt_size e
theorem Paired.CN {α β : Type} {F G : α -> β -> Prop} : ∀ {l₁ : List α} {l₂ : List β}, Paired F l₁ l₂ -> (∀ a b, F a b -> G a b) -> Paired G l₁ l₂
 | _, _, .nil, _ => .nil
 | _, _, .cons r t, f => .cons (f _ _ r) (Paired.CN t f)
theorem bz.jw (x : bz P w H h a o) (k : ∀ b u, (b = a \/ H b = some (.own a)) -> h.get? b = some u -> h'.get? b = some u)
 (ho : ∀ b, H b = some (.own a) -> H' b = some (.own a)) (ht : ∀ b xs, H b = some (.tup xs) -> H' b = some (.tup xs)) : bz P w H' h' a o := by
 induction o with
 | lst xs => obtain ⟨z, its, n, r, e⟩ := x; exact ⟨z, its, n, r, k _ _ (.inl rfl) e⟩
 | tup xs => obtain ⟨z, its, r, ob, e, c⟩ := x; exact ⟨z, its, r, ob, k _ _ (.inl rfl) e, c⟩
 | dK kvs => obtain ⟨z, y, vs, r, ob, es, ep, e, c⟩ := x; exact ⟨z, y, vs, r, ob, es, ep, k _ _ (.inl rfl) e, c⟩
 | dT kvs =>
  obtain ⟨z, y, xs, r, ob, es, ep, e, c⟩ := x;exact ⟨z, y, xs, Paired.CN r fun p q z => ⟨z.1, ht _ _ z.2.1, z.2.2⟩, ob, es, ep, k _ _ (.inl rfl) e, c⟩
 | set S n => obtain ⟨ob, es, ep, t, e, c⟩ := x; exact ⟨ob, es, ep, t, k _ _ (.inl rfl) e, c⟩
 | ins C dx fs =>
  obtain ⟨d, z, ne, e, mA, ⟨od, es, ep, e2, c⟩, r⟩ := x;exact ⟨ho _ d, z, ne, k _ _ (.inl rfl) e, mA, ⟨od, es, ep, k _ _ (.inr d) e2, c⟩, r⟩
 | own y => obtain ⟨ob, e⟩ := x; exact ⟨ob, k _ _ (.inl rfl) e⟩
 | xd fs => obtain ⟨mA, ⟨od, es, ep, e, c⟩, r⟩ := x; exact ⟨mA, ⟨od, es, ep, k _ _ (.inl rfl) e, c⟩, r⟩
 | rng lo hi => obtain ⟨t, u, v, e⟩ := x; exact ⟨t, u, v, k _ _ (.inl rfl) e⟩
 | frz ob u ih => obtain ⟨e, q⟩ := x; exact ⟨k _ _ (.inl rfl) e, ih q⟩
 | tbl ps =>
  have e : h.get? a = some { cls := .none, data := .fields ps } := x;show h'.get? a = some { cls := .none, data := .fields ps };exact k a _ (.inl rfl) e
 | met f y =>
  have e : h.get? a = some (PySem.W.methodObj (.ref f) (.ref y)) := x;show h'.get? a = some (PySem.W.methodObj (.ref f) (.ref y));exact k a _ (.inl rfl) e
 | ext φ => obtain ⟨p, ⟨o, e⟩, st⟩ := x; exact ⟨st _ _ p fun o q => k _ _ (.inl rfl) q, ⟨o, k _ _ (.inl rfl) e⟩, st⟩
theorem gv.lt (x : gv P w H h) (e : H a = some o) : a < h.objs.size := (x a o e).lt
theorem gv.fresh (x : gv P w H h) (e : h.objs.size <= a) : H a = none := by
 cases q : H a with
 | none => rfl
 | some u => exact absurd (Nat.lt_of_lt_of_le (x.lt q) e) (Nat.lt_irrefl _)
theorem gv.kept (x : gv P w H h) (k : ∀ b u, h.get? b = some u -> h'.get? b = some u) : gv P w H h' := fun a o e =>
 (x a o e).jw (fun b u _ q => k b u q) (fun _ q => q) fun _ _ q => q
theorem gv.laid (x : gv P w H h) (k : ∀ b u, h.get? b = some u -> h'.get? b = some u) (hp : h.objs.size <= a) (new : bz P w (upd H a o) h' a o) : gv P w (upd H a o) h' := fun b u e => by
 have hn := x.fresh hp;by_cases hb : b = a
 . subst hb; rw [ae] at e; cases e; exact new
 . rw [aa hb] at e;exact (x b u e).jw (fun c v _ q => k c v q) (fun c q => by rw [aa (aq q hn)]; exact q) fun c xs q => by rw [aa (aq q hn)]; exact q
end
def Rd (H : Hp) (a : Addr) (u : HO) : Prop := H a = some u \/ ∃ o, H a = some (.frz o u)
theorem Rd.ok {P : Program} {w : World} {H : Hp} {h : Heap} {a : Addr} {u : HO} (r : Rd H a u) (x : gv P w H h) : bz P w H h a u := by
 rcases r with r | ⟨o, r⟩
 . exact x a u r
 . obtain ⟨_, q⟩ := x a _ r;exact q
def Eh : Option HO -> Prop
 | some (.lst _) => True
 | some (.dK _) => True
 | some (.dT _) => True
 | some (.set _ _) => True
 | some (.ins _ _ _) => True
 | some (.ext _) => True
 | _ => False
section
variable {P : Program} {w : World} {H : Hp} {h h' : Heap} {x e : Addr} {o' : HO}
theorem gv.write (ok : gv P w H h) (mu : Eh (H x)) (he : e = x \/ H e = some (.own x)) (k : ∀ b u, b ≠ e -> h.get? b = some u -> h'.get? b = some u) (heo : ∃ u, h'.get? e = some u)
 (new : bz P w (upd H x o') h' x o') : gv P w (upd H x o') h' := fun b u q => by
 have nown : ∀ c y, H c = some (.own y) -> c ≠ x := fun c y r z => by subst z; rw [r] at mu; exact mu
 have vj : ∀ c xs, H c = some (.tup xs) -> c ≠ x := fun c xs r z => by subst z; rw [r] at mu; exact mu
 by_cases hb : b = x
 . subst hb; rw [ae] at q; cases q; exact new
 . rw [aa hb] at q;by_cases hbe : b = e
   . have q' : H b = some (.own x) := by
      rcases he with z | z
      . exact absurd (hbe.trans z) hb
      . rw [hbe]; exact z
     rw [q] at q'; cases q';obtain ⟨v, hv⟩ := heo;exact ⟨v, by rw [hbe]; exact hv⟩
   . refine (ok b u q).jw (fun c v hc r => k c v ?_ r) (fun c r => by rw [aa (nown c b r)]; exact r) fun c xs r => by rw [aa (vj c xs r)]; exact r
     rcases hc with rfl | hc
     . exact hbe
     . rintro rfl;rcases he with z | z
       . exact nown c b hc z
       . rw [hc] at z; cases z; exact hb rfl
end
structure Un (fs ex : List Addr) (H H' : Hp) (h h' : Heap) : Prop where
 keep : ∀ b o, h.get? b = some o -> H b = none -> b ∉ fs -> b ∉ ex -> h'.get? b = some o
 slot : ∀ b o, h.get? b = some o -> H b = none -> b ∈ fs -> b ∉ ex -> ∃ sl, h'.get? b = some { o with slots := sl }
 free : ∀ b o, h.get? b = some o -> H b = none -> b ∉ ex -> H' b = none
 there : ∀ b o, h.get? b = some o -> b ∉ ex -> ∃ o', h'.get? b = some o'
 tups : ∀ b xs, H b = some (.tup xs) -> H' b = some (.tup xs)
 frzs : ∀ b o u, H b = some (.frz o u) -> H' b = some (.frz o u)
 tbls : ∀ b ps, H b = some (.tbl ps) -> ∃ more, H' b = some (.tbl (ps ++ more))
section
variable {fs fs' ex ex' : List Addr} {H H1 H2 : Hp} {h h1 h2 h' : Heap} {a x e : Addr} {o : HO}
theorem Un.any (u : Un fs ex H H1 h h1) {b : Addr} {ob : Obj} (q : h.get? b = some ob) (n : H b = none) (hx : b ∉ ex) : ∃ sl, h1.get? b = some { ob with slots := sl } := by
 by_cases hb : b ∈ fs
 . exact u.slot b ob q n hb hx
 . exact ⟨ob.slots, u.keep b ob q n hb hx⟩
theorem Un.kept (k : ∀ b u, h.get? b = some u -> h'.get? b = some u) : Un fs ex H H h h' :=
 ⟨fun b ob q _ _ _ => k b ob q, fun b ob q _ _ _ => ⟨ob.slots, k b ob q⟩, fun _ _ _ n _ => n, fun b ob q _ => ⟨ob, k b ob q⟩, fun _ _ q => q, fun _ _ _ q => q, fun _ ps q => ⟨#[], by rw [q]; simp⟩⟩
theorem Un.refl : Un fs ex H H h h := Un.kept fun _ _ q => q
theorem Un.laid (k : ∀ b u, h.get? b = some u -> h'.get? b = some u) (hp : h.objs.size <= a) (hn : H a = none) : Un fs ex H (upd H a o) h h' where
 keep := fun b u q _ _ _ => k b u q
 slot := fun b u q _ _ _ => ⟨u.slots, k b u q⟩
 free := fun b u q n _ => by rw [aa (Nat.ne_of_lt (Nat.lt_of_lt_of_le (lt_size q) hp))]; exact n
 there := fun b u q _ => ⟨u, k b u q⟩
 tups := fun b xs q => by rw [aa (aq q hn)]; exact q
 frzs := fun b u xs q => by rw [aa (aq q hn)]; exact q
 tbls := fun b ps q => ⟨#[], by rw [aa (aq q hn), q]; simp⟩
theorem Un.write (mu : Eh (H x)) (he : e = x \/ H e = some (.own x)) (k : ∀ b u, b ≠ e -> h.get? b = some u -> h'.get? b = some u) (heo : ∃ u, h'.get? e = some u) : Un fs ex H (upd H x o) h h' := by
 have hx : ∀ b, H b = none -> b ≠ x := fun b n z => by subst z; rw [n] at mu; exact mu
 have hb : ∀ b, H b = none -> b ≠ e := fun b n z => by
  subst z;rcases he with r | r
  . exact hx b n r
  . rw [n] at r; cases r
 have hm : ∀ b u, H b = some u -> ¬ Eh (some u) -> b ≠ x := fun b u q nm z => by subst z; rw [q] at mu; exact nm mu
 refine ⟨fun b u q n _ _ => k b u (hb b n) q, fun b u q n _ _ => ⟨u.slots, k b u (hb b n) q⟩, fun b u q n _ => by rw [aa (hx b n)]; exact n, fun b u q _ => ?_,
  fun b xs q => by rw [aa (hm b _ q fun z => z)]; exact q, fun b u xs q => by rw [aa (hm b _ q fun z => z)]; exact q, fun b ps q => ⟨#[], by rw [aa (hm b _ q fun z => z), q]; simp⟩⟩
 by_cases hbe : b = e
 . subst hbe; exact heo
 . exact ⟨u, k b u hbe q⟩
end
def ER (h : Heap) (H : Hp) : List Addr := (List.range h.objs.size).filter fun a => (H a).isSome
def mU (h : Heap) (H : Hp) : Heap := PySem.W.hideAll h (ER h H)
theorem vB (h : Heap) (H : Hp) : (mU h H).objs.size = h.objs.size := PySem.W.hideAll_size _ _
theorem xp {h : Heap} {H : Hp} {b : Addr} {o : Obj} (e : h.get? b = some o) (n : H b = none) : (mU h H).get? b = some o :=
 PySem.W.hideAll_get _ e fun hm => by
  have q : (H b).isSome = true := (mem_filter.mp hm).2;rw [n] at q; simp at q
theorem AL {h : Heap} {H : Hp} {b : Addr} {o : Obj} (e : (mU h H).get? b = some o) : h.get? b = some o /\ H b = none := by
 have e' : h.get? b = some o := PySem.W.of_hideAll (ER h H) e;refine ⟨e', ?_⟩
 cases q : H b with
 | none => rfl
 | some x =>
  have hm : b ∈ ER h H := mem_filter.mpr ⟨List.mem_range.mpr (lt_size e'), by simp [q]⟩;have z : (mU h H).get? b = none := PySem.W.hideAll_none (ER h H) hm;rw [z] at e; cases e
def Au (g h : Heap) (L : Addr) : List (Addr × Obj) := (List.range h.objs.size).filterMap fun a => if a = L \/ (g.get? a).isSome = true then none else (h.get? a).map fun o => (a, o)
def rest (g h : Heap) (L d : Addr) : List (Addr × Obj) := (Au g h L).filter fun p => decide (p.1 ≠ d)
structure Mod (K : Frag) (mg : GN) (base : Heap) : Prop where
 kin : K.In base
 glob : base.Ns mainGlobals mg
 blt : ∃ mb, base.Ns builtinsNs mb /\ ∀ x : Str, x ≠ "__name__" -> mb x = bootBuiltins x
 nolimit : base.NoLimit
structure Cx where
 prog : Program
 w : World
 K : Frag
 mg : Str -> Option Value
 base : Heap
 A : Around
 N : List Str
 s₀ : Shared
 H₀ : Hp
 env : Env
 outer : List Env
 stack : List Env
 ex : List Addr
 fn : Str -> Bool
 calm : Bool
 pn : List (Addr × Obj)
 xe : Value -> Shared -> Prop
def wy (l : List Env) : List Addr := l.filterMap (·.frame)
abbrev Cx.fs (X : Cx) : List Addr := wy X.outer
def kb (sc : Scope) (x : Str) : Prop := sc.names.lookup x = some .local \/ sc.names.lookup x = some .cell \/ sc.names.lookup x = some .free
def Loc (sc : Scope) (x : Str) : Prop := sc.names.lookup x = some .local \/ sc.names.lookup x = some .cell
def Look (env : Env) (h : Heap) (m : GN) (x : Str) (u : Value) : Prop :=
 (env.kindOf x = some .local /\ m x = some u) \/ ((env.kindOf x = some .cell \/ env.kindOf x = some .free) /\ ∃ c, env.cells.lookup x = some c /\ h.IsCell c (some u))
structure Cx.Ok (X : Cx) : Prop where
 mod : Mod X.K X.mg X.base
 kind : X.env.scope.kind = .function
 glob : X.env.globals = mainGlobals
 blt : X.env.builtins = builtinsNs
 above : X.s₀.heap.objs.size <= X.env.locals
 inj : ∀ x y c, X.env.cells.lookup x = some c -> X.env.cells.lookup y = some c -> x = y
 has : ∀ x, (X.env.kindOf x = some .cell \/ X.env.kindOf x = some .free) -> ∃ c, X.env.cells.lookup x = some c
 cab : ∀ x c, X.fn x = true -> X.env.cells.lookup x = some c -> X.s₀.heap.objs.size <= c
 hd : X.calm = true -> X.A.handled = none
 frames : X.A.frames = some X.stack
 stk : X.stack = X.outer \/ (X.stack = X.env :: X.outer /\ X.env.frame = some X.env.locals)
 exf : ∀ b ∈ X.ex, b ≠ X.env.locals /\ ∀ x c, X.env.cells.lookup x = some c -> c ≠ b
 bs : ∀ b o, X.base.get? b = some o -> X.s₀.heap.get? b = some o /\ X.H₀ b = none
 bsz : X.base.objs.size <= X.s₀.heap.objs.size
 noex : ∀ b o, X.base.get? b = some o -> b ∉ X.ex
 exfs : ∀ b ∈ X.ex, b ∉ X.fs
 gX : X.s₀.heap.FunFrames X.base X.outer
 frf : ∀ b ∈ X.fs, X.H₀ b = none
structure Inv (X : Cx) (pins : GR) (σ : List (Option V)) (H : Hp) (s : Shared) : Prop where
 ok : X.Ok
 os : s.os = X.s₀.os
 bare : AllBare s.gens
 base : Un X.fs X.ex X.H₀ H X.s₀.heap s.heap
 loc : ∃ m, s.heap.Ns X.env.locals m /\ ∀ (i : Nat) (x : Str) (v : V), X.N[i]? = some x -> σ[i]? = some (some v) -> kb X.env.scope x -> ∃ u, RelV v u /\ Look X.env s.heap m x u
 cell : ∀ x c, X.env.cells.lookup x = some c -> ∃ v, s.heap.IsCell c v
 free : H X.env.locals = none
 freeC : ∀ x c, X.env.cells.lookup x = some c -> H c = none
 pin : ∀ p ∈ X.pn ++ pins, s.heap.get? p.1 = some p.2 /\ H p.1 = none /\ p.1 ≠ X.env.locals /\ p.1 ∉ X.fs /\ ∀ v, p.2.data ≠ .cell v
 hok : gv X.prog X.w H s.heap
 len : σ.length = X.N.length
section
variable {X : Cx} {pins : GR} {σ : List (Option V)} {H H' : Hp} {s : Shared} {h' : Heap}
theorem Cx.Ok.Fo (ok : X.Ok) {b : Addr} {o : Obj} (e : X.base.get? b = some o) : b ∉ X.fs := fun hb => by
 have := (ok.gX.mem hb).1;rw [e] at this; cases this
theorem Inv.bs (I : Inv X pins σ H s) : ∀ b o, X.base.get? b = some o -> s.heap.get? b = some o /\ H b = none := fun b o e =>
 ⟨I.base.keep b o (I.ok.bs b o e).1 (I.ok.bs b o e).2 (I.ok.Fo e) (I.ok.noex b o e), I.base.free b o (I.ok.bs b o e).1 (I.ok.bs b o e).2 (I.ok.noex b o e)⟩
theorem Inv.bk (I : Inv X pins σ H s) : ∀ b o, X.base.get? b = some o -> s.heap.get? b = some o := fun b o e => (I.bs b o e).1
theorem Inv.mod (I : Inv X pins σ H s) : Mod X.K X.mg X.base := I.ok.mod
theorem Inv.rJ (I : Inv X pins σ H s) : X.K.In s.heap := I.ok.mod.kin.keeps I.bk
theorem Inv.nolimit (I : Inv X pins σ H s) : s.heap.NoLimit := I.ok.mod.nolimit.keeps I.bk
theorem Inv.lt (I : Inv X pins σ H s) : X.env.locals < s.heap.objs.size := let ⟨_, hn, _⟩ := I.loc; hn.lt
theorem Inv.sz (I : Inv X pins σ H s) : X.s₀.heap.objs.size <= s.heap.objs.size := Nat.le_trans I.ok.above (Nat.le_of_lt I.lt)
theorem Inv.E6 (I : Inv X pins σ H s) {a : Addr} (h : s.heap.objs.size <= a) : a ∉ X.fs := fun hb => by
 obtain ⟨_, o, ho, _⟩ := I.ok.gX.mem hb;exact absurd (Nat.lt_of_lt_of_le (lt_size ho) (Nat.le_trans I.sz h)) (Nat.lt_irrefl _)
theorem Inv.CL (I : Inv X pins σ H s) : ∀ x c, X.env.cells.lookup x = some c -> c ≠ X.env.locals := fun x c e z => by
 obtain ⟨v, o, ho, hd⟩ := I.cell x c e;obtain ⟨m, ⟨o', es, ep, ho', hd', _⟩, _⟩ := I.loc;rw [z, ho'] at ho; cases ho; rw [hd'] at hd; cases hd
theorem Inv.gX (I : Inv X pins σ H s) : s.heap.FunFrames X.base X.outer := by
 have all : ∀ (l : List Env), (∀ b ∈ wy l, b ∈ X.fs) -> X.s₀.heap.FunFrames X.base l -> s.heap.FunFrames X.base l := by
  intro l
  induction l with
  | nil => intro _ _; trivial
  | cons env r ih =>
   intro hs hl;obtain ⟨hk, ⟨L, o, hf, hn, ho, hd⟩, hr⟩ := hl;have hL : L ∈ X.fs := hs L (by unfold wy; rw [List.filterMap_cons, hf]; exact mem_cons_self);obtain ⟨sl, e⟩ := I.base.slot L o ho (I.ok.frf L hL) hL fun z => I.ok.exfs L z hL;exact ⟨hk, ⟨L, _, hf, hn, e, hd⟩, ih (fun b hb => hs b (by unfold wy; rw [List.filterMap_cons, hf]; exact mem_cons_of_mem _ hb)) hr⟩
 exact all X.outer (fun _ hb => hb) I.ok.gX
theorem Inv.stack (I : Inv X pins σ H s) : s.heap.FunFrames X.base X.stack := by
 rcases I.ok.stk with e | ⟨e, hf⟩
 . rw [e]; exact I.gX
 . rw [e];obtain ⟨m, hn, _⟩ := I.loc;refine .cons (by rw [I.ok.kind]; decide) hf hn ?_ I.gX;exact Heap.get?_none_of_le (Nat.le_trans I.ok.bsz I.ok.above)
theorem Inv.rK (I : Inv X pins σ H s) : ∀ b ∈ wy X.stack, b ∈ X.env.locals :: X.fs := fun b hb => by
 rcases I.ok.stk with e | ⟨e, hf⟩
 . rw [e] at hb; exact mem_cons_of_mem _ hb
 . rw [e] at hb;unfold wy at hb;rw [List.filterMap_cons, hf] at hb;exact hb
theorem Inv.uT (I : Inv X pins σ H s) : ∀ b ∈ wy X.stack, H b = none := fun b hb => by
 rcases mem_cons.mp (I.rK b hb) with e | hb
 . rw [e]; exact I.free
 . obtain ⟨_, o, ho, _⟩ := I.ok.gX.mem hb;exact I.base.free b o ho (I.ok.frf b hb) fun z => I.ok.exfs b z hb
theorem Inv.step {g' : Array GenState} {t' : Nat} {d' : Drawn} {ch : List Addr} (I : Inv X pins σ H s)
 (hch : ∀ b ∈ ch, (b ∈ X.ex \/ X.s₀.heap.get? b = none) /\ b ≠ X.env.locals /\ (∀ x c, X.env.cells.lookup x = some c -> c ≠ b) /\ ∀ p ∈ X.pn ++ pins, p.1 ≠ b)
 (keep : ∀ b o, b ≠ X.env.locals -> b ∉ X.fs -> b ∉ ch -> s.heap.get? b = some o -> H b = none -> h'.get? b = some o)
 (slot : ∀ b o, b ≠ X.env.locals -> b ∈ X.fs -> b ∉ ch -> s.heap.get? b = some o -> H b = none -> ∃ sl, h'.get? b = some { o with slots := sl }) (free : ∀ b o, b ∉ ch -> s.heap.get? b = some o -> H b = none -> H' b = none)
 (there : ∀ b o, b ∉ ch -> s.heap.get? b = some o -> ∃ o', h'.get? b = some o')
 (tups : ∀ b xs, H b = some (.tup xs) -> H' b = some (.tup xs)) (frzs : ∀ b o u, H b = some (.frz o u) -> H' b = some (.frz o u)) (tbls : ∀ b ps, H b = some (.tbl ps) -> ∃ more, H' b = some (.tbl (ps ++ more)))
 (ns : ∀ m, s.heap.Ns X.env.locals m -> h'.Ns X.env.locals m) (hok : gv X.prog X.w H' h') (hg : AllBare g') :
 Inv X pins σ H' { s with heap := h', gens := g', drawn := d', toks := t' } := by
 have neL : ∀ b o, X.s₀.heap.get? b = some o -> b ≠ X.env.locals := fun b o e => Nat.ne_of_lt (Nat.lt_of_lt_of_le (lt_size e) I.ok.above);have neC : ∀ b o, X.s₀.heap.get? b = some o -> b ∉ X.ex -> b ∉ ch := fun b o e hx hb => by
  rcases (hch b hb).1 with z | z
  . exact hx z
  . rw [z] at e; cases e
 have cellK : ∀ x c, X.env.cells.lookup x = some c -> ∀ v, s.heap.IsCell c v -> h'.IsCell c v := fun x c e v ⟨o, ho, hd⟩ => by
  have nch : c ∉ ch := fun z => (hch c z).2.2.1 x c e rfl;by_cases hc : c ∈ X.fs
  . obtain ⟨sl, q⟩ := slot c o (I.CL x c e) hc nch ho (I.freeC x c e);exact ⟨_, q, hd⟩
  . exact ⟨o, keep c o (I.CL x c e) hc nch ho (I.freeC x c e), hd⟩
 refine ⟨I.ok, I.os, hg, ⟨fun b o e n hb hx => ?_, fun b o e n hb hx => ?_, fun b o e n hx => ?_, fun b o e hx => ?_, fun b xs e => tups b xs (I.base.tups b xs e), fun b o xs e => frzs b o xs (I.base.frzs b o xs e), fun b ps e => ?_⟩, ?_, fun x c e => ?_, ?_, fun x c e => ?_, fun p hp => ?_, hok, I.len⟩
 . exact keep b o (neL b o e) hb (neC b o e hx) (I.base.keep b o e n hb hx) (I.base.free b o e n hx)
 . obtain ⟨sl, e1⟩ := I.base.slot b o e n hb hx;obtain ⟨sl', e2⟩ := slot b _ (neL b o e) hb (neC b o e hx) e1 (I.base.free b o e n hx);exact ⟨sl', e2⟩
 . obtain ⟨o', e1⟩ := I.base.there b o e hx;exact free b o' (neC b o e hx) e1 (I.base.free b o e n hx)
 . obtain ⟨o', e1⟩ := I.base.there b o e hx;exact there b o' (neC b o e hx) e1
 . obtain ⟨m1, e1⟩ := I.base.tbls b ps e;obtain ⟨m2, e2⟩ := tbls b _ e1;exact ⟨m1 ++ m2, by rw [e2, Array.append_assoc]⟩
 . obtain ⟨m, hn, hl⟩ := I.loc;refine ⟨m, ns m hn, fun i x v e1 e2 e3 => ?_⟩;obtain ⟨u, r, l⟩ := hl i x v e1 e2 e3;refine ⟨u, r, ?_⟩;rcases l with l | ⟨k, c, e, z⟩
   . exact .inl l
   . exact .inr ⟨k, c, e, cellK x c e _ z⟩
 . obtain ⟨v, z⟩ := I.cell x c e;exact ⟨v, cellK x c e v z⟩
 . obtain ⟨m, ⟨o, _, _, ho, _⟩, _⟩ := I.loc;exact free _ o (fun z => (hch _ z).2.1 rfl) ho I.free
 . obtain ⟨v, o, ho, hd⟩ := I.cell x c e;exact free c o (fun z => (hch c z).2.2.1 x c e rfl) ho (I.freeC x c e)
 . obtain ⟨e, n, ne, nf, d⟩ := I.pin p hp;have nch : p.1 ∉ ch := fun z => (hch p.1 z).2.2.2 p hp rfl;exact ⟨keep p.1 p.2 ne nf nch e n, free p.1 p.2 nch e n, ne, nf, d⟩
theorem Inv.un {t' : Nat} (I : Inv X pins σ H s) (u : Un X.fs [] H H' s.heap h') (hok : gv X.prog X.w H' h') : Inv X pins σ H' { s with heap := h', toks := t' } := by
 obtain ⟨m, ⟨o, es, ep, ho, r⟩, _⟩ := id I.loc;obtain ⟨sl, hL⟩ := u.any ho I.free (by simp);exact I.step (g' := s.gens) (d' := s.drawn) (ch := []) (fun _ z => nomatch z) (fun b o _ hb _ e n => u.keep b o e n hb (by simp)) (fun b o _ hb _ e n => u.slot b o e n hb (by simp)) (fun b o _ e n => u.free b o e n (by simp)) (fun b o _ e => u.there b o e (by simp)) u.tups u.frzs u.tbls (fun m' hm => by
  obtain ⟨o', es', ep', ho', r'⟩ := hm;rw [ho] at ho'; cases ho';exact ⟨_, es', ep', hL, r'⟩) hok I.bare
theorem Inv.call {g' : Array GenState} {t' : Nat} {d' : Drawn} {ch : List Addr} (I : Inv X pins σ H s) (u : Un (wy X.stack) ch H H' s.heap h') (hok : gv X.prog X.w H' h') (hg : AllBare g')
 (hch : ∀ b ∈ ch, (b ∈ X.ex \/ X.s₀.heap.get? b = none) /\ b ≠ X.env.locals /\ (∀ x c, X.env.cells.lookup x = some c -> c ≠ b) /\ ∀ p ∈ X.pn ++ pins, p.1 ≠ b) :
 Inv X pins σ H' { s with heap := h', gens := g', drawn := d', toks := t' } := by
 obtain ⟨m, ⟨o, es, ep, ho, r⟩, _⟩ := id I.loc;obtain ⟨sl, hL⟩ := u.any ho I.free fun z => (hch _ z).2.1 rfl;exact I.step (ch := ch) hch (fun b o hL hb hc e n => u.keep b o e n (fun z => (mem_cons.mp (I.rK b z)).elim hL hb) hc) (fun b o _ _ hc e n => u.any e n hc) (fun b o hc e n => u.free b o e n hc) (fun b o hc e => u.there b o e hc) u.tups u.frzs u.tbls (fun m' hm => by
  obtain ⟨o', es', ep', ho', r'⟩ := hm;rw [ho] at ho'; cases ho';exact ⟨_, es', ep', hL, r'⟩) hok hg
theorem Inv.turned {t' : Nat} {it : Addr} (I : Inv X pins σ H s) (k : ∀ b o, b ≠ it -> s.heap.get? b = some o -> h'.get? b = some o) (hn : H it = none) (hL : it ≠ X.env.locals)
 (h1 : it ∈ X.ex \/ X.s₀.heap.get? it = none) (h2 : ∀ x c, X.env.cells.lookup x = some c -> c ≠ it) (h3 : ∀ p ∈ X.pn ++ pins, p.1 ≠ it) : Inv X pins σ H { s with heap := h', toks := t' } := by
 have nit : ∀ b u, H b = some u -> b ≠ it := fun b u e z => by rw [z, hn] at e; cases e
 refine I.step (g' := s.gens) (d' := s.drawn) (ch := [it]) (fun b hb => ?_) (fun b o _ _ hc e _ => k b o (fun z => hc (by simp [z])) e) (fun b o _ _ hc e _ => ⟨o.slots, k b o (fun z => hc (by simp [z])) e⟩) (fun _ _ _ _ n => n)
  (fun b o hc e => ⟨o, k b o (fun z => hc (by simp [z])) e⟩) (fun _ _ e => e) (fun _ _ _ e => e) (fun b ps e => ⟨#[], by rw [e]; simp⟩) (fun m hm => ?_) (fun b u e => ?_) I.bare
 . have e : b = it := by simpa using hb
   subst e;exact ⟨h1, hL, h2, h3⟩
 . obtain ⟨o, es, ep, ho, r⟩ := hm;exact ⟨o, es, ep, k _ o (Ne.symm hL) ho, r⟩
 . refine (I.hok b u e).jw (fun c v hc q => k c v ?_ q) (fun _ q => q) fun _ _ q => q;rcases hc with z | z
   . rw [z]; exact nit b u e
   . exact nit c _ z
theorem Inv.tok (I : Inv X pins σ H s) (t : Nat) : Inv X pins σ H { s with toks := t } := I.un (h' := s.heap) (t' := t) Un.refl I.hok
theorem Inv.kept {t' : Nat} (I : Inv X pins σ H s) (k : ∀ b u, s.heap.get? b = some u -> h'.get? b = some u) : Inv X pins σ H { s with heap := h', toks := t' } := I.un (Un.kept k) (I.hok.kept k)
theorem Inv.laid {a : Addr} {o : HO} {t' : Nat} (I : Inv X pins σ H s) (k : ∀ b u, s.heap.get? b = some u -> h'.get? b = some u) (hp : s.heap.objs.size <= a) (new : bz X.prog X.w (upd H a o) h' a o) :
 Inv X pins σ (upd H a o) { s with heap := h', toks := t' } := I.un (Un.laid k hp (I.hok.fresh hp)) (I.hok.laid k hp new)
theorem Inv.write {x e : Addr} {o : HO} {t' : Nat} (I : Inv X pins σ H s) (mu : Eh (H x)) (he : e = x \/ H e = some (.own x)) (k : ∀ b u, b ≠ e -> s.heap.get? b = some u -> h'.get? b = some u) (heo : ∃ u, h'.get? e = some u)
 (new : bz X.prog X.w (upd H x o) h' x o) : Inv X pins σ (upd H x o) { s with heap := h', toks := t' } := I.un (Un.write mu he k heo) (I.hok.write mu he k heo new)
theorem Inv.tV {pins' : GR} (I : Inv X pins σ H s) (h : ∀ p ∈ pins', s.heap.get? p.1 = some p.2 /\ H p.1 = none /\ p.1 ≠ X.env.locals /\ p.1 ∉ X.fs /\ ∀ v, p.2.data ≠ .cell v) : Inv X pins' σ H s :=
 ⟨I.ok, I.os, I.bare, I.base, I.loc, I.cell, I.free, I.freeC, fun p hp => (mem_append.mp hp).elim (fun z => I.pin p (List.mem_append_left _ z)) (h p), I.hok, I.len⟩
theorem p9 {N : GV} (hN : N.Nodup) {i j : Nat} {x : Str} (a : N[i]? = some x) (b : N[j]? = some x) : i = j := by
 obtain ⟨h1, e1⟩ := List.getElem?_eq_some_iff.mp a;obtain ⟨h2, e2⟩ := List.getElem?_eq_some_iff.mp b;exact (List.getElem_inj hN).mp (e1.trans e2.symm)
abbrev HfX (X : Cx) (x : Str) : Prop := X.fn x = true ∨  X.env.scope.names.lookup x = some .local
theorem m5 {M : Model} {A : Around} {E : GJ} {i : Nat} {x : Str} {v : V} {u : Value} {Q : Unit -> Shared -> Prop} (I : Inv X pins σ H s) (hN : X.N.Nodup) (hi : X.N[i]? = some x) (hx : Loc X.env.scope x) (r : RelV v u)
 (h : ∀ s', Inv X pins (σ.set i (some v)) H s' -> (∃ a, Heap.SameBut a s.heap s'.heap /\ (a = X.env.locals \/ X.env.cells.lookup x = some a)) -> Q () s') (hf : HfX X x := by first | exact .inl rfl | exact .inr rfl | assumption) : wpAny M A (storeName X.env x u) Q E s := by
 obtain ⟨m, hn, hl⟩ := id I.loc;have hcls : (X.env.scope.kind == .class || (X.env.scope.kind == .module && X.env.locals != X.env.globals)) = false := by rw [I.ok.kind]; rfl
 have hiσ : i < σ.length := by rw [I.len]; exact (List.getElem?_eq_some_iff.mp hi).1
 have CL := I.CL;have tracked : ∀ {a : Addr} {h' : Heap}, (∃ o, s.heap.get? a = some o /\ H a = none) -> Heap.SameBut a s.heap h' -> gv X.prog X.w H h' := fun {a h'} ha hs b ob e => by
  obtain ⟨_, _, hfree⟩ := ha;refine (I.hok b ob e).jw (fun c w' hc q => (hs.2 c ?_).trans q) (fun _ q => q) fun _ _ q => q;rintro rfl;rcases hc with rfl | hc
  . rw [hfree] at e; cases e
  . rw [hfree] at hc; cases hc
 rcases hx with hk | hk
 . refine wpAny_storeName_local hk hn (fun h' hn' hs => ?_) hcls;obtain ⟨oL, _, _, hoL, _⟩ := id hn;refine h _ ⟨I.ok, I.os, I.bare, ⟨fun b o e n hb hx => ?_, fun b o e n hb hx => ?_, I.base.free, fun b o e hx => ?_, I.base.tups, I.base.frzs, I.base.tbls⟩, ⟨_, hn', fun j y v' e1 e2 e3 => ?_⟩, fun y c e => ?_, I.free, I.freeC, fun p hp => ?_, tracked ⟨oL, hoL, I.free⟩ hs, by simpa using I.len⟩ ⟨_, hs, .inl rfl⟩
   . exact (hs.2 b (Nat.ne_of_lt (Nat.lt_of_lt_of_le (lt_size e) I.ok.above))).trans (I.base.keep b o e n hb hx)
   . obtain ⟨sl, e1⟩ := I.base.slot b o e n hb hx;exact ⟨sl, (hs.2 b (Nat.ne_of_lt (Nat.lt_of_lt_of_le (lt_size e) I.ok.above))).trans e1⟩
   . obtain ⟨o', e1⟩ := I.base.there b o e hx;exact ⟨o', (hs.2 b (Nat.ne_of_lt (Nat.lt_of_lt_of_le (lt_size e) I.ok.above))).trans e1⟩
   . by_cases hj : j = i
     . subst hj;rw [hi] at e1; cases e1;rw [List.getElem?_set_self hiσ] at e2;cases e2;exact ⟨u, r, .inl ⟨hk, by simp⟩⟩
     . rw [List.getElem?_set_ne (Ne.symm hj)] at e2;obtain ⟨u', r', q⟩ := hl j y v' e1 e2 e3;refine ⟨u', r', ?_⟩;rcases q with ⟨k, e⟩ | ⟨k, c, e, z⟩
       . refine .inl ⟨k, ?_⟩;have : y ≠ x := fun e => hj (p9 hN e1 (e ▸ hi));simp [this, e]
       . exact .inr ⟨k, c, e, z.sameBut hs (CL y c e)⟩
   . obtain ⟨w', z⟩ := I.cell y c e;exact ⟨w', z.sameBut hs (CL y c e)⟩
   . obtain ⟨e, n, ne, nf, d⟩ := I.pin p hp;exact ⟨(hs.2 p.1 ne).trans e, n, ne, nf, d⟩
 . have hfn : X.fn x = true := by
    rcases hf with z | z
    . exact z
    . rw [z] at hk; cases hk
   obtain ⟨c, hc⟩ := I.ok.has x (.inl hk);obtain ⟨w', z⟩ := I.cell x c hc;refine wpAny_storeName_cell I.ok.kind hk hc z (fun h' hc' hs => ?_);obtain ⟨oc, hoc, hocd⟩ := id z;refine h { s with heap := h' } ⟨I.ok, I.os, I.bare, ⟨fun b o e n hb hx => ?_, fun b o e n hb hx => ?_, I.base.free, fun b o e hx => ?_, I.base.tups, I.base.frzs, I.base.tbls⟩, ⟨m, hn.sameBut hs (Ne.symm (CL x c hc)), fun j y v' e1 e2 e3 => ?_⟩, fun y c' e => ?_, I.free, I.freeC, fun p hp => ?_, tracked ⟨oc, hoc, I.freeC x c hc⟩ hs, by simpa using I.len⟩ ⟨c, hs, .inr hc⟩
   . exact (hs.2 b (Nat.ne_of_lt (Nat.lt_of_lt_of_le (lt_size e) (I.ok.cab x c hfn hc)))).trans (I.base.keep b o e n hb hx)
   . obtain ⟨sl, e1⟩ := I.base.slot b o e n hb hx;exact ⟨sl, (hs.2 b (Nat.ne_of_lt (Nat.lt_of_lt_of_le (lt_size e) (I.ok.cab x c hfn hc)))).trans e1⟩
   . obtain ⟨o', e1⟩ := I.base.there b o e hx;exact ⟨o', (hs.2 b (Nat.ne_of_lt (Nat.lt_of_lt_of_le (lt_size e) (I.ok.cab x c hfn hc)))).trans e1⟩
   . by_cases hj : j = i
     . subst hj;rw [hi] at e1; cases e1;rw [List.getElem?_set_self hiσ] at e2;cases e2;exact ⟨u, r, .inr ⟨.inl hk, c, hc, hc'⟩⟩
     . rw [List.getElem?_set_ne (Ne.symm hj)] at e2;obtain ⟨u', r', q⟩ := hl j y v' e1 e2 e3;refine ⟨u', r', ?_⟩;rcases q with q | ⟨k, c', e, z'⟩
       . exact .inl q
       . refine .inr ⟨k, c', e, z'.sameBut hs ?_⟩;rintro rfl;exact hj (p9 hN e1 (I.ok.inj _ _ _ e hc ▸ hi))
   . by_cases hcc : c' = c
     . subst hcc; exact ⟨_, hc'⟩
     . obtain ⟨w2, z2⟩ := I.cell y c' e;exact ⟨w2, z2.sameBut hs hcc⟩
   . obtain ⟨e, n, ne, nf, d⟩ := I.pin p hp;refine ⟨(hs.2 p.1 ?_).trans e, n, ne, nf, d⟩;intro q;rw [q, hoc] at e;have q' : oc = p.2 := Option.some.inj e;exact d w' (by rw [<- q']; exact hocd)
theorem qJ {M : Model} {A : Around} {E : GJ} {i : Nat} {x : Str} {v : V} {u : Value} {Q : Unit -> Shared -> Prop} (I : Inv X pins σ H s) (hN : X.N.Nodup) (hi : X.N[i]? = some x) (hx : Loc X.env.scope x) (r : RelV v u)
 (h : ∀ s', Inv X pins (σ.set i (some v)) H s' -> Q () s') (hf : HfX X x := by first | exact .inl rfl | exact .inr rfl | assumption) : wpAny M A (storeName X.env x u) Q E s :=
 m5 I hN hi hx r (fun s' I' _ => h s' I') hf
theorem Inv.Dp {s' : Shared} {ch : List Addr} (I : Inv X pins σ H s) (ho : s'.os = s.os) (u : Un (wy X.stack) ch H H' s.heap s'.heap) (hok : gv X.prog X.w H' s'.heap) (hg : AllBare s'.gens)
 (hch : ∀ b ∈ ch, (b ∈ X.ex \/ X.s₀.heap.get? b = none) /\ b ≠ X.env.locals /\ (∀ x c, X.env.cells.lookup x = some c -> c ≠ b) /\ ∀ p ∈ X.pn ++ pins, p.1 ≠ b) : Inv X pins σ H' s' := by
 obtain ⟨h', g', d', t', o'⟩ := s';have e : o' = s.os := ho;subst e;exact I.call (g' := g') (t' := t') (d' := d') u hok hg hch
end
abbrev XK := Value -> Option Addr -> Hp -> Prop
abbrev St := List (Option V)
abbrev VK := V -> Hp -> Prop
abbrev TE := St -> Hp -> VK -> Prop
abbrev TT := St -> Hp -> (Bool -> Hp -> Prop) -> Prop
abbrev TA := St -> Hp -> (List V -> Hp -> Prop) -> Prop
structure Ends where
 nx : St -> Hp -> Prop
 rt : VK
 bk : St -> Hp -> Prop := fun _ _ => False
 ct : St -> Hp -> Prop := fun _ _ => False
abbrev TS := Ends -> St -> Hp -> Prop
def EP (X : Cx) (pins : GR) (σ : St) (Q : VK) (u : Value) (s' : Shared) : Prop := ∃ v H', Inv X pins σ H' s' /\ RelV v u /\ Q v H'
def TP (X : Cx) (pins : GR) (σ : St) (Q : Bool -> Hp -> Prop) (b : Bool) (s' : Shared) : Prop := ∃ H', Inv X pins σ H' s' /\ Q b H'
def AP (X : Cx) (pins : GR) (σ : St) (Q : List V -> Hp -> Prop) (us : GO) (s' : Shared) : Prop := ∃ vs H', Inv X pins σ H' s' /\ Vals vs us /\ Q vs H'
def SP (X : Cx) (pins : GR) (D : Ends) (f : Flow) (s' : Shared) : Prop :=
 match f with
 | .next => ∃ σ' H', Inv X pins σ' H' s' /\ D.nx σ' H'
 | .brk => ∃ σ' H', Inv X pins σ' H' s' /\ D.bk σ' H'
 | .cont => ∃ σ' H', Inv X pins σ' H' s' /\ D.ct σ' H'
 | .ret u => ∃ v σ' H', Inv X pins σ' H' s' /\ RelV v u /\ D.rt v H'
def PE (X : Cx) (e : Expr) (t : TE) : Prop :=
 ∀ (pins : GR) (s : Shared) (σ : St) (H : Hp) (Q : VK), Inv X pins σ H s -> t σ H Q -> wpAny (model X.prog X.w) X.A (eval e X.env) (EP X pins σ Q) X.xe s
def PT (X : Cx) (e : Expr) (t : TT) : Prop :=
 ∀ (pins : GR) (s : Shared) (σ : St) (H : Hp) (Q : Bool -> Hp -> Prop), Inv X pins σ H s -> t σ H Q -> wpAny (model X.prog X.w) X.A (isTrue e X.env (eval e X.env)) (TP X pins σ Q) X.xe s
def PW (X : Cx) (e : Expr) (t : TT) : Prop :=
 ∀ (whole : Sem Value) (pins : GR) (s : Shared) (σ : St) (H : Hp) (Q : Bool -> Hp -> Prop), Inv X pins σ H s -> t σ H Q -> wpAny (model X.prog X.w) X.A (isTrue e X.env whole) (TP X pins σ Q) X.xe s
theorem PW.pt {X : Cx} {e : Expr} {t : TT} (h : PW X e t) : PT X e t := h _
def PA (X : Cx) (es : List Expr) (t : TA) : Prop :=
 ∀ (pos : Pos) (pins : GR) (s : Shared) (σ : St) (H : Hp) (Q : List V -> Hp -> Prop), Inv X pins σ H s -> t σ H Q -> wpAny (model X.prog X.w) X.A (spliced (backTo pos (starEach es X.env))) (AP X pins σ Q) X.xe s
def PS (X : Cx) (st : Stmt) (t : TS) : Prop :=
 ∀ (pins : GR) (s : Shared) (σ : St) (H : Hp) (D : Ends), Inv X pins σ H s -> t D σ H -> wpAny (model X.prog X.w) X.A (exec st X.env) (SP X pins D) X.xe s
def lJ (X : Cx) (st : List Stmt) (t : TS) : Prop :=
 ∀ (pins : GR) (s : Shared) (σ : St) (H : Hp) (D : Ends), Inv X pins σ H s -> t D σ H -> wpAny (model X.prog X.w) X.A (execs st X.env) (SP X pins D) X.xe s
theorem cg {α : Type} {t : Sem α} {Q Q' : α -> Shared -> Prop} {M : Model} {A : Around} {E : GJ} {s : Shared} (h : wpAny M A t Q E s) (hQ : ∀ a s, Q a s -> Q' a s) : wpAny M A t Q' E s := wpAny_mono h hQ fun _ _ x => x
section
variable {X : Cx}
def E8 (i : Nat) : TE := fun σ H Q => ∃ v, σ[i]? = some (some v) /\ Q v H
def tC (v : V) : TE := fun _ H Q => Q v H
abbrev NdX (x : Str) : Prop := (x == ("__debug__":Str)) = false
abbrev NcX (x : Str) : Prop := (x == ("__classdict__":Str)) = false
theorem bx {i : Nat} {x : Str} {pos : Pos} (hN : X.N[i]? = some x) (hv : kb X.env.scope x) (hd : NdX x := by decide) (hcd : NcX x := by decide) : PE X (.Name x pos) (E8 i) := by
 intro pins s σ H Q I h;obtain ⟨v, e, h⟩ := h;obtain ⟨m, hn, hl⟩ := I.loc;obtain ⟨u, r, l⟩ := hl i x v hN e hv;have fin : EP X pins σ Q u s := ⟨v, H, I, r, h⟩
 rcases l with ⟨hk, hm⟩ | ⟨hk, c, hc, hcell⟩
 . exact wpAny_Name (wpAny_loadName_local I.ok.kind hk hn hm fin) hd
 . rcases hk with hk | hk
   . exact wpAny_Name (wpAny_loadName_cell I.ok.kind hk hc hcell fin) hd
   . exact wpAny_Name (wpAny_loadName_free I.ok.kind hk hc hcell fin hcd) hd
theorem BZ {i j pos} : PE X (.Constant (.int i) j pos) (tC (.int i)) := fun _ _ _ H _ I h => wpAny_Constant_int ⟨.int i, H, I.tok _, ⟨_, rfl⟩, h⟩
theorem Dy {b j pos} : PE X (.Constant (.bool b) j pos) (tC (.bl b)) := fun _ _ _ H _ I h => Constant_bool ⟨.bl b, H, I, rfl, h⟩
theorem C4 {x j pos} : PE X (.Constant (.str x) j pos) (tC (.str x)) := fun _ _ _ H _ I h => Calls.Constant_str ⟨.str x, H, I.tok _, ⟨_, rfl⟩, h⟩
def Gl (X : Cx) (x : Str) : Prop := X.env.kindOf x = some .globalImplicit
theorem oE {E : GJ} {pins : GR} {s : Shared} {σ : St} {H : Hp} {x : Str} {u : Value} {pos : Pos} {Q : GJ} (I : Inv X pins σ H s) (hg : Gl X x) (hm : X.mg x = some u) (h : Q u s)
 (hd : NdX x := by decide) : wpAny (model X.prog X.w) X.A (eval (.Name x pos) X.env) Q E s :=
 Calls.Name_function_global I.ok.kind hg (Calls.loadGlobal_global (by rw [I.ok.glob]; exact I.mod.glob.keeps I.bk) hm h) hd
theorem iX {E : GJ} {pins : GR} {s : Shared} {σ : St} {H : Hp} {x : Str} {u : Value} {pos : Pos} {Q : GJ} (I : Inv X pins σ H s) (hg : Gl X x) (hm : X.mg x = none) (hv : bootBuiltins x = some u) (h : Q u s)
 (hn : x ≠ "__name__" := by decide) (hd : NdX x := by decide) : wpAny (model X.prog X.w) X.A (eval (.Name x pos) X.env) Q E s := by
 obtain ⟨mb, h1, h2⟩ := I.mod.blt;exact Calls.Name_function_global I.ok.kind hg (Calls.loadGlobal_builtin (by rw [I.ok.glob]; exact I.mod.glob.keeps I.bk) hm (by rw [I.ok.blt]; exact h1.keeps I.bk) ((h2 x hn).trans hv) h) hd
theorem z8 {x : Str} {v : V} {u : Value} {pos : Pos} (hg : Gl X x) (hm : X.mg x = some u) (r : RelV v u) (hd : NdX x := by decide) : PE X (.Name x pos) (tC v) :=
 fun _ _ _ H _ I h => oE I hg hm ⟨v, H, I, r, h⟩ hd
theorem Ao {x : Str} {v : V} {u : Value} {pos : Pos} (hg : Gl X x) (hm : X.mg x = none) (hv : bootBuiltins x = some u) (r : RelV v u) (hn : x ≠ "__name__" := by decide) (hd : NdX x := by decide) : PE X (.Name x pos) (tC v) :=
 fun _ _ _ H _ I h => iX I hg hm hv ⟨v, H, I, r, h⟩ hn hd
variable {a b : Expr} {ta tb : TE} {pos : Pos}
def PC (X : Cx) (op : CmpOp) (a b : Expr) (t : TE) : Prop :=
 ∀ (pins : GR) (s : Shared) (σ : St) (H : Hp) (Q : VK), Inv X pins σ H s -> t σ H Q ->
  wpAny (model X.prog X.w) X.A (eval a X.env) (fun v s₁ => wpAny (model X.prog X.w) X.A (eval b X.env) (fun u s₂ => wpAny (model X.prog X.w) X.A (compareOp op v u) (EP X pins σ Q) X.xe s₂) X.xe s₁) X.xe s
theorem xc (b : Expr) {op : CmpOp} (h : op ≠ .In) (h2 : op ≠ .NotIn) : behindInMarks op b = false := by
 have e1 : (op == CmpOp.In) = false := by cases op <;> first | rfl | exact absurd rfl h
 have e2 : (op == CmpOp.NotIn) = false := by cases op <;> first | rfl | exact absurd rfl h2
 cases b <;> simp [behindInMarks, e1, e2]
def tB (t : TE) : TT := fun σ H Q => t σ H fun x H1 => ∃ c, x = .bl c /\ Q c H1
theorem xu {op : CmpOp} {t : TE} (h : PC X op a b t) (h1 : behindInMarks op b = false := by first | exact xc _ (by decide) (by decide) | rfl) : PT X (.Compare a [op] [b] pos) (tB t) := by
 intro pins s σ H Q I hw;refine wpAny_isTrue_Compare1 (cg (h pins s σ H _ I hw) fun v s1 h1 => cg h1 fun u s2 h2 => cg h2 fun c s3 ⟨x, H1, I1, r1, q1⟩ => ?_) h1;obtain ⟨d, rfl, q⟩ := q1;cases r1;exact wpAny_truthy_bool ⟨H1, I1, q⟩
theorem yi {e : Expr} {t : TE} (h : PE X e t) (he : ∀ whole, isTrue e X.env whole = (do let v <- whole; standAt e.pos; holding [v] (truthy v)) := by intro _; rfl) : PT X e (tB t) := by
 intro pins s σ H Q I hw;refine isTrue_plain (cg (h pins s σ H _ I hw) fun v s1 ⟨x, H1, I1, r1, q1⟩ => ?_) (he _);obtain ⟨d, rfl, q⟩ := q1;cases r1;exact wpAny_truthy_bool ⟨H1, I1, q⟩
variable {tA wz : TT} {rest : List Expr}
def FD (t u : TT) : TT := fun σ H Q => t σ H fun c H1 => if c = true then u σ H1 Q else Q false H1
def GH (t u : TT) : TT := fun σ H Q => t σ H fun c H1 => if c = true then Q true H1 else u σ H1 Q
def E2 (t : TT) : TT := fun σ H Q => t σ H fun c H1 => Q (!c) H1
theorem zB (ha : PT X a tA) : PW X (.BoolOp .And [a] pos) tA := by
 intro wh pins s σ H Q I h;refine isTrue_and (cg (ha pins s σ H Q I h) fun c s1 e => ?_)
 cases c with
 | true => exact isTrue_and_nil e
 | false => exact e
theorem yC (ha : PT X a tA) : PW X (.BoolOp .Or [a] pos) tA := by
 intro wh pins s σ H Q I h;refine isTrue_or (cg (ha pins s σ H Q I h) fun c s1 e => ?_)
 cases c with
 | false => exact isTrue_or_nil e
 | true => exact e
theorem xQ (ha : PT X a tA) (hb : PW X (.BoolOp .And (b :: rest) pos) wz) : PW X (.BoolOp .And (a :: b :: rest) pos) (FD tA wz) := by
 intro wh pins s σ H Q I h;refine isTrue_and (cg (ha pins s σ H _ I h) fun c s1 ⟨H1, I1, q1⟩ => ?_)
 cases c with
 | true => exact hb wh pins s1 σ H1 Q I1 q1
 | false => exact ⟨H1, I1, q1⟩
theorem yL (ha : PT X a tA) (hb : PW X (.BoolOp .Or (b :: rest) pos) wz) : PW X (.BoolOp .Or (a :: b :: rest) pos) (GH tA wz) := by
 intro wh pins s σ H Q I h;refine isTrue_or (cg (ha pins s σ H _ I h) fun c s1 ⟨H1, I1, q1⟩ => ?_)
 cases c with
 | true => exact ⟨H1, I1, q1⟩
 | false => exact hb wh pins s1 σ H1 Q I1 q1
theorem rR (ha : PT X a tA) : PT X (.UnaryOp .Not a pos) (E2 tA) := by
 intro pins s σ H Q I h;exact isTrue_not (ha pins s σ H (fun c H1 => Q (!c) H1) I h)
def GG (t : TT) (ta tb : TE) : TE := fun σ H Q => t σ H fun c H1 => if c = true then ta σ H1 Q else tb σ H1 Q
theorem rj {c : Expr} (hc : PT X c tA) (ha : PE X a ta) (hb : PE X b tb) : PE X (.IfExp c a b pos) (GG tA ta tb) := by
 intro pins s σ H Q I h;refine wpAny_IfExp (cg (hc pins s σ H _ I h) fun d s1 ⟨H1, I1, q1⟩ => ?_)
 cases d with
 | true => exact ha pins s1 σ H1 Q I1 q1
 | false => exact hb pins s1 σ H1 Q I1 q1
end
def eP (K : Frag) (H : Hp) (a : Addr) (xs : List V) : Prop :=
 Rd H a (.lst xs) \/
  ∃ (o : Obj) (its : GP) (n : Nat), K.lookup a = some o /\ o.cls = .type "list" /\ o.dict = none /\ o.data = .seq its n /\ its.size <= sizeLine /\ Vals xs its.toList
def rH (K : Frag) (H : Hp) (a : Addr) (xs : List V) : Prop :=
 Rd H a (.tup xs) \/
  ∃ (o : Obj) (its : GP) (n : Nat), K.lookup a = some o /\ o.cls = .type "tuple" /\ o.data = .seq its n /\ its.size <= sizeLine /\ Vals xs its.toList
def Fz : Value -> Option V
 | .none => some .non
 | .bool b => some (.bl b)
 | .int i _ => some (.int i)
 | .str x _ => some (.str x)
 | .bytes b _ => some (.byt b)
 | .float b _ => some (.flt b)
 | .ref a => some (.ref a)
 | .type n => some (.ty n)
 | _ => none
theorem RelV.abs {x : V} {u : Value} (r : RelV x u) : Fz u = some x := by
 cases x with
 | non => cases r; rfl
 | bl _ => cases r; rfl
 | int _ => obtain ⟨t, rfl⟩ := r; rfl
 | str _ => obtain ⟨t, rfl⟩ := r; rfl
 | byt _ => obtain ⟨t, rfl⟩ := r; rfl
 | flt _ => obtain ⟨t, rfl⟩ := r; rfl
 | ref _ => cases r; rfl
 | ty _ => cases r; rfl
theorem RelV.inj {x y : V} {u : Value} (r : RelV x u) (q : RelV y u) : x = y := Option.some.inj (r.abs.symm.trans q.abs)
theorem Vals.inj : ∀ {xs ys : List V} {us : GO}, Vals xs us -> Vals ys us -> xs = ys
 | _, _, _, .nil, .nil => rfl
 | _, _, _, .cons r t, .cons r' t' => by rw [r.inj r', Vals.inj t t']
section
variable {X : Cx} {pins : GR} {σ : St} {H : Hp} {s : Shared} {a : Addr} {xs ys : List V}
theorem eP.of {K : Frag} (h : H a = some (.lst xs)) : eP K H a xs := .inl (.inl h)
theorem Inv.list (I : Inv X pins σ H s) (h : eP X.K H a xs) : ∃ its : List Value, Vals xs its /\ PlainL s.heap a its.toArray /\ xs.length <= sizeLine := by
 rcases h with h | ⟨o, its, n, hk, hc, hd, hs, hz, r⟩
 . obtain ⟨z, its, n, r, e⟩ := h.ok I.hok;exact ⟨its, r, ⟨_, n, e, rfl, rfl, rfl⟩, z⟩
 . refine ⟨its.toList, r, ⟨o, n, I.rJ a o hk, hc, hd, by simpa using hs⟩, ?_⟩;have e := r.length;simp only [Array.length_toList] at e;omega
theorem Inv.tuple (I : Inv X pins σ H s) (h : rH X.K H a xs) : ∃ its : List Value, Vals xs its /\ IsTup s.heap a its.toArray /\ xs.length <= sizeLine := by
 rcases h with h | ⟨o, its, n, hk, hc, hs, hz, r⟩
 . obtain ⟨z, its, r, p⟩ := h.ok I.hok;exact ⟨its, r, p, z⟩
 . refine ⟨its.toList, r, ⟨o, I.rJ a o hk, hc, n, by simpa using hs⟩, ?_⟩;have e := r.length;simp only [Array.length_toList] at e;omega
theorem Inv.lR (I : Inv X pins σ H s) (h : eP X.K H a xs) (h' : eP X.K H a ys) : xs = ys := by
 obtain ⟨its, r, ⟨o, n, e, _, _, d⟩, _⟩ := I.list h;obtain ⟨its', r', ⟨o', n', e', _, _, d'⟩, _⟩ := I.list h';rw [e] at e'; cases e';rw [d] at d';injection d' with d1 _;have : its = its' := by simpa using congrArg Array.toList d1
 subst this;exact r.inj r'
theorem Inv.nD (I : Inv X pins σ H s) (h : rH X.K H a xs) (h' : rH X.K H a ys) : xs = ys := by
 obtain ⟨its, r, ⟨o, e, _, n, d⟩, _⟩ := I.tuple h;obtain ⟨its', r', ⟨o', e', _, n', d'⟩, _⟩ := I.tuple h';rw [e] at e'; cases e';rw [d] at d';injection d' with d1 _;have : its = its' := by simpa using congrArg Array.toList d1
 subst this;exact r.inj r'
end
abbrev Cx.mL (X : Cx) (E : GJ) : Cx := { X with xe := E }
abbrev Cx.uj (X : Cx) : Cx := X.mL fun _ _ => False
theorem Cx.Ok.mL {X : Cx} (ok : X.Ok) (E : GJ) : (X.mL E).Ok :=
 ⟨ok.mod, ok.kind, ok.glob, ok.blt, ok.above, ok.inj, ok.has, ok.cab, ok.hd, ok.frames, ok.stk, ok.exf, ok.bs, ok.bsz, ok.noex, ok.exfs, ok.gX, ok.frf⟩
theorem Cx.Ok.fR {X : Cx} {E : GJ} (ok : (X.mL E).Ok) : X.Ok :=
 ⟨ok.mod, ok.kind, ok.glob, ok.blt, ok.above, ok.inj, ok.has, ok.cab, ok.hd, ok.frames, ok.stk, ok.exf, ok.bs, ok.bsz, ok.noex, ok.exfs, ok.gX, ok.frf⟩
section
variable {X : Cx} {pins : GR} {σ : St} {H : Hp} {s : Shared} {E : GJ}
theorem Inv.mL (I : Inv X pins σ H s) (E : GJ) : Inv (X.mL E) pins σ H s := ⟨I.ok.mL E, I.os, I.bare, I.base, I.loc, I.cell, I.free, I.freeC, I.pin, I.hok, I.len⟩
theorem Inv.fR (I : Inv (X.mL E) pins σ H s) : Inv X pins σ H s := ⟨I.ok.fR, I.os, I.bare, I.base, I.loc, I.cell, I.free, I.freeC, I.pin, I.hok, I.len⟩
theorem SP.fR {D : Ends} {f : Flow} {s' : Shared} (h : SP (X.mL E) pins D f s') : SP X pins D f s' := by
 cases f with
 | next => obtain ⟨σ', H', I, q⟩ := h; exact ⟨σ', H', I.fR, q⟩
 | brk => obtain ⟨σ', H', I, q⟩ := h; exact ⟨σ', H', I.fR, q⟩
 | cont => obtain ⟨σ', H', I, q⟩ := h; exact ⟨σ', H', I.fR, q⟩
 | ret u => obtain ⟨v, σ', H', I, r, q⟩ := h; exact ⟨v, σ', H', I.fR, r, q⟩
theorem lJ.uj {st : List Stmt} {t : TS} (h : lJ X.uj st t) : lJ X st t := fun pins s σ H D I hw =>
 wpAny_mono (h pins s σ H D (I.mL _) hw) (fun _ _ q => q.fR) fun _ _ z => False.elim z
end
section
variable {X : Cx} {st : Stmt} {rest : List Stmt} {t u : TS} {e : Expr} {te : TE} {pos : Pos}
def Dw : TS := fun D σ H => D.nx σ H
def EX (t u : TS) : TS := fun D σ H => t { D with nx := u D } σ H
theorem uF : lJ X [] Dw := fun _ _ σ H _ I h => wpAny_execs_nil ⟨σ, H, I, h⟩
theorem wR (h1 : PS X st t) (h2 : lJ X rest u) : lJ X (st :: rest) (EX t u) := by
 intro pins s σ H D I h;refine wpAny_execs_cons (cg (h1 pins s σ H { D with nx := u D } I h) fun f s1 q => ?_)
 cases f with
 | next =>
  obtain ⟨σ', H', I', q⟩ := q;exact h2 pins s1 σ' H' D I' q
 | ret v => exact q
 | brk => exact q
 | cont => exact q
theorem Inv.quiet {pins : GR} {σ : St} {H : Hp} {s : Shared} (I : Inv X pins σ H s) : interactive X.env = false := by simp [interactive, I.ok.kind]
def Ef (te : TE) : TS := fun D σ H => te σ H fun _ H1 => D.nx σ H1
theorem bU (he : PE X e te) (hs : swapsWith e none pos.line X.env = pure false := by rfl) : PS X (.Expr e pos) (Ef te) := by
 intro pins s σ H D I h;exact wpAny_Expr_any (cg (he pins s σ H _ I h) fun v s1 ⟨x, H1, I1, r1, q1⟩ => ⟨σ, H1, I1, q1⟩) I.quiet hs
def Fi (te : TE) : TS := fun D σ H => te σ H D.rt
theorem pO (he : PE X e te) : PS X (.Return (some e) pos) (Fi te) := by
 intro pins s σ H D I h;exact wpAny_Return_some (cg (he pins s σ H _ I h) fun v s1 ⟨x, H1, I1, r1, q1⟩ => ⟨x, σ, H1, I1, r1, q1⟩)
def Fp (c : TT) (t u : TS) : TS := fun D σ H => c σ H fun b H1 => if b = true then t D σ H1 else u D σ H1
theorem lZ {c : Expr} {a b : List Stmt} {tc : TT} (hc : PT X c tc) (ha : lJ X a t) (hb : lJ X b u) : PS X (.If c a b pos) (Fp tc t u) := by
 intro pins s σ H D I h;refine wpAny_If (cg (hc pins s σ H _ I h) fun d s1 ⟨H1, I1, q1⟩ => ?_)
 cases d with
 | true => exact ha pins s1 σ H1 D I1 q1
 | false => exact hb pins s1 σ H1 D I1 q1
def BV : TS := fun _ _ _ => False
theorem cY {sts : List Stmt} : lJ X sts BV := fun _ _ _ _ _ _ h => h.elim
end
abbrev TG := V -> St -> Hp -> (St -> Hp -> Prop) -> Prop
abbrev BY := List V -> St -> Hp -> (St -> Hp -> Prop) -> Prop
def PG (X : Cx) (target : Expr) (t : TG) : Prop :=
 ∀ (pins : GR) (s : Shared) (σ : St) (H : Hp) (v : V) (u : Value) (Q : St -> Hp -> Prop), Inv X pins σ H s -> RelV v u -> t v σ H Q ->
  wpAny (model X.prog X.w) X.A (assign target X.env u) (fun _ s' => ∃ σ' H', Inv X pins σ' H' s' /\ Q σ' H') X.xe s
def EM (X : Cx) (ts : List Expr) (t : BY) : Prop :=
 ∀ (pins : GR) (s : Shared) (σ : St) (H : Hp) (vs : List V) (us : GO) (Q : St -> Hp -> Prop), Inv X pins σ H s -> Vals vs us -> t vs σ H Q ->
  wpAny (model X.prog X.w) X.A (assignInOrder ((assignEach ts X.env).map (·.2)) us) (fun _ s' => ∃ σ' H', Inv X pins σ' H' s' /\ Q σ' H') X.xe s
section
variable {X : Cx} {pos : Pos}
def eE (i : Nat) : TG := fun v σ H Q => Q (σ.set i (some v)) H
theorem fj {i : Nat} {x : Str} (hN : X.N.Nodup) (hi : X.N[i]? = some x) (hx : Loc X.env.scope x) (hf : HfX X x := by first | exact .inl rfl | exact .inr rfl | assumption) : PG X (.Name x pos) (eE i) := by
 intro pins s σ H v u Q I r h;exact wpAny_assign_Name (qJ I hN hi hx r (fun s' I' => ⟨_, H, I', h⟩) hf)
def AQ : BY := fun vs σ H Q => vs = [] /\ Q σ H
def lI (t : TG) (u : BY) : BY := fun vs σ H Q => ∃ v r, vs = v :: r /\ t v σ H fun σ' H' => u r σ' H' Q
theorem uA : EM X [] AQ := by
 intro pins s σ H vs us Q I r h;obtain ⟨e, h⟩ := h;subst e;cases r;exact assignInOrder_nil ⟨σ, H, I, h⟩
theorem iK {e : Expr} {es : List Expr} {t : TG} {u : BY} (h1 : PG X e t) (h2 : EM X es u)
 (hs : (assignEach (e :: es) X.env).map (·.2) = assign e X.env :: (assignEach es X.env).map (·.2) := by rfl) : EM X (e :: es) (lI t u) := by
 intro pins s σ H vs us Q I r h;obtain ⟨v, vr, e1, h⟩ := h;subst e1
 cases r with
 | cons r rr =>
  rw [hs];refine assignInOrder_cons (cg (h1 pins s σ H _ _ _ I r h) fun _ s1 ⟨σ1, H1, I1, q1⟩ => ?_);exact h2 pins s1 σ1 H1 _ _ Q I1 rr q1
def Ai (K : Frag) (n : Nat) (t : BY) : TG := fun v σ H Q => ∃ a xs, v = .ref a /\ rH K H a xs /\ xs.length = n /\ t xs σ H Q
theorem xw {es : List Expr} {k : Nat} {t : BY} {n : Nat} (hc : X.calm = true) (h : EM X es t)
 (hn : (assignEach es X.env).length = n := by rfl) (hst : (assignEach es X.env).findIdx? (·.1) = none := by rfl) : PG X (.Tuple es k pos) (Ai X.K n t) := by
 intro pins s σ H v u Q I r hw;obtain ⟨a, xs, e1, hq, hl, hw⟩ := hw;subst e1;cases r;obtain ⟨its, rv, ht, hz⟩ := I.tuple hq;refine assign_Tuple_tuple (I.ok.hd hc) ht (by simp [hn, <- hl, rv.length]) hst fun h' hx => ?_;have I1 : Inv X pins σ H { s with heap := h' } := I.kept (t' := s.toks) fun b o e => hx b o (Nat.ne_of_lt (lt_size e)) e;exact h pins _ σ H xs _ Q I1 (by simpa using rv) hw
def Ca (te : TE) (g : TG) : TS := fun D σ H => te σ H fun x H1 => g x σ H1 D.nx
theorem gi {i : Nat} {x : Str} {e : Expr} {te : TE} {pos' : Pos} (hN : X.N.Nodup) (hi : X.N[i]? = some x) (hx : Loc X.env.scope x) (he : PE X e te) (hs : swapsWith e (some (.Name x pos')) pos.line X.env = pure false := by rfl) (hf : HfX X x := by first | exact .inl rfl | exact .inr rfl | assumption) :
 PS X (.Assign [.Name x pos'] e pos) (Ca te (eE i)) := by
 intro pins s σ H D I h;refine wpAny_Assign_Name (cg (he pins s σ H _ I h) fun v s1 ⟨y, H1, I1, r1, q1⟩ => ?_) hs;exact qJ I1 hN hi hx r1 (fun s2 I2 => ⟨_, H1, I2, q1⟩) hf
end
structure It where
 go : Nat -> Hp -> Prop
 yld : Nat -> Hp -> V -> Hp -> Prop
 stop : Nat -> Hp -> Prop
def gW (X : Cx) (pins : GR) (H : Hp) (b : Addr) : Prop :=
 H b = none /\ b ≠ X.env.locals /\ b ∉ X.fs /\ (b ∈ X.ex \/ X.s₀.heap.get? b = none) /\ (∀ x c, X.env.cells.lookup x = some c -> c ≠ b) /\ ∀ p ∈ X.pn ++ pins, p.1 ≠ b
theorem Inv.ro {X : Cx} {pins : GR} {σ : St} {H H' : Hp} {s : Shared} {b : Addr} (I : Inv X pins σ H s) (hb : s.heap.objs.size <= b) (hn : H' b = none) : gW X pins H' b := by
 refine ⟨hn, Nat.ne_of_gt (Nat.lt_of_lt_of_le I.lt hb), I.E6 hb, .inr (Heap.get?_none_of_le (Nat.le_trans I.sz hb)), fun x c e z => ?_, fun p hp z => ?_⟩
 . obtain ⟨v, q⟩ := I.cell x c e;exact absurd (Nat.lt_of_lt_of_le q.lt (by rw [z]; exact hb)) (Nat.lt_irrefl _)
 . exact absurd (Nat.lt_of_lt_of_le (lt_size (I.pin p hp).1) (by rw [z]; exact hb)) (Nat.lt_irrefl _)
structure Turn (P : Program) (w : World) (K : Frag) (tg : Expr) (J : It) (fp : List Addr) (it : Addr) (tn : Nat -> Heap -> Prop) : Prop where
 mem : it ∈ fp
 obj : ∀ i h, tn i h -> ∀ b ∈ fp, ∃ o, h.get? b = some o /\ ∀ v, o.data ≠ .cell v
 keep : ∀ i h h', tn i h -> (∀ b ∈ fp, ∀ o, h.get? b = some o -> h'.get? b = some o) -> tn i h'
 item : ∀ (X : Cx), X.prog = P -> X.w = w -> X.K = K -> X.calm = true -> ∀ (i : Nat) (pins : GR) (s : Shared) (σ : St) (H : Hp) (E : GJ), Inv X pins σ H s -> (∀ b ∈ fp, gW X pins H b) -> tn i s.heap -> J.go i H ->
  wpAny (model P w) X.A (pyNext (.ref it)) (fun r s1 => ∃ u, r = some u /\
   wpAny (model P w) X.A (letOwnedTupleGo tg (.ref it) u) (fun _ s2 => ∃ x H', Inv X pins σ H' s2 /\ RelV x u /\ J.yld i H x H' /\ tn (i + 1) s2.heap /\ ∀ b ∈ fp, H' b = none) E s1) E s
 done : ∀ (X : Cx), X.prog = P -> X.w = w -> X.K = K -> X.calm = true -> ∀ (i : Nat) (pins : GR) (s : Shared) (σ : St) (H : Hp) (E : GJ), Inv X pins σ H s -> (∀ b ∈ fp, gW X pins H b) -> tn i s.heap -> J.stop i H ->
  wpAny (model P w) X.A (pyNext (.ref it)) (fun r s1 => r = none /\ Inv X pins σ H s1) E s
 self : ∀ (A : Around) (i : Nat) (s : Shared) (Q : GJ) (E : GJ), tn i s.heap -> Q (.ref it) s -> wpAny (model P w) A (pyIter (.ref it)) Q E s
abbrev TI := St -> Hp -> (It -> Hp -> Prop) -> Prop
def Fg (X : Cx) (pins : GR) (σ : St) (tg : Expr) (R : It -> Hp -> Prop) (itv : Value) (s2 : Shared) : Prop :=
 ∃ (it : Addr) (fp : List Addr) (tn : Nat -> Heap -> Prop) (J : It) (H' : Hp), itv = .ref it /\ Inv X pins σ H' s2 /\ Turn X.prog X.w X.K tg J fp it tn /\ tn 0 s2.heap /\ (∀ b ∈ fp, gW X pins H' b) /\ R J H'
def PI (X : Cx) (tg iter : Expr) (wi : TI) : Prop :=
 ∀ (pins : GR) (s : Shared) (σ : St) (H : Hp) (R : It -> Hp -> Prop), Inv X pins σ H s -> wi σ H R ->
  wpAny (model X.prog X.w) X.A (eval iter X.env) (fun v s1 => wpAny (model X.prog X.w) X.A (pyIter v) (Fg X pins σ tg R) X.xe s1) X.xe s
theorem qA {M : Model} {A : Around} {E : GJ} {s : Shared} {tg : Expr} {it : Addr} {u : Value} {o : Obj} {n : String} {vs : GP} {Q : Unit -> Shared -> Prop} (ho : s.heap.get? it = some o) (hc : o.cls = .type n) (hd : o.data = .fields vs)
    (hn : ["enumerate", "zip", "dict_itemiterator", "dict_reverseitemiterator", "odict_iterator", "itertools.zip_longest", "itertools.pairwise"].contains n = false) (hQ : Q () s) : wpAny M A (letOwnedTupleGo tg (.ref it) u) Q E s := by
  unfold letOwnedTupleGo;cases tg <;> first
    | exact wpAny_pure hQ
    | (cases u <;> first
        | exact wpAny_pure hQ
        | (refine wpAny_bind (wpAny_load ho ?_)
           rw [hc, hd];show wpAny M A (if (["enumerate", "zip", "dict_itemiterator", "dict_reverseitemiterator", "odict_iterator", "itertools.zip_longest", "itertools.pairwise"].contains n && vs[0]? == some (rawInt _)) = true then _ else _) Q E s;rw [if_neg (by intro h; rw [hn, Bool.false_and] at h; cases h)];exact wpAny_pure hQ))
def F0 (K : Frag) (a : Addr) : It :=
 ⟨fun i H => ∃ xs x, eP K H a xs /\ xs[i]? = some x, fun i H x H' => H' = H /\ ∀ xs, eP K H a xs -> xs[i]? = some x, fun i H => ∃ xs, eP K H a xs /\ xs.length <= i⟩
def EJ (lo : Int) (n : Nat) : It := ⟨fun i _ => i < n, fun i H x H' => H' = H /\ x = .int (lo + i), fun i _ => n <= i⟩
theorem vP {P : Program} {w : World} {K : Frag} {tg : Expr} (a it : Addr) : Turn P w K tg (F0 K a) [it] it (fun i h => h.IsListIter it a i) where
 mem := by simp
 obj := fun i h st b hb => by
  have e : b = it := by simpa using hb
  subst e;obtain ⟨o, e, c, d⟩ := st;exact ⟨o, e, fun v z => by rw [d] at z; cases z⟩
 keep := fun i h h' st k => st.at fun o e => k it (by simp) o e
 item := by
  intro X hP hw hK hc i pins s σ H E I hf st hg;subst hP hw hK;obtain ⟨xs, x, hq, hx⟩ := hg;obtain ⟨its, rv, p, hz⟩ := I.list hq;obtain ⟨u, hu, ru⟩ := rv.get hx;obtain ⟨f0, f1, f2, f3, f4, f5⟩ := hf it (by simp);refine wpAny_pyNext_list_item st p.isList (x := u) (by simpa using hu) fun h' st' sb => ?_;have I1 : Inv X pins σ H { s with heap := h' } := I.turned (t' := s.toks) (fun b o hb e => (sb.2 b hb).trans e) f0 f1 f3 f4 f5;obtain ⟨o, e, c, d⟩ := id st';exact ⟨u, rfl, qA (s := { s with heap := h' }) e c d (by decide) ⟨x, H, I1, ru, ⟨rfl, fun ys hy => by rw [I.lR hy hq]; exact hx⟩, st', fun b hb => (hf b hb).1⟩⟩
 done := by
  intro X hP hw hK hc i pins s σ H E I hf st hg;subst hP hw hK;obtain ⟨xs, hq, hx⟩ := hg;obtain ⟨its, rv, p, hz⟩ := I.list hq;obtain ⟨f0, f1, f2, f3, f4, f5⟩ := hf it (by simp);have hl := rv.length;exact wpAny_pyNext_list_end (I.ok.hd hc) st p.isList (by simp; omega) fun h' eb => ⟨rfl, I.turned (t' := s.toks) (fun b o hb e => eb b o hb e) f0 f1 f3 f4 f5⟩
 self := fun _ _ _ _ _ st h => wpAny_pyIter_listiter st h
theorem sW {P : Program} {w : World} {K : Frag} {tg : Expr} (it : Addr) (lo : Int) (n : Nat) : Turn P w K tg (EJ lo n) [it] it (fun i h => IsRangeIter h it (lo + (i : Nat) * 1) ((n : Int) - (i : Nat)) 1) where
 mem := by simp
 obj := fun i h st b hb => by
  have e : b = it := by simpa using hb
  subst e;exact ⟨_, st, fun v z => by
   have z' : Data.fields _ = Data.cell v := z;cases z'⟩
 keep := fun i h h' st k => k it (by simp) _ st
 item := by
  intro X hP hw hK hc i pins s σ H E I hf st hg;subst hP hw hK;obtain ⟨f0, f1, f2, f3, f4, f5⟩ := hf it (by simp);have W := Walks.range (prog := X.prog) (w := X.w) (I.ok.hd hc) it lo 1 n;refine W.item i s _ _ hg st fun v h' tk hv st' kk => ?_;obtain ⟨t, rfl⟩ := hv;have I1 : Inv X pins σ H { s with heap := h', toks := tk } := I.turned (fun b o hb e => kk b o (by simpa using hb) e) f0 f1 f3 f4 f5;refine ⟨_, rfl, qA (s := { s with heap := h', toks := tk }) (n := "range_iterator") st' rfl rfl (by decide) ⟨.int (lo + i), H, I1, ⟨t, ?_⟩, ⟨rfl, rfl⟩, st', fun b hb => (hf b hb).1⟩⟩;rw [Int.mul_one]
 done := by
  intro X hP hw hK hc i pins s σ H E I hf st hg;subst hP hw hK;obtain ⟨f0, f1, f2, f3, f4, f5⟩ := hf it (by simp);exact wpAny_pyNext_range_end (I.ok.hd hc) st (by have : n <= i := hg; omega) fun h' eb => ⟨rfl, I.turned (t' := s.toks) (fun b o hb e => eb b o hb e) f0 f1 f3 f4 f5⟩
 self := fun _ _ _ _ _ st h => wpAny_pyIter_rangeiter st h
section
variable {X : Cx} {tg : Expr}
def Em (K : Frag) (tl : TE) : TI := fun σ H R => tl σ H fun x H1 => ∃ a, x = .ref a /\ (∃ xs, eP K H1 a xs) /\ R (F0 K a) H1
theorem AR {l : Expr} {tl : TE} (hl : PE X l tl) : PI X tg l (Em X.K tl) := by
 intro pins s σ H R I h;refine cg (hl pins s σ H _ I h) fun v s1 ⟨x, H1, I1, r1, q1⟩ => ?_;obtain ⟨a, e, ⟨xs, hq⟩, q⟩ := q1;subst e;cases r1;obtain ⟨its, rv, p, hz⟩ := I1.list hq;refine wpAny_pyIter_list p.isList ?_;refine ⟨s1.heap.objs.size, [s1.heap.objs.size], _, _, H1, rfl, I1.kept (t' := s1.toks) fun b o e => get?_push_of_some _ e, vP a _, ⟨_, get?_push_size _ rfl, rfl, rfl⟩, fun b hb => ?_, q⟩;have e : b = s1.heap.objs.size := by simpa using hb
 subst e;exact I1.ro (Nat.le_refl _) (I1.hok.fresh (Nat.le_refl _))
theorem yh {pins : GR} {σ : St} {H : Hp} {s : Shared} {R : It -> Hp -> Prop} {E : GJ} {lo hi : Int} {t u v : Tok} {tk : Nat} (I : Inv X pins σ H s) (h1 : -(2 ^ 62) <= lo) (h2 : lo < 2 ^ 62) (h3 : -(2 ^ 62) <= hi) (h4 : hi < 2 ^ 62)
 (q : R (EJ lo (hi - lo).toNat) H) : wpAny (model X.prog X.w) X.A (pyIter (.ref s.heap.objs.size)) (Fg X pins σ tg R) E { s with heap := s.heap.push { cls := .type "range", data := .fields #[.int lo t, .int hi u, .int 1 v] }, toks := tk } := by
 refine wpAny_pyIter_range (IsRange.new ..) (small_one h1 h2 h3 h4) ?_;have I1 : Inv X pins σ H { s with heap := s.heap.push { cls := .type "range", data := .fields #[.int lo t, .int hi u, .int 1 v] }, toks := tk } := I.kept fun b o e => get?_push_of_some _ e;refine ⟨(s.heap.push { cls := .type "range", data := .fields #[.int lo t, .int hi u, .int 1 v] }).objs.size, [(s.heap.push { cls := .type "range", data := .fields #[.int lo t, .int hi u, .int 1 v] }).objs.size], _, _, H, rfl,
  I1.kept (t' := tk) fun b o e => get?_push_of_some _ e, sW _ lo (hi - lo).toNat, ?_, fun b hb => ?_, q⟩
 . have e1 : lo + ((0 : Nat) : Int) * 1 = lo := by simp
   have e2 : (((hi - lo).toNat : Nat) : Int) - ((0 : Nat) : Int) = Builtin.Range.rangeSize lo hi 1 := by rw [rangeSize_one]; split <;> omega
   show IsRangeIter _ _ (lo + ((0 : Nat) : Int) * 1) ((((hi - lo).toNat : Nat) : Int) - ((0 : Nat) : Int)) 1;rw [e1, e2];exact get?_push_size _ rfl
 . have e : b = (s.heap.push { cls := .type "range", data := .fields #[.int lo t, .int hi u, .int 1 v] }).objs.size := by simpa using hb
   subst e;exact I1.ro (Nat.le_refl _) (I1.hok.fresh (Nat.le_refl _))
def DX (ta : TA) : TI := fun σ H R => ta σ H fun vs H1 => ∃ j : Int, vs = [.int j] /\ -(2 ^ 62) <= j /\ j < 2 ^ 62 /\ R (EJ 0 j.toNat) H1
theorem vy {a : Expr} {ta : TA} {p pos : Pos} (hg : Gl X "range") (hm : X.mg "range" = none) (ha : PA X [a] ta) (hs : starEach [a] X.env = [(false, eval a X.env)] := by rfl) : PI X tg (.Call (.Name "range" p) [a] [] pos) (DX ta) := by
 intro pins s σ H R I h;refine Call_ (iX I hg hm boot_range (PyProof.Rows.callWith_type1 (cg (ha pos pins s σ H _ I h) fun us s1 ⟨vs, H1, I1, r1, q1⟩ => ?_) hs rfl));obtain ⟨j, e, q1, q2, q⟩ := q1;subst e
 cases r1 with
 | cons r rr =>
  cases rr;obtain ⟨t, rfl⟩ := r;exact call_range_1 (yh I1 (by omega) (by omega) q1 q2 (by simpa using q))
def ET (wi : TI) (g : TG) (tb : TS) : TS := fun D σ H => wi σ H fun J H1 => ∃ W : Nat -> Nat -> St -> Hp -> Prop, (∃ m, W 0 m σ H1) /\ ∀ i m σ H, W i m σ H ->
 (J.stop i H /\ D.nx σ H) \/ (J.go i H /\ ∃ N : St -> Hp -> Prop, (∀ σ' H', N σ' H' -> ∃ m', m' < m /\ W (i + 1) m' σ' H') /\ ∀ x H', J.yld i H x H' -> g x σ H' fun σ2 H2 => tb { D with nx := N, ct := N, bk := D.nx } σ2 H2)
def kK (fp : List Addr) (h : Heap) : List (Addr × Obj) := fp.filterMap fun b => (h.get? b).map fun o => (b, o)
theorem fg {fp : List Addr} {h : Heap} {b : Addr} {o : Obj} (hb : b ∈ fp) (e : h.get? b = some o) : (b, o) ∈ kK fp h := List.mem_filterMap.mpr ⟨b, hb, by rw [e]; rfl⟩
theorem vn {fp : List Addr} {h : Heap} {p : Addr × Obj} (hp : p ∈ kK fp h) : p.1 ∈ fp /\ h.get? p.1 = some p.2 := by
 obtain ⟨b, hb, e⟩ := List.mem_filterMap.mp hp
 cases q : h.get? b with
 | none => rw [q] at e; cases e
 | some o =>
  rw [q] at e;have e' : (b, o) = p := Option.some.inj e;subst e';exact ⟨hb, q⟩
theorem Inv.pinned {pins : GR} {σ : St} {H : Hp} {s : Shared} {fp : List Addr} (I : Inv X pins σ H s) (hf : ∀ b ∈ fp, gW X pins H b) (ho : ∀ b ∈ fp, ∃ o, s.heap.get? b = some o /\ ∀ v, o.data ≠ .cell v) : Inv X (pins ++ kK fp s.heap) σ H s :=
 I.tV fun p hp => (mem_append.mp hp).elim (fun z => I.pin p (mem_append_right _ z)) fun z => by
  obtain ⟨hb, e⟩ := vn z;obtain ⟨f0, f1, f2, _⟩ := hf p.1 hb;obtain ⟨o, e', d⟩ := ho p.1 hb;rw [e] at e'; cases e';exact ⟨e, f0, f1, f2, d⟩
theorem Inv.fY {pins pl : GR} {σ : St} {H : Hp} {s : Shared} (I : Inv X (pins ++ pl) σ H s) : Inv X pins σ H s := I.tV fun p hp => I.pin p (mem_append_right _ (List.mem_append_left _ hp))
theorem B5 {iter : Expr} {body : List Stmt} {wi : TI} {g : TG} {tb : TS} {pos : Pos} (hp : PassesOwn (model X.prog X.w) X.A X.env X.xe) (hc : X.calm = true) (hi : PI X tg iter wi) (hg : PG X tg g) (hb : lJ X body tb)
 (hs : ∀ x, foldedSetIterable iter X.env x = pure x := by intro _; rfl) : PS X (.For tg iter body [] pos) (ET wi g tb) := by
 intro pins s σ H D I h;refine wpAny_For (cg (hi pins s σ H _ I h) fun v s1 h1 => cg h1 fun itv s2 h2 => ?_) hs;obtain ⟨it, fp, tn, J, H2, e, I2, T, st2, f2, W, ⟨m0, w0⟩, turn⟩ := h2;subst e
 -- what stays true of the iterator's objects through the loop
 have stat : ∀ {H' : Hp}, (∀ b ∈ fp, H' b = none) -> ∀ b ∈ fp, gW X pins H' b := fun hn b hb => ⟨hn b hb, (f2 b hb).2⟩
 refine codeAny_forLoop_any (fun n s' => ∃ i σ' H', Inv X pins σ' H' s' /\ tn i s'.heap /\ (∀ b ∈ fp, H' b = none) /\ W i n σ' H') ?_ m0 ⟨0, σ, H2, I2, st2, fun b hb => (f2 b hb).1, w0⟩;rintro n s3 ⟨i, σ3, H3, I3, st3, fr3, w3⟩;rcases turn i n σ3 H3 w3 with ⟨stop, qn⟩ | ⟨go, N, hN, step⟩
 . refine wpAny_passesOwn hp (cg (T.done X rfl rfl rfl hc i pins s3 σ3 H3 X.xe I3 (stat fr3) st3 stop) fun r s4 ⟨hr, I4⟩ => ?_);subst hr;exact wpAny_execs_nil ⟨σ3, H3, I4, qn⟩
 . refine wpAny_passesOwn hp (cg (T.item X rfl rfl rfl hc i pins s3 σ3 H3 X.xe I3 (stat fr3) st3 go) fun r s4 ⟨u, hr, h4⟩ => ?_);subst hr;refine wpAny_passesOwn hp (cg h4 fun _ s5 ⟨x, H5, I5, r5, y5, st5, fr5⟩ => ?_);have I5' := I5.pinned (stat fr5) (T.obj _ _ st5);refine wpAny_passesOwn hp (cg (hg _ s5 σ3 H5 x u _ I5' r5 (step x H5 y5)) fun _ s6 ⟨σ6, H6, I6, q6⟩ => ?_);refine wpAny_passesOwn hp (cg (hb _ s6 σ6 H6 _ I6 q6) fun f s7 q7 => ?_);have again : ∀ {σ7 : St} {H7 : Hp}, Inv X (pins ++ kK fp s5.heap) σ7 H7 s7 -> N σ7 H7 -> ∃ m, m < n /\ ∃ i σ' H', Inv X pins σ' H' s7 /\ tn i s7.heap /\ (∀ b ∈ fp, H' b = none) /\ W i m σ' H' := fun {σ7 H7} I7 n7 => by
    obtain ⟨m', hm, w7⟩ := hN σ7 H7 n7;refine ⟨m', hm, i + 1, σ7, H7, I7.fY, T.keep _ _ _ st5 fun b hb o e => (I7.pin (b, o) (mem_append_right _ (mem_append_right _ (fg hb e)))).1, fun b hb => ?_, w7⟩;obtain ⟨o, e, d⟩ := T.obj _ _ st5 b hb;exact (I7.pin (b, o) (mem_append_right _ (mem_append_right _ (fg hb e)))).2.1
   cases f with
   | next => obtain ⟨σ7, H7, I7, n7⟩ := q7; exact again I7 n7
   | cont => obtain ⟨σ7, H7, I7, n7⟩ := q7; exact again I7 n7
   | brk => obtain ⟨σ7, H7, I7, q7⟩ := q7; exact ⟨σ7, H7, I7.fY, q7⟩
   | ret v => obtain ⟨x7, σ7, H7, I7, r7, q7⟩ := q7; exact ⟨x7, σ7, H7, I7.fY, r7, q7⟩
end
abbrev R2 := V -> V -> Hp -> VK -> Prop
def kQ (X : Cx) (f : Value -> Value -> Sem Value) (r : R2) : Prop :=
 ∀ (pins : GR) (s : Shared) (σ : St) (H : Hp) (x y : V) (v u : Value) (Q : VK), Inv X pins σ H s -> RelV x v -> RelV y u -> r x y H Q ->
  wpAny (model X.prog X.w) X.A (f v u) (EP X pins σ Q) X.xe s
def EV (X : Cx) (f : Value -> Sem Value) (r : V -> Hp -> VK -> Prop) : Prop :=
 ∀ (pins : GR) (s : Shared) (σ : St) (H : Hp) (x : V) (v : Value) (Q : VK), Inv X pins σ H s -> RelV x v -> r x H Q ->
  wpAny (model X.prog X.w) X.A (f v) (EP X pins σ Q) X.xe s
def jO (X : Cx) (f : Value) (r : List V -> Hp -> VK -> Prop) : Prop :=
 ∀ (pins : GR) (s : Shared) (σ : St) (H : Hp) (xs : List V) (us : GO) (Q : VK), Inv X pins σ H s -> Vals xs us -> r xs H Q ->
  wpAny (model X.prog X.w) X.A (call f us) (EP X pins σ Q) X.xe s
def EI (r : R2) (ta tb : TE) : TE := fun σ H Q => ta σ H fun x H1 => tb σ H1 fun y H2 => r x y H2 Q
def Gq (r : V -> Hp -> VK -> Prop) (ta : TE) : TE := fun σ H Q => ta σ H fun x H1 => r x H1 Q
def rI (C : Int -> Int -> Prop) (g : Int -> Int -> V) : R2 := fun x y H Q => ∃ i j, x = .int i /\ y = .int j /\ C i j /\ Q (g i j) H
def Dd (g : Int -> Int -> V) : R2 := fun x y H Q => ∃ i j, x = .int i /\ y = .int j /\ Q (g i j) H
def rU (g : Int -> V) : V -> Hp -> VK -> Prop := fun x H Q => ∃ i, x = .int i /\ Q (g i) H
section
variable {X : Cx} {a b c : Expr} {ta tb tc : TE} {pos : Pos}
theorem Cu (ha : PE X a ta) (hb : PE X b tb) {pins : GR} {s : Shared} {σ : St} {H : Hp} {R : V -> V -> Hp -> Prop} (I : Inv X pins σ H s)
 (h : ta σ H fun x H1 => tb σ H1 fun y H2 => R x y H2) {Q : GJ} {f : Value -> Value -> Sem Value}
 (hf : ∀ v u s2 x y H2, Inv X pins σ H2 s2 -> RelV x v -> RelV y u -> R x y H2 -> wpAny (model X.prog X.w) X.A (f v u) Q X.xe s2) :
 wpAny (model X.prog X.w) X.A (eval a X.env) (fun v s₁ => wpAny (model X.prog X.w) X.A (eval b X.env) (fun u s₂ => wpAny (model X.prog X.w) X.A (f v u) Q X.xe s₂) X.xe s₁) X.xe s := by
 refine cg (ha pins s σ H _ I h) fun v s1 ⟨x, H1, I1, r1, q1⟩ => ?_;refine cg (hb pins s1 σ H1 _ I1 q1) fun u s2 ⟨y, H2, I2, r2, q2⟩ => ?_;exact hf v u s2 x y H2 I2 r1 r2 q2
theorem Bp {op : Operator} {r : R2} (ho : kQ X (binaryOp op) r) (ha : PE X a ta) (hb : PE X b tb) : PE X (.BinOp a op b pos) (EI r ta tb) := by
 intro pins s σ H Q I h;exact wpAny_BinOp (Cu ha hb I h fun v u s2 x y H2 I2 rx ry q => ho pins s2 σ H2 x y v u Q I2 rx ry q)
theorem EB {op : UnaryOp} {r : V -> Hp -> VK -> Prop} (ho : EV X (unaryOp op) r) (ha : PE X a ta) : PE X (.UnaryOp op a pos) (Gq r ta) := by
 intro pins s σ H Q I h;exact UnaryOp_ (cg (ha pins s σ H _ I h) fun v s1 ⟨x, H1, I1, r1, q1⟩ => ho pins s1 σ H1 x v Q I1 r1 q1)
theorem Fm {f : Value -> Value -> Sem Value} {C : Int -> Int -> Prop} {g : Int -> Int -> Int}
 (rule : ∀ (i j : Int) (t u : Tok) (s : Shared) (Q : GJ) (E : GJ), C i j -> Q (.int (g i j) s.toks) { s with toks := s.toks + 1 } -> wpAny (model X.prog X.w) X.A (f (.int i t) (.int j u)) Q E s) :
 kQ X f (rI C fun i j => .int (g i j)) := by
 intro pins s σ H x y v u Q I rx ry h;obtain ⟨i, j, rfl, rfl, hc, q⟩ := h;obtain ⟨t, rfl⟩ := rx;obtain ⟨t', rfl⟩ := ry;exact rule i j t t' s _ _ hc ⟨.int (g i j), H, I.tok _, ⟨_, rfl⟩, q⟩
theorem Ey {f : Value -> Value -> Sem Value} {g : Int -> Int -> Int}
 (rule : ∀ (i j : Int) (t u : Tok) (s : Shared) (Q : GJ) (E : GJ), Q (.int (g i j) s.toks) { s with toks := s.toks + 1 } -> wpAny (model X.prog X.w) X.A (f (.int i t) (.int j u)) Q E s) :
 kQ X f (Dd fun i j => .int (g i j)) := by
 intro pins s σ H x y v u Q I rx ry h;obtain ⟨i, j, rfl, rfl, q⟩ := h;obtain ⟨t, rfl⟩ := rx;obtain ⟨t', rfl⟩ := ry;exact rule i j t t' s _ _ ⟨.int (g i j), H, I.tok _, ⟨_, rfl⟩, q⟩
theorem DP {f : Value -> Value -> Sem Value} {g : Int -> Int -> Bool}
 (rule : ∀ (i j : Int) (t u : Tok) (s : Shared) (Q : GJ) (E : GJ), Q (.bool (g i j)) s -> wpAny (model X.prog X.w) X.A (f (.int i t) (.int j u)) Q E s) :
 kQ X f (Dd fun i j => .bl (g i j)) := by
 intro pins s σ H x y v u Q I rx ry h;obtain ⟨i, j, rfl, rfl, q⟩ := h;obtain ⟨t, rfl⟩ := rx;obtain ⟨t', rfl⟩ := ry;exact rule i j t t' s _ _ ⟨.bl (g i j), H, I, rfl, q⟩
def DL (i j : Int) : Prop := 0 < j /\ j < 1073741824
def AV (i j : Int) : Prop := (-(2 ^ 64) < i /\ i < 2 ^ 64) \/ (-(2 ^ 64) < j /\ j < 2 ^ 64)
theorem AV.ok {i j : Int} (h : AV i j) : IntMulOk i j := by
 rcases h with ⟨h1, h2⟩ | ⟨h1, h2⟩
 . exact .of_left (intBits_le_64 h1 h2)
 . exact .of_right (intBits_le_64 h1 h2)
theorem Cb : kQ X (binaryOp .Add) (Dd fun i j => .int (i + j)) := Ey fun _ _ _ _ _ _ _ q => add_int q
theorem BX : kQ X (binaryOp .Sub) (Dd fun i j => .int (i - j)) := Ey fun _ _ _ _ _ _ _ q => sub_int q
theorem Cj : kQ X (binaryOp .Mult) (rI AV fun i j => .int (i * j)) := Fm fun _ _ _ _ _ _ _ hc q => mul_int q hc.ok
theorem Am : kQ X (binaryOp .FloorDiv) (rI DL fun i j => .int (i / j)) := Fm fun i j _ _ _ _ _ hc q => by
 have h1 : (0 : Int) < j := hc.1;have h2 : j < 1073741824 := hc.2;exact floordiv_int (by omega) (by rw [Int.fdiv_eq_ediv_of_nonneg i (by omega)]; exact q) (.inl (PyProof.noPylong_small (by omega)))
theorem BG : kQ X (binaryOp .Mod) (rI (fun _ j => 0 < j) fun i j => .int (i % j)) := Fm fun i j _ _ _ _ _ hc q => by
 have h1 : (0 : Int) < j := hc;exact mod_int' (by omega) (by rw [Int.fmod_eq_emod_of_nonneg i (by omega)]; exact q)
theorem Gy {f : Value -> Sem Value} {g : Int -> Int}
 (rule : ∀ (i : Int) (t : Tok) (s : Shared) (Q : GJ) (E : GJ), Q (.int (g i) s.toks) { s with toks := s.toks + 1 } -> wpAny (model X.prog X.w) X.A (f (.int i t)) Q E s) :
 EV X f (rU fun i => .int (g i)) := by
 intro pins s σ H x v Q I rx h;obtain ⟨i, rfl, q⟩ := h;obtain ⟨t, rfl⟩ := rx;exact rule i t s _ _ ⟨.int (g i), H, I.tok _, ⟨_, rfl⟩, q⟩
theorem CW : EV X (unaryOp .USub) (rU fun i => .int (-i)) := Gy fun _ _ _ _ _ q => neg_int q
end
def Fd : V -> V -> Bool
 | .non, .non => true | .non, .int _ => true | .int _, .non => true | .non, .bl _ => true | .bl _, .non => true | .non, .str _ => true | .str _, .non => true
 | .int _, .int _ => true | .bl _, .bl _ => true | .str _, .str _ => true | .byt _, .byt _ => true
 | .int _, .str _ => true | .str _, .int _ => true | .bl _, .str _ => true | .str _, .bl _ => true
 | _, _ => false
def Gx : R2 := fun x y H Q => Fd x y = true /\ Q (.bl (decide (x = y))) H
theorem Ae {i j : Int} : decide (V.int i = V.int j) = (i == j) := by
 rw [Bool.eq_iff_iff];simp
theorem CG {i j : Bool} : decide (V.bl i = V.bl j) = (i == j) := by
 rw [Bool.eq_iff_iff];simp
theorem zt {i j : Str} : decide (V.str i = V.str j) = (i == j) := by
 rw [Bool.eq_iff_iff];simp
theorem Az {i j : Array UInt8} : decide (V.byt i = V.byt j) = (i.toList == j.toList) := by
 rw [Bool.eq_iff_iff];cases i;cases j;simp
section
variable {X : Cx} {a b c : Expr} {ta tb tc : TE} {pos : Pos}
theorem ck {pins : GR} {σ : St} {H : Hp} {s : Shared} {Q : VK} {k k' : Bool} (I : Inv X pins σ H s) (q : Q (.bl k) H) (e : k = k') : EP X pins σ Q (.bool k') s := by
 subst e;exact ⟨.bl k, H, I, rfl, q⟩
theorem Bo : kQ X (compareOp .Eq) Gx := by
 intro pins s σ H x y v u Q I rx ry h;obtain ⟨hs, q⟩ := h
 cases x with
 | non =>
  cases rx
  cases y with
  | non => cases ry; exact PySem.EqNone.eq_none_none (ck I q (by simp))
  | bl j => cases ry; exact PySem.EqNone.eq_none_bool (ck I q (by simp))
  | int j => obtain ⟨t', rfl⟩ := ry; exact PySem.EqNone.eq_none_int (ck I q (by simp))
  | str j => obtain ⟨t', rfl⟩ := ry; exact PySem.EqNone.eq_none_str (ck I q (by simp))
  | _ => exact absurd (show false = true from hs) Bool.false_ne_true
 | bl i =>
  cases rx
  cases y with
  | non => cases ry; exact PySem.EqNone.eq_bool_none (ck I q (by simp))
  | bl j => cases ry; exact eq_bool (ck I q CG)
  | str j => obtain ⟨t', rfl⟩ := ry; exact PySem.EqMixed.eq_bool_str (ck I q (by simp))
  | _ => exact absurd (show false = true from hs) Bool.false_ne_true
 | int i =>
  obtain ⟨t, rfl⟩ := rx
  cases y with
  | non => cases ry; exact PySem.EqNone.eq_int_none (ck I q (by simp))
  | int j => obtain ⟨t', rfl⟩ := ry; exact eq_int (ck I q Ae)
  | str j => obtain ⟨t', rfl⟩ := ry; exact PySem.EqMixed.eq_int_str (ck I q (by simp))
  | _ => exact absurd (show false = true from hs) Bool.false_ne_true
 | str i =>
  obtain ⟨t, rfl⟩ := rx
  cases y with
  | non => cases ry; exact PySem.EqNone.eq_str_none (ck I q (by simp))
  | bl j => cases ry; exact PySem.EqMixed.eq_str_bool (ck I q (by simp))
  | int j => obtain ⟨t', rfl⟩ := ry; exact PySem.EqMixed.eq_str_int (ck I q (by simp))
  | str j => obtain ⟨t', rfl⟩ := ry; exact eq_str (ck I q zt)
  | _ => exact absurd (show false = true from hs) Bool.false_ne_true
 | byt i =>
  obtain ⟨t, rfl⟩ := rx
  cases y with
  | byt j => obtain ⟨t', rfl⟩ := ry; exact PySem.W.eq_bytes (ck I q Az)
  | _ => exact absurd (show false = true from hs) Bool.false_ne_true
 | _ => cases y <;> exact absurd (show false = true from hs) Bool.false_ne_true
theorem El : kQ X (compareOp .Lt) (Dd fun i j => .bl (decide (i < j))) := DP fun _ _ _ _ _ _ _ q => lt_int q
theorem Ej : kQ X (compareOp .Gt) (Dd fun i j => .bl (decide (j < i))) := DP fun _ _ _ _ _ _ _ q => gt_int q
theorem vp : kQ X (compareOp .In) (fun x y H Q => ∃ i j, x = .str i /\ y = .str j /\ Q (.bl (!(Builtin.Str.occurrences j i 0 j.length 1).isEmpty)) H) := by
 intro pins s σ H x y v u Q I rx ry h;obtain ⟨i, j, rfl, rfl, q⟩ := h;obtain ⟨t, rfl⟩ := rx;obtain ⟨t', rfl⟩ := ry;exact in_str (ck I q rfl)
theorem jk (b : Expr) {op : CmpOp} (h : op ≠ .In := by decide) (h2 : op ≠ .NotIn := by decide) : behindInMarks op b = false := by
 have e1 : (op == CmpOp.In) = false := by cases op <;> first | rfl | exact absurd rfl h
 have e2 : (op == CmpOp.NotIn) = false := by cases op <;> first | rfl | exact absurd rfl h2
 cases b <;> simp [behindInMarks, e1, e2]
theorem zf {op : CmpOp} {r : R2} (ho : kQ X (compareOp op) r) (ha : PE X a ta) (hb : PE X b tb) (hm : behindInMarks op b = false) : PE X (.Compare a [op] [b] pos) (EI r ta tb) := by
 intro pins s σ H Q I h;exact wpAny_Compare1 (Cu ha hb I h fun v u s2 x y H2 I2 rx ry q => ho pins s2 σ H2 x y v u Q I2 rx ry q) hm
def DS (t : TE) : TT := fun σ H Q => t σ H fun x H' => ∃ k, x = .bl k /\ Q k H'
theorem AX {op : CmpOp} {r : R2} (ho : kQ X (compareOp op) r) (ha : PE X a ta) (hb : PE X b tb) (hm : behindInMarks op b = false) : PT X (.Compare a [op] [b] pos) (DS (EI r ta tb)) := by
 intro pins s σ H Q I h;refine wpAny_isTrue_Compare1 (cg (ha pins s σ H _ I h) fun v s1 ⟨x, H1, I1, r1, q1⟩ => cg (hb pins s1 σ H1 _ I1 q1) fun u s2 ⟨y, H2, I2, r2, q2⟩ =>
  cg (ho pins s2 σ H2 x y v u _ I2 r1 r2 q2) fun c s3 ⟨z, H3, I3, r3, k, e, q3⟩ => ?_) hm
 subst e;cases r3;exact wpAny_truthy_bool ⟨H3, I3, q3⟩
theorem kE : (sizeLine : Nat) < 2 ^ 63 := by rw [sizeLine_eq]; decide
theorem sC : kQ X (binaryOp .Add) (fun x y H Q => ∃ i j, x = .str i /\ y = .str j /\ i.length + j.length <= sizeLine /\ Q (.str (i ++ j)) H) := by
 intro pins s σ H x y v u Q I rx ry h;obtain ⟨i, j, rfl, rfl, hz, q⟩ := h;obtain ⟨t, rfl⟩ := rx;obtain ⟨t', rfl⟩ := ry;exact add_str (fun t' tk => ⟨.str (i ++ j), H, I.tok _, ⟨_, rfl⟩, q⟩) hz
theorem vals1 {x : V} {us : GO} (r : Vals [x] us) : ∃ u, us = [u] /\ RelV x u := by
 cases r with
 | cons r1 r2 => cases r2; exact ⟨_, rfl, r1⟩
theorem vals2 {x y : V} {us : GO} (r : Vals [x, y] us) : ∃ u w', us = [u, w'] /\ RelV x u /\ RelV y w' := by
 cases r with
 | cons r1 r2 =>
  cases r2 with
  | cons r3 r4 => cases r4; exact ⟨_, _, rfl, r1, r3⟩
end
structure rT (h : Heap) (x dx C : Addr) (mA : GN) : Prop where
 obj : h.get? x = some (PySem.W.instObj C dx)
 ns : h.Ns1 dx mA
 ne : dx ≠ x
theorem vi {h : Heap} {dx : Addr} {mA : GN} (n : h.Ns1 dx mA) : ∃ od, h.get? dx = some od /\ ∀ name, PySem.W.lookIn name od = some (mA name) := by
 obtain ⟨o, es, ep, ho, hd, hk, _, hm⟩ := n;refine ⟨o, ho, fun name => ?_⟩;have e := hm name;unfold nsFind findBy at e;rw [<- Array.find?_toList] at e;unfold PySem.W.lookIn;rw [hd];dsimp only;split
 . rename_i y q;rw [q] at e;exact congrArg some e
 . rename_i q;rw [q] at e;have a : es.toList.any (·.refKey) = false := by
    rw [List.any_eq_false];intro y hy;obtain ⟨z, t, hkey⟩ := hk y (Array.mem_toList_iff.mp hy);simp [DictEntry.refKey, hkey]
   have a' : ¬ es.toList.any (·.refKey) = true := by rw [a]; exact Bool.false_ne_true
   rw [if_neg a'];exact congrArg some e
theorem rT.look {h : Heap} {x dx C : Addr} {mA : GN} (I : rT h x dx C mA) : ∃ od, PySem.W.InstAt h x (PySem.W.instObj C dx) C (some od) /\ ∀ name, PySem.W.lookIn name od = some (mA name) :=
 let ⟨od, ho, hl⟩ := vi I.ns
 ⟨od, ⟨I.obj, rfl, rfl, ho⟩, hl⟩
section
variable {prog : Program} {w : World} {A : Around} {E : GJ} {s : Shared} {K : Frag} {x dx C f : Addr} {mA : GN} {name : Str} {v : Value}
theorem get_map {expr : Bool} {Q : GJ} (X : K.In s.heap) (I : rT s.heap x dx C mA) (hg : PySem.W.plainGet K C name = true) (hh : PySem.W.hasDictIn K C = true)
 (ha : PySem.W.findIn K (.ref C) name = some none) (hv : mA name = some v) (hv' : PySem.W.handedIn v = true) (h : Q v { s with toks := s.toks + 1 }) :
 wpAny (model prog w) A (getAttr (.ref x) name expr) Q E s := by
 obtain ⟨od, J, hl⟩ := I.look;exact PySem.W.get_value X J (PySem.W.plainGet_of hg).1 (PySem.W.findObj_own hh ha rfl (by rw [hl, hv])) hv' h
theorem xI {pl : Sem Bool} {Q : Value × List Value -> Shared -> Prop} (X : K.In s.heap) (I : rT s.heap x dx C mA) (hg : PySem.W.plainGet K C name = true)
 (hf : PySem.W.findIn K (.ref C) name = some (some (.ref f))) (ht : PySem.W.isFn K (.ref f) = true) (hv : mA name = none) (h : Q (.ref f, [.ref x]) s) :
 wpAny (model prog w) A (getMethod (.ref x) name pl) Q E s := by
 obtain ⟨od, J, hl⟩ := I.look;exact PySem.W.method_fn X J (PySem.W.plainGet_of hg).1 (PySem.W.plainGet_of hg).2 hf (beq_iff_eq.mp ht) (by show (PySem.W.lookIn name od).map (·.isSome) = some false; rw [hl, hv]; rfl) h
theorem zX {ns : GV} {Q : Unit -> Shared -> Prop} (X : K.In s.heap) (I : rT s.heap x dx C mA)
 (hs : PySem.W.findIn K (.ref C) "__setattr__" = some (some (.builtin "object.__setattr__"))) (hp : PySem.W.plainOver K C = true) (ht : PySem.W.takerIn K C name = some none) (hh : PySem.W.hasDictIn K C = true)
 (hw : PySem.Within mA ns) (hsz : ns.length <= sizeLine)
 (h : ∀ h', rT h' x dx C (fun y => if y = name then some v else mA y) -> Heap.SameBut dx s.heap h' -> Q () { s with heap := h', toks := s.toks + 2 }) :
 wpAny (model prog w) A (setAttr (.ref x) name v) Q E s := by
 obtain ⟨od, J, hl⟩ := I.look;refine PySem.W.set_plain X J hs (PySem.W.osa_open (s := { s with toks := s.toks + 1 }) (r := none) X J hp ht fun b => ?_);obtain ⟨cd, hc, hd'⟩ := PySem.W.any_some hh;have hx : s.heap.get? x = some ⟨.ref C, some dx, .plain, #[]⟩ := I.obj;refine wpAny_bind (wpAny_pure (wpAny_bind (wpAny_bind (wpAny_loadPart hx (wpAny_bind (PySem.W.Looks.here (s := { s with toks := s.toks + 1 }) (PySem.W.looks_clsIn X hc) ?_))))));rw [hd'];refine wpAny_pure (a := some dx) (wpAny_bind (wpAny_pure (wpAny_bind ?_)));refine wpAny_nsSet1 (s := { s with toks := s.toks + 1 }) I.ns fun h' hn2 hs2 => ?_;obtain ⟨oD, esD, epD, hoD, hdD, hcD⟩ := hn2.count (PySem.Within.cons name v hw);refine wpAny_bind (wpAny_lookBehind hoD (by rw [hdD]; exact pastItsLine_dict (Nat.le_trans hcD (by rw [length_cons]; omega))) ?_);exact wpAny_pure (h _ ⟨(hs2.2 _ (Ne.symm I.ne)).trans I.obj, hn2, I.ne⟩ hs2)
theorem xO {R : Result -> Shared -> Prop} {vs : GO} {kw : List (Str × Value)} (X : K.In s.heap) (hm : PySem.W.makesIn K C = true)
 (hi : PySem.W.findIn K (.ref C) "__init__" = some (some (.ref f))) (hf : PySem.W.typeIn K (.ref f) = some (.type "function"))
 (h : codeAny (model prog w) (A.under (.builtin "type.__call__" ⟨.ref C :: vs, kw⟩)) (.call (.ref f) ⟨.ref (s.heap.objs.size + 1) :: vs, kw⟩) (PySem.W.InitBack (s.heap.objs.size + 1) R)
  { s with heap := (s.heap.push PySem.W.emptyDict).push (PySem.W.instObj C s.heap.objs.size) }) :
 codeAny (model prog w) A (.call (.ref C) ⟨vs, kw⟩) R s := by
 obtain ⟨hh, g, d, t, os⟩ := s;exact PySem.W.make_core (PySem.W.makes_of X hm) (PySem.W.looks_findIn X hi) (fun self => PySem.W.bind_fn X self hf) (.inl rfl) h
end
def eN (f : Str) (v : V) : List (Str × V) -> List (Str × V)
 | [] => [(f, v)]
 | (g, x) :: r => if g = f then (g, v) :: r else (g, x) :: eN f v r
theorem jH (f g : Str) (v : V) : ∀ fs : List (Str × V), (eN f v fs).lookup g = if g = f then some v else fs.lookup g
 | [] => by
  show List.lookup g [(f, v)] = _;by_cases h : g = f
  . have hb : (g == f) = true := beq_iff_eq.mpr h;simp only [List.lookup, hb, if_pos h]
  . have hb : (g == f) = false := beq_eq_false_iff_ne.mpr h;simp only [List.lookup, hb, if_neg h]
 | (k, x) :: r => by
  have ih := jH f g v r;rw [show eN f v ((k, x) :: r) = (if k = f then (k, v) :: r else (k, x) :: eN f v r) from rfl];by_cases hk : k = f
  . rw [if_pos hk];by_cases h : g = k
    . have hb : (g == k) = true := beq_iff_eq.mpr h;simp only [List.lookup, hb, if_pos (h.trans hk)]
    . have hb : (g == k) = false := beq_eq_false_iff_ne.mpr h;simp only [List.lookup, hb, if_neg (fun e : g = f => h (e.trans hk.symm))]
  . rw [if_neg hk];by_cases h : g = k
    . have hb : (g == k) = true := beq_iff_eq.mpr h;simp only [List.lookup, hb, if_neg (fun e : g = f => hk (h.symm.trans e))]
    . have hb : (g == k) = false := beq_eq_false_iff_ne.mpr h;simp only [List.lookup, hb];exact ih
theorem iY (f : Str) (v : V) : ∀ fs : List (Str × V), f ∈ (eN f v fs).map (·.1) /\ ∀ g, g ∈ fs.map (·.1) -> g ∈ (eN f v fs).map (·.1)
 | [] => ⟨by simp [eN], fun g h => by simp at h⟩
 | (k, x) :: r => by
  obtain ⟨i1, i2⟩ := iY f v r;rw [show eN f v ((k, x) :: r) = (if k = f then (k, v) :: r else (k, x) :: eN f v r) from rfl];by_cases hk : k = f
  . rw [if_pos hk];subst hk;exact ⟨by simp, fun g h => by simpa using h⟩
  . rw [if_neg hk];refine ⟨?_, fun g h => ?_⟩
    . rw [map_cons];exact mem_cons_of_mem _ i1
    . rw [map_cons] at h ⊢;rcases mem_cons.mp h with e | e
      . exact mem_cons.mpr (.inl e)
      . exact mem_cons_of_mem _ (i2 g e)
theorem jR (f : Str) (v : V) : ∀ fs : List (Str × V), (eN f v fs).length <= fs.length + 1
 | [] => by simp [eN]
 | (k, x) :: r => by
  have ih := jR f v r;rw [show eN f v ((k, x) :: r) = (if k = f then (k, v) :: r else (k, x) :: eN f v r) from rfl];by_cases hk : k = f
  . rw [if_pos hk, length_cons, length_cons]; omega
  . rw [if_neg hk, length_cons, length_cons]; omega
theorem fX.some_of {v : V} {o : Option Value} (r : fX (some v) o) : ∃ u, o = some u /\ RelV v u := by
 cases o with
 | none => exact (show False from r).elim
 | some u => exact ⟨u, rfl, r⟩
theorem fX.none_of {o : Option Value} (r : fX none o) : o = none := by
 cases o with
 | none => rfl
 | some u => exact (show False from r).elim
theorem we {v : V} {u : Value} (r : RelV v u) : PySem.W.handedIn u = true := by
 cases v with
 | non => cases (show u = Value.none from r); rfl
 | bl b => cases (show u = Value.bool b from r); rfl
 | int i => obtain ⟨t, e⟩ := (show ∃ t, u = Value.int i t from r); cases e; rfl
 | str x => obtain ⟨t, e⟩ := (show ∃ t, u = Value.str x t from r); cases e; rfl
 | byt b => obtain ⟨t, e⟩ := (show ∃ t, u = Value.bytes b t from r); cases e; rfl
 | flt b => obtain ⟨t, e⟩ := (show ∃ t, u = Value.float b t from r); cases e; rfl
 | ref a => cases (show u = Value.ref a from r); rfl
 | ty n => cases (show u = Value.type n from r); rfl
section
variable {P : Program} {w : World} {H H' : Hp} {h h' : Heap} {a C dx : Addr} {fs fs' : List (Str × V)}
theorem oC (hok : gv P w H h) (e : H a = some (.ins C dx fs)) : ∃ mA, rT h a dx C mA /\ (∀ f, fX (fs.lookup f) (mA f)) /\ PySem.Within mA (fs.map (·.1)) /\ fs.length <= 1000 /\ H dx = some (.own a) := by
 obtain ⟨d, z, ne, ob, mA, n, r, q⟩ := (show bz P w H h a (.ins C dx fs) from hok a _ e)
 exact ⟨mA, ⟨ob, n, ne⟩, r, q, z, d⟩
end
structure mD (K : Frag) (C : Addr) : Prop where
 pg : PySem.W.plainGet K C Str.empty = true
 hd : PySem.W.hasDictIn K C = true
 po : PySem.W.plainOver K C = true
 sa : PySem.W.findIn K (.ref C) "__setattr__" = some (some (.builtin "object.__setattr__"))
theorem mD.get {K : Frag} {C : Addr} (c : mD K C) (f : Str) : PySem.W.plainGet K C f = true := c.pg
def cM (K : Frag) (C : Addr) (f : Str) : Prop := PySem.W.findIn K (.ref C) f = some none
theorem cM.Ee {K : Frag} {C : Addr} {f : Str} (n : cM K C f) : PySem.W.takerIn K C f = some none := by
 unfold PySem.W.takerIn;rw [show PySem.W.findIn K (.ref C) f = some none from n];rfl
structure Meth (K : Frag) (C : Addr) (m : Str) (f : Addr) : Prop where
 at_ : PySem.W.findIn K (.ref C) m = some (some (.ref f))
 fn : PySem.W.isFn K (.ref f) = true
 kp : keepIn K (.ref f) = true
section
variable {X : Cx} {pins : GR} {σ : St} {H : Hp} {s : Shared} {a C dx : Addr} {fs : List (Str × V)} {f : Str} {v : V} {A : Around} {E : GJ}
theorem sT {b : Bool} {Q : GJ} (I : Inv X pins σ H s) (e : H a = some (.ins C dx fs)) (c : mD X.K C) (n : cM X.K C f) (l : fs.lookup f = some v)
 (h : ∀ u s', Inv X pins σ H s' -> RelV v u -> Q u s') : wpAny (model X.prog X.w) A (getAttr (.ref a) f b) Q E s := by
 obtain ⟨mA, O, r, _, _, _⟩ := oC I.hok e;obtain ⟨u, hu, ru⟩ := fX.some_of (v := v) (o := mA f) (by rw [<- l]; exact r f);exact get_map I.rJ O (c.get f) c.hd n hu (we ru) (h u _ (I.tok _) ru)
theorem mh {m : Str} {g : Addr} {pl : Sem Bool} {Q : Value × List Value -> Shared -> Prop} (I : Inv X pins σ H s) (e : H a = some (.ins C dx fs)) (c : mD X.K C) (k : Meth X.K C m g) (l : fs.lookup m = none)
 (h : Q (.ref g, [.ref a]) s) : wpAny (model X.prog X.w) A (getMethod (.ref a) m pl) Q E s := by
 obtain ⟨mA, O, r, _, _, _⟩ := oC I.hok e;have hn : mA m = none := fX.none_of (by rw [<- l]; exact r m);exact xI I.rJ O (c.get m) k.at_ k.fn hn h
theorem sM {y : V} {u : Value} {Q : Unit -> Shared -> Prop} (I : Inv X pins σ H s) (e : H a = some (.ins C dx fs)) (c : mD X.K C) (n : cM X.K C f) (hl : fs.length < 1000) (ry : RelV y u)
 (h : ∀ s', Inv X pins σ (upd H a (.ins C dx (eN f y fs))) s' -> Q () s') : wpAny (model X.prog X.w) A (setAttr (.ref a) f u) Q E s := by
 obtain ⟨mA, O, r, wi, _, ho⟩ := oC I.hok e;have hz : (fs.map (·.1)).length <= sizeLine := by rw [length_map, sizeLine_eq]; omega
 refine zX I.rJ O c.sa c.po n.Ee c.hd wi hz fun h' O' sb => h _ ?_;have hd : ∃ o, h'.get? dx = some o := let ⟨o, _, _, e', _⟩ := O'.ns; ⟨o, e'⟩;refine I.write (x := a) (e := dx) (by rw [e]; exact True.intro) (.inr ho) (fun b q hb z => (sb.2 b hb).trans z) hd ?_;refine ⟨by rw [aa O.ne]; exact ho, ?_, O.ne, O'.obj, _, O'.ns, fun g => ?_, fun g hg => ?_⟩
 . have := jR f y fs; omega
 . show fX ((eN f y fs).lookup g) (if g = f then some u else mA g);rw [jH];by_cases q : g = f
   . rw [if_pos q, if_pos q]; exact ry
   . rw [if_neg q, if_neg q]; exact r g
 . by_cases q : g = f
   . rw [q]; exact (iY f y fs).1
   . refine (iY f y fs).2 g (wi g fun z => hg ?_);show (if g = f then some u else mA g) = none;rw [if_neg q]; exact z
theorem Inv.made (I : Inv X pins σ H s) : Inv X pins σ (upd (upd H s.heap.objs.size (.own (s.heap.objs.size + 1))) (s.heap.objs.size + 1) (.ins C s.heap.objs.size []))
 { s with heap := (s.heap.push PySem.W.emptyDict).push (PySem.W.instObj C s.heap.objs.size) } := by
 have e1 : (s.heap.push PySem.W.emptyDict).get? s.heap.objs.size = some PySem.W.emptyDict := get?_push_size s.heap rfl;have e2 : ((s.heap.push PySem.W.emptyDict).push (PySem.W.instObj C s.heap.objs.size)).get? (s.heap.objs.size + 1) = some (PySem.W.instObj C s.heap.objs.size) := by
  have := get?_push_size (s.heap.push PySem.W.emptyDict) (o := PySem.W.instObj C s.heap.objs.size) rfl
  rwa [Heap.size_push] at this
 have e3 : (s.heap.push PySem.W.emptyDict).Ns s.heap.objs.size (fun _ => none) := ⟨PySem.W.emptyDict, #[], _, e1, rfl, (fun e he => absurd he (by simp)), fun _ => rfl⟩
 have I1 := I.laid (a := s.heap.objs.size) (o := .own (s.heap.objs.size + 1)) (h' := s.heap.push PySem.W.emptyDict) (t' := s.toks) (fun b u q => get?_push_of_some _ q) (Nat.le_refl _) ⟨_, e1⟩;refine I1.laid (a := s.heap.objs.size + 1) (o := .ins C s.heap.objs.size []) (t' := s.toks) (fun b u q => get?_push_of_some _ q) (Nat.le_of_eq (Heap.size_push _ _)) ?_;have ne : s.heap.objs.size ≠ s.heap.objs.size + 1 := Nat.ne_of_lt (Nat.lt_succ_self _);refine ⟨by rw [aa ne, ae], Nat.zero_le _, ne, e2, fun _ => none, (Heap.Ns1.of_empty e3).at fun o q => get?_push_of_some _ q, fun _ => True.intro, fun y hy => absurd rfl hy⟩
theorem Ak {prog : Program} {w : World} {env : Env} {e : Expr} {f : Str} {pos : Pos} {s : Shared} {Q : GJ} (hb : attributeBase e f env (eval e env) = eval e env)
 (h : wpAny (model prog w) A (eval e env) (fun o s₁ => wpAny (model prog w) A (getAttr o f true) Q E s₁) E s) : wpAny (model prog w) A (eval (.Attribute e f pos) env) Q E s :=
 Attribute_any_ h (by rw [arm_eval_Attribute, hb])
end
def FA (K : Frag) (ta : TE) (f : Str) : TE := fun σ H Q => ta σ H fun x H1 => ∃ a C dx fs v, x = .ref a /\ H1 a = some (.ins C dx fs) /\ mD K C /\ cM K C f /\ fs.lookup f = some v /\ Q v H1
def Fw (K : Frag) (ta tv : TE) (f : Str) : TS := fun D σ H => tv σ H fun y H1 => ta σ H1 fun x H2 => ∃ a C dx fs, x = .ref a /\ H2 a = some (.ins C dx fs) /\ mD K C /\ cM K C f /\ fs.length < 1000 /\
 D.nx σ (upd H2 a (.ins C dx (eN f y fs)))
section
variable {X : Cx} {o e value : Expr} {f : Str} {pos pos' tpos : Pos} {ta tv : TE}
theorem kz (he : PE X e ta) (hb : attributeBase e f X.env (eval e X.env) = eval e X.env) : PE X (.Attribute e f pos) (FA X.K ta f) := by
 intro pins s σ H Q I h;refine Ak hb (cg (he pins s σ H _ I h) fun u s1 ⟨x, H1, I1, rx, a, C, dx, fs, v, ex, ea, c, n, l, q⟩ => ?_);subst ex;obtain rfl : u = Value.ref a := rx;exact sT I1 ea c n l fun u' s2 I2 ru => ⟨v, H1, I2, ru, q⟩
theorem BE (ha : PE X o ta) (hv : PE X value tv) (hs : swapsWith value (some (.Attribute o f pos')) pos.line X.env = pure false) : PS X (.Assign [.Attribute o f pos'] value pos) (Fw X.K ta tv f) := by
 intro pins s σ H D I h;refine plainObj_wpAny_Assign_Attribute (cg (hv pins s σ H _ I h) fun u s1 ⟨y, H1, I1, ry, q⟩ => cg (ha pins s1 σ H1 _ I1 q) fun ov s2 ⟨x, H2, I2, rx, a, C, dx, fs, ex, ea, c, n, l, q2⟩ => ?_) hs;subst ex;obtain rfl : ov = Value.ref a := rx;exact sM I2 ea c n l ry fun s3 I3 => ⟨σ, _, I3, q2⟩
end
structure bo (k : Nat) (A : Around) : Prop where
 hd : A.handled = none
 dp : A.depth + 3 * k + 5 < recursionLimit
 un : A.units + 16 * k + 200 < cLine
theorem bo.mono {j k : Nat} {A : Around} (r : bo k A) (h : j <= k) : bo j A := ⟨r.hd, by have := r.dp; omega, by have := r.un; omega⟩
theorem bo.deeper {k : Nat} {A : Around} (r : bo (k + 1) A) (env : Env) : bo k (A.deeper env) :=
 ⟨r.hd, by have := r.dp; show A.depth + 1 + 3 * k + 5 < _; omega, by have := r.un; show A.units + 3 + 16 * k + 200 < _; omega⟩
theorem bo.in1 {k : Nat} {A : Around} (r : bo (k + 1) A) : bo k A.in1 :=
 ⟨r.hd, by have := r.dp; show A.depth + 3 * k + 5 < _; omega, by have := r.un; show A.units + 1 + 16 * k + 200 < _; omega⟩
theorem sQ {A : Around} {C : Addr} {us : GO} {kw : List (Str × Value)} : (A.under (.builtin "type.__call__" ⟨.ref C :: us, kw⟩)).depth = A.depth + 1 := by
 first | rfl | simp [Around.under, Code.weight, Code.isCreation, Code.isGuard, Code.isCaller, Code.frames, Code.isFrame, guardIds]
theorem r8 {A : Around} {C : Addr} {us : GO} {kw : List (Str × Value)} : (A.under (.builtin "type.__call__" ⟨.ref C :: us, kw⟩)).units = A.units + 1 := by
 first | rfl | simp [Around.under, Code.cUnits, Code.frames, Code.isFrame]
theorem bo.make {k : Nat} {A : Around} (r : bo (k + 1) A) (C : Addr) (us : GO) (kw : List (Str × Value)) : bo k (A.under (.builtin "type.__call__" ⟨.ref C :: us, kw⟩)) :=
 ⟨r.hd, by have := r.dp; rw [sQ]; omega, by have := r.un; rw [r8]; omega⟩
theorem bo.depth {k : Nat} {A : Around} (r : bo k A) : A.depth < recursionLimit := by have := r.dp; omega
theorem bo.units {k : Nat} {A : Around} (r : bo k A) : A.units + 64 < cLine := by have := r.un; omega
def CB : TA := fun _ H Q => Q [] H
def Dj (ta : TE) (tr : TA) : TA := fun σ H Q => ta σ H fun x H1 => tr σ H1 fun xs H2 => Q (x :: xs) H2
section
variable {X : Cx} {e : Expr} {es : List Expr} {te : TE} {t : TA} {pos : Pos}
theorem bc : PA X [] CB := fun _ _ _ _ H Q I h => Calls.spliced_nil ⟨[], H, I, .nil, h⟩
theorem aJ (ha : PE X e te) (hr : PA X es t) (hs : starEach (e :: es) X.env = (false, eval e X.env) :: starEach es X.env := by rfl) : PA X (e :: es) (Dj te t) := by
 intro pos pins s σ H Q I h;rw [hs];show wpAny _ _ (spliced ((false, eval e X.env) :: backTo pos (starEach es X.env))) _ _ s;refine Calls.spliced_cons (cg (ha pins s σ H _ I h) fun u s1 ⟨x, H1, I1, r1, q1⟩ => ?_);exact cg (hr pos pins s1 σ H1 _ I1 q1) fun us s2 ⟨xs, H2, I2, r2, q2⟩ => ⟨x :: xs, H2, I2, .cons r1 r2, q2⟩
def EW (t : TA) : TE := fun σ H Q => t σ H fun xs H1 => xs.length <= sizeLine /\ ∀ p, H1 p = none -> Q (.ref p) (upd H1 p (.tup xs))
def EY (t : TA) : TE := fun σ H Q => t σ H fun xs H1 => xs.length <= sizeLine /\ ∀ p, H1 p = none -> Q (.ref p) (upd H1 p (.lst xs))
theorem wQ {x1} (h : PA X es t) : PE X (.Tuple es x1 pos) (EW t) := by
 intro pins s σ H Q I hq;refine wpAny_Tuple_spliced (cg (h pos pins s σ H _ I hq) fun us s1 ⟨xs, H1, I1, r, z, q⟩ => ⟨by rw [<- r.length]; exact z, ?_⟩);have hf : H1 s1.heap.objs.size = none := I1.hok.fresh (Nat.le_refl _);refine ⟨.ref s1.heap.objs.size, upd H1 s1.heap.objs.size (.tup xs), I1.laid (t' := s1.toks) (fun b u e => get?_push_of_some _ e) (Nat.le_refl _) ?_, rfl, q _ hf⟩;exact ⟨z, us, r, ⟨_, get?_push_size _ rfl, rfl, _, rfl⟩⟩
theorem su (h : PA X es t) : PE X (.List es pos) (EY t) := by
 intro pins s σ H Q I hq;refine wpAny_List_spliced (cg (h pos pins s σ H _ I hq) fun us s1 ⟨xs, H1, I1, r, z, q⟩ => ⟨by rw [<- r.length]; exact z, ?_⟩);have hf : H1 s1.heap.objs.size = none := I1.hok.fresh (Nat.le_refl _);refine ⟨.ref s1.heap.objs.size, upd H1 s1.heap.objs.size (.lst xs), I1.laid (t' := s1.toks) (fun b u e => get?_push_of_some _ e) (Nat.le_refl _) ?_, rfl, q _ hf⟩;exact ⟨z, us, 0, r, get?_push_size _ rfl⟩
end
abbrev Sp := List V -> Hp -> VK -> XK -> Prop
abbrev zD := List Env -> Hp -> Shared -> XK -> Value -> Shared -> Prop
structure mF (P : Program) (w : World) (K : Frag) (mg : GN) (base : Heap) (A : Around) (outer : List Env) (s : Shared) (H : Hp) : Prop where
 frames : A.frames = some outer
 mod : Mod K mg base
 bs : ∀ b o, base.get? b = some o -> s.heap.get? b = some o /\ H b = none
 bsz : base.objs.size <= s.heap.objs.size
 gX : s.heap.FunFrames base outer
 frf : ∀ b ∈ wy outer, H b = none
 hok : gv P w H s.heap
 bare : AllBare s.gens
def CE (outer : List Env) (P : Program) (w : World) (H : Hp) (s : Shared) (Q : VK) (u : Value) (s' : Shared) : Prop :=
 ∃ v H', s'.os = s.os /\ AllBare s'.gens /\ Un (wy outer) [] H H' s.heap s'.heap /\ gv P w H' s'.heap /\ RelV v u /\ Q v H'
def CR (CX : zD) (outer : List Env) (P : Program) (w : World) (H : Hp) (s : Shared) (Q : VK) (E : XK) (r : Result) (s' : Shared) : Prop :=
 match r with
 | .ok (.ret u) => CE outer P w H s Q u s'
 | .ok _ => False
 | .error e => CX outer H s E e s'
structure bR (P : Program) (w : World) (K : Frag) (mg : GN) (base : Heap) (CX : zD) (k : Nat) (f : Addr) (fd : FuncData) (ps : GV) (sp : Sp) : Prop where
 len : ∀ vs H Q E, sp vs H Q E -> vs.length = ps.length
 run : ∀ (A : Around) (outer : List Env) (s : Shared) (H : Hp) (args : Args) (us : GO) (vs : List V) (Q : VK) (E : XK), bo k A -> mF P w K mg base A outer s H -> BindsTo s fd args (ps.zip us) -> Vals vs us -> sp vs H Q E ->
  codeAny (model P w) A (.call (.ref f) args) (CR CX outer P w H s Q E) s
theorem bR.imp {P : Program} {w : World} {K : Frag} {mg : GN} {base : Heap} {CX : zD} {k : Nat} {f : Addr} {fd : FuncData} {ps : GV} {sp sp' : Sp} (F : bR P w K mg base CX k f fd ps sp)
 (h : ∀ vs H Q E, sp' vs H Q E -> sp vs H Q E) : bR P w K mg base CX k f fd ps sp' :=
 ⟨fun vs H Q E q => F.len vs H Q E (h _ _ _ _ q), fun A outer s H args us vs Q E hr he hb hv hs => F.run A outer s H args us vs Q E hr he hb hv (h _ _ _ _ hs)⟩
theorem mF.make {P : Program} {w : World} {K : Frag} {mg : GN} {base : Heap} {A : Around} {outer : List Env} {s : Shared} {H : Hp} (e : mF P w K mg base A outer s H) (C : Addr) (us : GO) (kw : List (Str × Value)) :
 mF P w K mg base (A.under (.builtin "type.__call__" ⟨.ref C :: us, kw⟩)) outer s H := ⟨by first | exact e.frames | (simpa [Around.under, Code.envs, Code.isFrame, pushEnvs] using e.frames), e.mod, e.bs, e.bsz, e.gX, e.frf, e.hok, e.bare⟩
section
variable {X : Cx} {pins : GR} {σ : St} {H : Hp} {s s' : Shared}
theorem Inv.mH (I : Inv X pins σ H s) : mF X.prog X.w X.K X.mg X.base X.A X.stack s H :=
 ⟨I.ok.frames, I.ok.mod, I.bs, Nat.le_trans I.ok.bsz I.sz, I.stack, I.uT, I.hok, I.bare⟩
theorem Inv.after {Q : VK} {u : Value} (I : Inv X pins σ H s) (h : CE X.stack X.prog X.w H s Q u s') : EP X pins σ Q u s' := by
 obtain ⟨v, H', os, bare, un, hok, r, q⟩ := h;obtain ⟨hh, g, d, t, os'⟩ := s';obtain rfl : os' = s.os := os;exact ⟨v, H', I.call (h' := hh) (g' := g) (d' := d) (t' := t) (ch := []) un hok bare (fun b z => absurd z (by simp)), r, q⟩
end
def DY (sp : Sp) (dvs : List V) (E : XK) (t : TA) : TE := fun σ H Q => t σ H fun vs H1 => sp (vs ++ dvs) H1 Q E
def Bl (C : Addr) (m : Str) (sp : Sp) (dvs : List V) (E : XK) (ta : TE) (t : TA) : TE := fun σ H Q => ta σ H fun x H1 => ∃ a dx fs, x = .ref a /\ H1 a = some (.ins C dx fs) /\ fs.lookup m = none /\
 t σ H1 fun vs H2 => sp (x :: (vs ++ dvs)) H2 Q E
def DR (C : Addr) (sp : Sp) (dvs : List V) (E : XK) (t : TA) : TE := fun σ H Q => t σ H fun vs H1 => ∀ x dx, H1 x = none -> H1 dx = none -> dx ≠ x ->
 sp (.ref x :: (vs ++ dvs)) (upd (upd H1 dx (.own x)) x (.ins C dx [])) (fun v H2 => v = .non /\ Q (.ref x) H2) E
def Binds (K : Frag) (fd : FuncData) (ps : GV) (ds : GO) : Prop :=
 ∀ (s : Shared) (us : GO), K.In s.heap -> (us ++ ds).length = ps.length -> BindsTo s fd ⟨us, []⟩ (ps.zip (us ++ ds))
theorem Binds.all {K : Frag} {fd : FuncData} {ps : GV} (h : ∀ us : List Value, us.length = ps.length -> bindArgs fd ⟨us, []⟩ = pure (ps.zip us)) : Binds K fd ps [] := fun s us _ hl => by
 rw [append_nil] at hl ⊢;exact .of_eq (h us hl)
def Passes (CX : zD) (X : Cx) (E : XK) : Prop := ∀ (pins : GR) (σ : St) (H : Hp) (s : Shared) (e : Value) (s' : Shared), Inv X pins σ H s -> CX X.stack H s E e s' -> X.xe e s'
section
variable {X : Cx} {CX : zD} {k : Nat} {f C : Addr} {fd : FuncData} {ps : GV} {sp : Sp} {dvs : List V} {ds : GO} {E : XK} {x m : Str} {p pos apos : Pos} {e o : Expr} {es : List Expr} {ta : TE} {t : TA}
theorem sV {pins : GR} {σ : St} {H : Hp} {s : Shared} {Q : VK} {us : GO} {vs : List V} (F : bR X.prog X.w X.K X.mg X.base CX k f fd ps sp) (hr : bo k X.A) (hb : Binds X.K fd ps ds) (hd : Vals dvs ds) (hx : Passes CX X E)
 (I : Inv X pins σ H s) (r : Vals vs us) (h : sp (vs ++ dvs) H Q E) : wpAny (model X.prog X.w) X.A (call (.ref f) us) (EP X pins σ Q) X.xe s := by
 have r2 : Vals (vs ++ dvs) (us ++ ds) := r.append hd;have hl : (us ++ ds).length = ps.length := by rw [<- r2.length]; exact F.len _ _ _ _ h
 refine wpAny_call (codeAny_mono (F.run X.A X.stack s H ⟨us, []⟩ (us ++ ds) (vs ++ dvs) Q E hr I.mH (hb s us I.rJ hl) r2 h) fun r s' hq => ?_)
 cases r with
 | error e => exact hx pins σ H s e s' I hq
 | ok fl =>
  cases fl with
  | ret u => exact I.after hq
  | next => exact False.elim hq
  | brk => exact False.elim hq
  | cont => exact False.elim hq
theorem oO (F : bR X.prog X.w X.K X.mg X.base CX k f fd ps sp) (hr : bo k X.A) (hg : Gl X x) (hm : X.mg x = some (.ref f)) (hk : keepIn X.K (.ref f) = true) (hb : Binds X.K fd ps ds) (hd : Vals dvs ds) (hx : Passes CX X E)
 (ha : PA X (e :: es) t) (hdb : NdX x := by decide) (he : starEach (e :: es) X.env = (false, eval e X.env) :: starEach es X.env := by rfl) (hpl : (backTo pos (starEach es X.env)).any (·.1) = false := by rfl) :
 PE X (.Call (.Name x p) (e :: es) [] pos) (DY sp dvs E t) := by
 intro pins s σ H Q I h;refine wpAny_Call_Name_kw (oE I hg hm ?_ hdb);refine PySem.W.callWith_K (h₀ := X.base) I.ok.mod.kin hk (cg (ha pos pins s σ H _ I h) fun us s1 ⟨vs, H1, I1, r, q⟩ => ⟨I1.rJ, ?_⟩) he hpl;exact sV F hr hb hd hx I1 r q
theorem tT {pl : Sem Bool} (he : PE X o ta) (c : mD X.K C) (hm : Meth X.K C m f) (F : bR X.prog X.w X.K X.mg X.base CX k f fd ps sp) (hr : bo k X.A) (hb : Binds X.K fd ps ds) (hd : Vals dvs ds) (hx : Passes CX X E) (ha : PA X (e :: es) t)
 (hst : starEach (e :: es) X.env = (false, eval e X.env) :: starEach es X.env := by rfl) (hpl : (backTo pos (starEach es X.env)).any (·.1) = false := by rfl)
 (ht : eval (.Call (.Attribute o m apos) (e :: es) [] pos) X.env = (do
  let ov <- eval o X.env
  standAt apos.atName
  let (f, first) <- holding [ov] (getMethod ov m pl)
  callWith pos f first (backTo pos (starEach (e :: es) X.env)) (backToKw pos (keywordEach [] X.env))) := by rfl) :
 PE X (.Call (.Attribute o m apos) (e :: es) [] pos) (Bl C m sp dvs E ta t) := by
 intro pins s σ H Q I h;refine PySem.W.methodCall_KW (pl := pl) (cg (he pins s σ H _ I h) fun u s1 ⟨x, H1, I1, rx, a, dx, fs, ex, ea, l, q⟩ => ?_) ht;subst ex;obtain rfl : u = Value.ref a := rx;refine mh I1 ea c hm l ?_;refine PySem.W.callWith_K (first := [.ref a]) (h₀ := X.base) I.ok.mod.kin hm.kp (cg (ha pos pins s1 σ H1 _ I1 q) fun us s2 ⟨vs, H2, I2, r, q2⟩ => ⟨I2.rJ, ?_⟩) hst hpl;exact sV (us := .ref a :: us) (vs := .ref a :: vs) F hr hb hd hx I2 (.cons rfl r) q2
theorem qI {pl : Sem Bool} (he : PE X o ta) (c : mD X.K C) (hm : Meth X.K C m f) (F : bR X.prog X.w X.K X.mg X.base CX k f fd ps sp) (hr : bo k X.A) (hb : Binds X.K fd ps ds) (hd : Vals dvs ds) (hx : Passes CX X E)
 (ht : eval (.Call (.Attribute o m apos) [] [] pos) X.env = (do
  let ov <- eval o X.env
  standAt apos.atName
  let (f, first) <- holding [ov] (getMethod ov m pl)
  callWith pos f first (backTo pos (starEach [] X.env)) (backToKw pos (keywordEach [] X.env))) := by rfl) :
 PE X (.Call (.Attribute o m apos) [] [] pos) (Bl C m sp dvs E ta CB) := by
 intro pins s σ H Q I h;refine PySem.W.methodCall_KW (pl := pl) (cg (he pins s σ H _ I h) fun u s1 ⟨x, H1, I1, rx, a, dx, fs, ex, ea, l, q⟩ => ?_) ht;subst ex;obtain rfl : u = Value.ref a := rx;refine mh I1 ea c hm l ?_;exact PySem.W.callWith_K0 (first := [.ref a]) I1.rJ hm.kp (sV (us := [.ref a]) (vs := [.ref a]) F hr hb hd hx I1 (.cons rfl .nil) q)
structure Mk (K : Frag) (C f : Addr) : Prop where
 makes : PySem.W.makesIn K C = true
 init : PySem.W.findIn K (.ref C) "__init__" = some (some (.ref f))
 fn : PySem.W.isFn K (.ref f) = true
 kp : keepIn K (.ref C) = true
theorem xZ {pins : GR} {σ : St} {H : Hp} {s : Shared} {Q : VK} {us : GO} {vs : List V} (M : Mk X.K C f) (F : bR X.prog X.w X.K X.mg X.base CX k f fd ps sp) (hr : bo (k + 1) X.A) (hb : Binds X.K fd ps ds) (hd : Vals dvs ds)
 (hx : Passes CX X E) (I : Inv X pins σ H s) (r : Vals vs us)
 (h : ∀ x dx, H x = none -> H dx = none -> dx ≠ x -> sp (.ref x :: (vs ++ dvs)) (upd (upd H dx (.own x)) x (.ins C dx [])) (fun v H2 => v = .non /\ Q (.ref x) H2) E) :
 wpAny (model X.prog X.w) X.A (call (.ref C) us) (EP X pins σ Q) X.xe s := by
 have hq := h (s.heap.objs.size + 1) s.heap.objs.size (I.hok.fresh (Nat.le_succ _)) (I.hok.fresh (Nat.le_refl _)) (Nat.ne_of_lt (Nat.lt_succ_self _));have I2 := Inv.made (C := C) I;have r2 : Vals (V.ref (s.heap.objs.size + 1) :: (vs ++ dvs)) (Value.ref (s.heap.objs.size + 1) :: (us ++ ds)) := .cons rfl (r.append hd);have hl : (Value.ref (s.heap.objs.size + 1) :: us ++ ds).length = ps.length := by
  have e := r2.length;rw [F.len _ _ _ _ hq] at e;exact e.symm
 refine wpAny_call (xO (f := f) I.rJ M.makes M.init (beq_iff_eq.mp M.fn) (codeAny_mono (F.run _ X.stack _ _ ⟨Value.ref (s.heap.objs.size + 1) :: us, []⟩ (Value.ref (s.heap.objs.size + 1) :: (us ++ ds)) _ _ E (hr.make C us [])
  (I2.mH.make C us []) (hb _ (Value.ref (s.heap.objs.size + 1) :: us) I2.rJ hl) r2 hq) fun r s' hq' => ?_))
 cases r with
 | error e => exact hx pins σ _ _ e s' I2 hq'
 | ok fl =>
  cases fl with
  | ret u =>
   obtain ⟨v, H', I3, rv, ev, q3⟩ := I2.after hq';subst ev;exact ⟨rv, ⟨V.ref (s.heap.objs.size + 1), H', I3, rfl, q3⟩⟩
  | next => exact False.elim hq'
  | brk => exact False.elim hq'
  | cont => exact False.elim hq'
theorem xa (M : Mk X.K C f) (F : bR X.prog X.w X.K X.mg X.base CX k f fd ps sp) (hr : bo (k + 1) X.A) (hg : Gl X x) (hm : X.mg x = some (.ref C)) (hb : Binds X.K fd ps ds) (hd : Vals dvs ds) (hx : Passes CX X E)
 (hdb : NdX x := by decide) : PE X (.Call (.Name x p) [] [] pos) (DR C sp dvs E CB) := by
 intro pins s σ H Q I h;refine wpAny_Call_Name_kw (oE I hg hm ?_ hdb);exact PySem.W.callWith_K0 I.rJ M.kp (xZ (us := []) M F hr hb hd hx I .nil h)
end
structure aD (N P : GV) (sc : Scope) : Prop where
 kind : sc.kind = .function
 co : sc.isCoroutine = false
 gen : sc.isGenerator = false
 nd : N.Nodup
 pre : N.take P.length = P
 par : ∀ x ∈ P, sc.names.lookup x = some .local \/ sc.names.lookup x = some .cell
 nofree : ∀ y ∈ sc.names, y.2 ≠ .free
theorem ni {kindOf : Str -> Option NameKind} {x : Str} : ∀ {binds : List (Str × Value)} {m : GN}, (∀ v, (x, v) ∉ binds) -> bindL kindOf binds m x = m x
 | [], _, _ => rfl
 | (n, v) :: r, m, h => by
  unfold bindL;rw [ni fun w hw => h w (mem_cons_of_mem _ hw)];split
  . have : x ≠ n := by rintro rfl; exact h v mem_cons_self
    simp [this]
  . rfl
theorem m9 {kindOf : Str -> Option NameKind} {x : Str} : ∀ {binds : List (Str × Value)} {m : GN}, (∀ v, (x, v) ∉ binds) -> bindC kindOf binds m x = m x
 | [], _, _ => rfl
 | (n, v) :: r, m, h => by
  unfold bindC;rw [m9 fun w hw => h w (mem_cons_of_mem _ hw)];split
  . rfl
  . have : x ≠ n := by rintro rfl; exact h v mem_cons_self
    simp [this]
theorem nu {kindOf : Str -> Option NameKind} {x : Str} {v : Value} : ∀ {P : GV} {vs : GO} {i : Nat} {m : GN}, P.Nodup -> P[i]? = some x -> vs[i]? = some v -> kindOf x = some .local ->
 bindL kindOf (P.zip vs) m x = some v
 | [], _, _, _, _, h, _, _ => by simp at h
 | _ :: _, [], _, _, _, _, h, _ => by simp at h
 | p :: P, w :: vs, 0, m, nd, h1, h2, hk => by
  simp at h1 h2; subst h1; subst h2;show bindL kindOf ((p, w) :: P.zip vs) m p = _;unfold bindL;rw [ni fun v hv => (nodup_cons.mp nd).1 (List.of_mem_zip hv).1, if_pos hk];simp
 | p :: P, w :: vs, i + 1, m, nd, h1, h2, hk => by
  show bindL kindOf ((p, w) :: P.zip vs) m x = _;unfold bindL;exact nu (i := i) (nodup_cons.mp nd).2 (by simpa using h1) (by simpa using h2) hk
theorem nr {kindOf : Str -> Option NameKind} {x : Str} {v : Value} : ∀ {P : GV} {vs : GO} {i : Nat} {m : GN}, P.Nodup -> P[i]? = some x -> vs[i]? = some v -> kindOf x ≠ some .local ->
 bindC kindOf (P.zip vs) m x = some v
 | [], _, _, _, _, h, _, _ => by simp at h
 | _ :: _, [], _, _, _, _, h, _ => by simp at h
 | p :: P, w :: vs, 0, m, nd, h1, h2, hk => by
  simp at h1 h2; subst h1; subst h2;show bindC kindOf ((p, w) :: P.zip vs) m p = _;unfold bindC;rw [m9 fun v hv => (nodup_cons.mp nd).1 (List.of_mem_zip hv).1, if_neg hk];simp
 | p :: P, w :: vs, i + 1, m, nd, h1, h2, hk => by
  show bindC kindOf ((p, w) :: P.zip vs) m x = _;unfold bindC;exact nr (i := i) (nodup_cons.mp nd).2 (by simpa using h1) (by simpa using h2) hk
def start (N : GV) (vs : List V) : St := vs.map some ++ List.replicate (N.length - vs.length) none
def h9 (CX : zD) (P : Program) (w : World) (K : Frag) (mg : GN) (base : Heap) (N : GV) (qual : Str) (scope : Scope) (f : Addr) (cd : Value) (A : Around) (outer : List Env) (s : Shared) (H : Hp) (E : XK) : Cx where
 prog := P
 w := w
 K := K
 mg := mg
 base := base
 A := A.deeper (envOfC qual scope s.heap.objs.size f cd)
 N := N
 s₀ := s
 H₀ := H
 env := envOfC qual scope s.heap.objs.size f cd
 outer := outer
 stack := envOfC qual scope s.heap.objs.size f cd :: outer
 ex := []
 calm := true
 fn := fun _ => true
 pn := []
 xe := fun e s' => wpAny (model P w) (A.deeper (envOfC qual scope s.heap.objs.size f cd)) (leaving (envOfC qual scope s.heap.objs.size f cd) e) (fun _ s'' => CX outer H s E e s'') (fun e' s'' => CX outer H s E e' s'') s'
theorem qN {sc : Scope} {n : Nat} {x : Str} (h : sc.names.lookup x = some .cell) : ∃ c, (cellsFrom n sc.names []).lookup x = some c := by
 have q := PySem.W.cellsFrom_some sc.names n [] (.inl h);exact Option.isSome_iff_exists.mp q
theorem vF {CX : zD} {P : Program} {w : World} {K : Frag} {mg : GN} {base : Heap} {N ps : GV} {qual : Str} {scope : Scope} {f : Addr} {cd : Value} {A : Around} {outer : List Env} {s s1 : Shared} {H : Hp} {E : XK} {us : GO} {vs : List V}
 (S : aD N ps scope) (hd : A.handled = none) (e0 : mF P w K mg base A outer s H) (hl : vs.length = ps.length) (r : Vals vs us)
 (x : InCallC s s.heap.objs.size (bindL (envOfC qual scope s.heap.objs.size f cd).kindOf (ps.zip us) fun _ => none) (cellsFrom (s.heap.objs.size + 1) scope.names []) (bindC (envOfC qual scope s.heap.objs.size f cd).kindOf (ps.zip us) fun _ => none) s1) :
 Inv (h9 CX P w K mg base N qual scope f cd A outer s H E) [] (start N vs) H s1 := by
 have hpl : ps.length <= N.length := by have := congrArg List.length S.pre; rw [length_take] at this; omega
 obtain ⟨h1, tk, rfl, hk⟩ := x.done;have noA : ∀ b : Addr, b ∉ (h9 CX P w K mg base N qual scope f cd A outer s H E).ex := fun b z => absurd (show b ∈ ([] : List Addr) from z) (by simp);refine ⟨⟨e0.mod, S.kind, rfl, rfl, Nat.le_refl _, fun y z c h1 h2 => ?_, fun y hy => ?_, fun y c _ h => ?_, fun _ => hd, Around.frames_deeper e0.frames, .inr ⟨rfl, rfl⟩, fun b z => absurd z (noA b), e0.bs, e0.bsz, fun b _ _ => noA b, fun b z => absurd z (noA b), e0.gX, e0.frf⟩,
  rfl, e0.bare, Un.kept hk, ⟨_, x.toInCall.ns, fun i y v h1 h2 h3 => ?_⟩, fun y c h => ⟨_, x.cell y c h⟩, e0.hok.fresh (Nat.le_refl _), fun y c h => ?_, fun p hp => absurd (show p ∈ ([] : GR) from hp) (by simp), e0.hok.kept hk, ?_⟩
 . exact name_of_addr x.apart (PySem.mem_of_lookup h1) (PySem.mem_of_lookup h2)
 . have hy : scope.names.lookup y = some .cell \/ scope.names.lookup y = some .free := hy;rcases hy with hy | hy
   . exact qN hy
   . exact absurd rfl (S.nofree _ (PySem.mem_of_lookup hy))
 . exact Nat.le_of_lt (x.above y c (PySem.mem_of_lookup h))
 . have hi : i < vs.length := by
    unfold start at h2;by_cases hi : i < vs.length
    . exact hi
    . rw [getElem?_append_right (by simpa using hi)] at h2;rw [List.getElem?_replicate] at h2;split at h2 <;> cases h2
   have ha : vs[i]? = some v := by
    unfold start at h2;rw [getElem?_append_left (by simpa using hi), getElem?_map] at h2
    cases e : vs[i]? with
    | none => rw [e] at h2; cases h2
    | some a => rw [e] at h2; cases h2; rfl
   obtain ⟨u, hu, rv⟩ := r.get ha;have hp : ps[i]? = some y := by
    rw [<- S.pre, List.getElem?_take_of_lt (by omega)]; exact h1
   have ndP : ps.Nodup := by rw [<- S.pre]; exact S.nd.sublist (List.take_sublist _ _)
   refine ⟨u, rv, ?_⟩;rcases S.par y (mem_of_getElem? hp) with k | k
   . exact .inl ⟨k, nu ndP hp hu k⟩
   . obtain ⟨c, e⟩ := qN (n := s.heap.objs.size + 1) k;refine .inr ⟨.inl k, c, e, ?_⟩;have q := x.cell y c e;rw [nr ndP hp hu (by show scope.names.lookup y ≠ _; rw [k]; decide)] at q;exact q
 . exact e0.hok.fresh (Nat.le_of_lt (x.above y c (PySem.mem_of_lookup h)))
 . unfold start;show _ = N.length;rw [List.length_append, length_map, List.length_replicate];omega
theorem yJ {CX : zD} {P : Program} {w : World} {K : Frag} {mg : GN} {base : Heap} {k : Nat} {f : Addr} {name qual : Str} {params : Arguments} {body : List Stmt} {scope : Scope} {dV kV doc pm cdv ct oc : Value} {an od : GQ}
 {osl : GL} {N ps : GV} {sp : Sp} (lk : K.lookup f = some ⟨oc, od, .func (PySem.W.fnOf name qual params body scope dV kV doc pm an cdv ct), osl⟩) (hcd : PySem.W.codeIn K cdv qual = true) (S : aD N ps scope)
 (len : ∀ vs H Q E, sp vs H Q E -> vs.length = ps.length)
 (hbody : ∀ (A : Around) (outer : List Env) (s : Shared) (H : Hp) (vs : List V) (Q : VK) (E : XK), bo k (A.deeper (envOfC qual scope s.heap.objs.size f cdv)) -> sp vs H Q E ->
  ∃ t, lJ (h9 CX P w K mg base N qual scope f cdv A outer s H E) body t /\ t { nx := fun _ H' => Q .non H', rt := Q } (start N vs) H) :
 bR P w K mg base CX (k + 1) f (PySem.W.fnOf name qual params body scope dV kV doc pm an cdv ct) ps sp := by
 refine ⟨len, fun A outer s H args us vs Q E hr e0 hb r hsp => ?_⟩;have hl := len _ _ _ _ hsp;have KX : K.In s.heap := e0.mod.kin.keeps fun b o e => (e0.bs b o e).1;have lim : s.heap.NoLimit := e0.mod.nolimit.keeps fun b o e => (e0.bs b o e).1;have hkind : ∀ y ∈ ps.zip us, scope.names.lookup y.1 = some .local \/ (scope.names.lookup y.1 = some .cell /\ ((cellsFrom (s.heap.objs.size + 1) scope.names []).lookup y.1).isSome = true) := fun ⟨n, v⟩ hy => by
  rcases S.par n (List.of_mem_zip hy).1 with q | q
  . exact .inl q
  . exact .inr ⟨q, PySem.W.cellsFrom_some _ _ _ (.inl q)⟩
 refine codeAny_call_function hr.depth (KX _ _ lk) rfl S.co S.gen rfl (PySem.W.codeRec_of KX hcd) (hb _ _ _ _ ?_);refine wpAny_newFunctionEnv_cells S.kind hkind fun env he s1 x => ?_;subst he;refine ⟨lim.keeps x.toInCall.keep, codeAny_func ?_⟩;obtain ⟨t, ht, hq⟩ := hbody A outer s H vs Q E (hr.deeper _) hsp;have I : Inv (h9 CX P w K mg base N qual scope f cdv A outer s H E) [] (start N vs) H s1 := vF S hr.hd e0 hl r x;refine wpAny_mono (ht [] s1 (start N vs) H _ I hq) (fun fl s' hs => ?_) fun e s' hs => hs;have fin : ∀ {σ' : St} {H' : Hp} {v : V} {u : Value}, Inv (h9 CX P w K mg base N qual scope f cdv A outer s H E) [] σ' H' s' -> RelV v u -> Q v H' -> CE outer P w H s Q u s' :=
  fun {σ' H' v u} J rv q => ⟨v, H', J.os, J.bare, J.base, J.hok, rv, q⟩
 cases fl with
 | ret u =>
  obtain ⟨v, σ', H', J, rv, q⟩ := hs;exact fin J rv q
 | next =>
  obtain ⟨σ', H', J, q⟩ := hs;exact fin (v := V.non) (u := Value.none) J rfl q
 | brk =>
  obtain ⟨_, _, _, q⟩ := hs;exact False.elim q
 | cont =>
  obtain ⟨_, _, _, q⟩ := hs;exact False.elim q
section
variable {X : Cx} {x : Str} {p pos : Pos} {e : Expr} {es : List Expr} {t : TA} {id T : String} {r : List V -> Hp -> VK -> Prop}
def FN (r : List V -> Hp -> VK -> Prop) (t : TA) : TE := fun σ H Q => t σ H fun vs H1 => r vs H1 Q
theorem fC (hc : jO X (.builtin id) r) (hg : Gl X x) (hm : X.mg x = none) (hv : bootBuiltins x = some (.builtin id)) (ha : PA X (e :: es) t) (hn : x ≠ "__name__" := by decide) (hdb : NdX x := by decide)
 (he : starEach (e :: es) X.env = (false, eval e X.env) :: starEach es X.env := by rfl) (hpl : (backTo pos (starEach es X.env)).any (·.1) = false := by rfl) : PE X (.Call (.Name x p) (e :: es) [] pos) (FN r t) := by
 intro pins s σ H Q I h;refine wpAny_Call_Name_kw (iX I hg hm hv ?_ hn hdb);exact PyProof.Rows.callWith_builtin1 (cg (ha pos pins s σ H _ I h) fun us s1 ⟨vs, H1, I1, r1, q1⟩ => hc pins s1 σ H1 vs us Q I1 r1 q1) he hpl
theorem vD (hc : jO X (.type T) r) (hg : Gl X x) (hm : X.mg x = none) (hv : bootBuiltins x = some (.type T)) (ha : PA X (e :: es) t) (hn : x ≠ "__name__" := by decide) (hdb : NdX x := by decide)
 (he : starEach (e :: es) X.env = (false, eval e X.env) :: starEach es X.env := by rfl) (hpl : (backTo pos (starEach es X.env)).any (·.1) = false := by rfl) : PE X (.Call (.Name x p) (e :: es) [] pos) (FN r t) := by
 intro pins s σ H Q I h;refine wpAny_Call_Name_kw (iX I hg hm hv ?_ hn hdb);exact PyProof.Rows.callWith_type1 (cg (ha pos pins s σ H _ I h) fun us s1 ⟨vs, H1, I1, r1, q1⟩ => hc pins s1 σ H1 vs us Q I1 r1 q1) he hpl
end
end L2
namespace HT
open PySem PyProof.Rows
section
variable {prog : Program} {w : World} {A : Around} {E : GJ} {s : Shared}
theorem zq {t b : Addr} {vs ws : GO} {Q : GJ} (ht : IsTup s.heap t vs.toArray) (hb : IsTup s.heap b ws.toArray) (hv : vs ≠ [])
 (h1 : ws = [] -> Q (.ref t) s) (h2 : ws ≠ [] -> Q (.ref s.heap.objs.size) { s with heap := s.heap.push { cls := .type "tuple", data := .seq (vs ++ ws).toArray } })
 (hsz : vs.length + ws.length <= sizeLine) : wpAny (model prog w) A (binaryOp .Add (.ref t) (.ref b)) Q E s := by
 obtain ⟨⟨cls, dd, data, sl⟩, ho, hc, n, hd⟩ := id ht;obtain ⟨⟨cls2, dd2, data2, sl2⟩, ho2, hc2, n2, hd2⟩ := id hb;simp only at hc hd hc2 hd2;subst hc hd hc2 hd2;have e : vs.toArray ++ ws.toArray = (vs ++ ws).toArray := by simp
 by_cases hw : ws = []
 . exact concat_meets ⟨_, ho, rfl⟩ ⟨_, ho2, rfl⟩ noFill_tuple_add seq_tuple_add PySem.F.slot_tuple_add PySem.F.entry_tuple_add (PySem.F.args_tuple_add_2 _ _)
    (tuple_addW1 t b vs.toArray ws.toArray n n2 dd dd2 sl sl2 (by simpa using hv) (by simp [hw])) ⟨ho, ho2, h1 hw⟩
 . refine concat_meets ⟨_, ho, rfl⟩ ⟨_, ho2, rfl⟩ noFill_tuple_add seq_tuple_add PySem.F.slot_tuple_add PySem.F.entry_tuple_add (PySem.F.args_tuple_add_2 _ _)
    (tuple_addW2 t b vs.toArray ws.toArray n n2 dd dd2 sl sl2 (by simpa using hv) (by simpa using hw) (by rw [size_toArray, size_toArray]; exact hsz)) ⟨ho, ho2, ?_⟩
   rw [e];exact h2 hw
def cU (n d : Nat) : Option Int -> Nat
 | none => d
 | some v => if v < 0 then (v + (n : Int)).toNat else min v.toNat n
theorem yt (n d : Nat) : cU n d none = d := rfl
theorem zj (n d k : Nat) : cU n d (some (k : Int)) = min k n := by
 show (if (k : Int) < 0 then ((k : Int) + (n : Int)).toNat else min (k : Int).toNat n) = min k n;rw [if_neg (by omega), Int.toNat_natCast]
theorem CF (n d : Nat) (hd : d <= n) (o : Option Int) : cU n d o <= n := by
 cases o with
 | none => exact hd
 | some v =>
  show (if v < 0 then (v + (n : Int)).toNat else min v.toNat n) <= n;by_cases hv : v < 0
  . rw [if_pos hv]; omega
  . rw [if_neg hv]; exact Nat.min_le_right _ _
theorem uS (v : Int) (n d : Nat) : (if v < 0 then max (v + (n : Int)) 0 else min v (n : Int)) = ((cU n d (some v) : Nat) : Int) := by
 show (if v < 0 then max (v + (n : Int)) 0 else min v (n : Int)) = (((if v < 0 then (v + (n : Int)).toNat else min v.toNat n) : Nat) : Int);by_cases hv : v < 0
 . simp only [if_pos hv]; omega
 . simp only [if_neg hv]; omega
theorem tH (lo hi : Option Int) (n : Nat) : Builtin.Slice.sliceAdjust lo hi 1 (n : Int) = (((cU n 0 lo : Nat) : Int), ((cU n n hi : Nat) : Int)) := by
 have h1 : ¬ ((1 : Int) < 0) := by omega
 unfold Builtin.Slice.sliceAdjust;simp only [h1, if_false];refine Prod.ext ?_ ?_
 . cases lo with
   | none => rfl
   | some v => exact uS v n 0
 . cases hi with
   | none => rfl
   | some v => exact uS v n n
theorem sF (i j : Nat) : Builtin.Slice.slicePlaces (i : Int) (j : Int) 1 = j - i := by
 unfold Builtin.Slice.slicePlaces;have h1 : (1 : Int) > 0 := by omega
 simp only [h1, if_true, Int.ediv_one];split <;> omega
theorem lT {v : Value} {o : Option Int} {Q : Option Int -> Shared -> Prop} (p : IsPart v o) (h : Q o s) : wpAny (model prog w) A (Builtin.Slice.slicePartIndex v) Q E s := by
 cases p with
 | none => exact slicePart_none h
 | int i t => exact slicePart_int h
theorem i8 {sl : Addr} {vl vu : Value} {lo hi : Option Int} {n : Nat} {Q : Int × Int × Nat -> Shared -> Prop} (hs : s.heap.IsSliceOf sl vl vu .none) (pl : IsPart vl lo) (pu : IsPart vu hi)
 (h : Q (((cU n 0 lo : Nat) : Int), 1, cU n n hi - cU n 0 lo) s) : wpAny (model prog w) A (Builtin.Slice.sliceApplied (.ref sl) (pure (n : Int))) Q E s := by
 obtain ⟨os, hos, hcs, hds⟩ := id hs;unfold Builtin.Slice.sliceApplied Builtin.Slice.sliceFields;refine wpAny_bind (wpAny_bind (wpAny_field hos hds (x := vl) rfl (wpAny_bind (wpAny_field hos hds (x := vu) rfl (wpAny_bind (wpAny_field hos hds (x := .none) rfl (wpAny_pure ?_)))))));refine wpAny_bind (slicePart_none ?_);show wpAny _ _ (if ((1 : Int) == 0) = true then _ else _) _ _ s;rw [if_neg (by decide)];refine wpAny_bind (lT pl (wpAny_bind (lT pu (wpAny_bind (wpAny_pure ?_)))));show wpAny _ _ (match Builtin.Slice.sliceAdjust lo hi 1 (n : Int) with | (lo, hi) => pure (lo, (1 : Int), Builtin.Slice.slicePlaces lo hi 1)) _ _ s;rw [tH lo hi n];show wpAny _ _ (pure (((cU n 0 lo : Nat) : Int), (1 : Int), Builtin.Slice.slicePlaces ((cU n 0 lo : Nat) : Int) ((cU n n hi : Nat) : Int) 1)) _ _ s;rw [sF];exact wpAny_pure h
theorem xX (xs : GP) (i k : Nat) : ((List.range k).filterMap fun (m : Nat) => xs[((i : Int) + (m : Int) * 1).toNat]?).toArray = ((xs.toList.drop i).take k).toArray := by
 have e : (fun (m : Nat) => xs[((i : Int) + (m : Int) * 1).toNat]?) = fun m => xs[i + m]? := by
  funext m;have : ((i : Int) + (m : Int) * 1).toNat = i + m := by omega
  rw [this]
 rw [e];have := pick_run xs i k;rw [List.filterMap_map] at this;have e2 : ((fun x => xs[x]?) ∘ fun x => i + x) = fun m => xs[i + m]? := rfl;rw [e2] at this;rw [this]
theorem g9 {t sl : Addr} {items : GP} {vl vu : Value} {lo hi : Option Int} {Q : GJ} (ht : IsTup s.heap t items) (hs : s.heap.IsSliceOf sl vl vu .none) (pl : IsPart vl lo) (pu : IsPart vu hi)
 (hw : ¬ (cU items.size 0 lo = 0 /\ cU items.size items.size hi = items.size))
 (h : Q (.ref s.heap.objs.size) { s with heap := s.heap.push { cls := .type "tuple", data := .seq ((items.toList.drop (cU items.size 0 lo)).take (cU items.size items.size hi - cU items.size 0 lo)).toArray } })
 (hsz : items.size <= sizeLine) : wpAny (model prog w) A (getItem (.ref t) (.ref sl)) Q E s := by
 have htake : sizeOk (.seq ((items.toList.drop (cU items.size 0 lo)).take (cU items.size items.size hi - cU items.size 0 lo)).toArray) := by
  show ((items.toList.drop (cU items.size 0 lo)).take (cU items.size items.size hi - cU items.size 0 lo)).toArray.size <= sizeLine;rw [size_toArray, length_take, length_drop, Array.length_toList];omega
 have hj : cU items.size items.size hi <= items.size := CF _ _ (Nat.le_refl _) hi;obtain ⟨os, hos, hcs, hds⟩ := id hs;have hTs : s.TypeIs (.ref sl) "slice" := ⟨os, hos, hcs⟩
 unfold getItem
 try with_reducible refine wpAny_holding ?_
 first | refine wpAny_bind (wpAny_pure ?_) | skip
 refine wpAny_bind (wpAny_sequenceKey ht.typeIs (by decide) ?_);refine wpAny_bind (wpAny_callSpecial?_slot (name := Str.ofString "__getitem__") ht.typeIs PyProof.Rows.slot_tuple_getitem
  (wpAny_call_entry PyProof.Rows.slot_tuple_getitem ht.typeIs entry_tuple_getitem ?_ (args_tuple_getitem _ _)))
 show wpAny _ _ (Builtin.Tuple.tupleItemsOf (.ref t) >>= _) _ _ s;refine wpAny_bind (tupleItemsOf_ ht ?_);refine wpAny_bind (wpAny_typeOf hTs ?_);rw [if_pos (by decide)];refine wpAny_bind (i8 hs pl pu ?_);have hno : ¬ ((((cU items.size 0 lo : Nat) : Int) == 0 && (1 : Int) == 1 && (cU items.size items.size hi - cU items.size 0 lo) == items.size) = true) := by
  intro q;rw [Bool.and_eq_true, Bool.and_eq_true] at q;have q1 : ((cU items.size 0 lo : Nat) : Int) = 0 := eq_of_beq q.1.1;have q2 : cU items.size items.size hi - cU items.size 0 lo = items.size := eq_of_beq q.2;exact hw ⟨by omega, by omega⟩
 show wpAny _ _ (if (((cU items.size 0 lo : Nat) : Int) == 0 && (1 : Int) == 1 && (cU items.size items.size hi - cU items.size 0 lo) == items.size) = true then _ else _) _ _ s;rw [if_neg hno, xX]
 first
  | exact wpAny_bind (m := Builtin.Tuple.tupleExact _) (wpAny_newObj_type (wpAny_pure ⟨_, rfl, wpAny_pure h⟩) htake)
  | exact wpAny_bind (m := Builtin.Tuple.tupleExact _) (wpAny_newObj_type (wpAny_bind (wpAny_pure (wpAny_pure ⟨_, rfl, wpAny_pure h⟩))) htake)
  | exact wpAny_bind (wpAny_bind (m := Builtin.Tuple.tupleExact _) (wpAny_newObj_type (wpAny_pure (wpAny_pure ⟨_, rfl, wpAny_pure h⟩)) htake))
  | exact wpAny_bind (wpAny_bind (m := Builtin.Tuple.tupleExact _) (wpAny_newObj_type (wpAny_pure ⟨_, rfl, wpAny_pure h⟩) htake))
end
end HT
namespace L2
open PySem PySem.Spec PyProof.Rows
abbrev TO := St -> Hp -> (Option Int -> Hp -> Prop) -> Prop
def PO (X : Cx) (e : Option Expr) (t : TO) : Prop :=
 ∀ (pins : GR) (s : Shared) (σ : St) (H : Hp) (Q : Option Int -> Hp -> Prop), Inv X pins σ H s -> t σ H Q ->
  wpAny (model X.prog X.w) X.A (evalPart e X.env) (fun u s' => ∃ o H', Inv X pins σ H' s' /\ IsPart u o /\ Q o H') X.xe s
def zF : TO := fun _ H Q => Q none H
def Dm (t : TE) : TO := fun σ H Q => t σ H fun x H1 => ∃ i, x = .int i /\ Q (some i) H1
section
variable {X : Cx} {e : Expr} {te : TE} {lo hi : Option Expr} {tl th : TO} {pos p2 : Pos}
theorem AJ : PO X none zF := by
 intro pins s σ H Q I h;rw [evalPart_none];exact wpAny_pure ⟨none, H, I, .none, h⟩
theorem zu (h : PE X e te) : PO X (some e) (Dm te) := by
 intro pins s σ H Q I hw;rw [evalPart_some];refine cg (h pins s σ H _ I hw) fun u s1 ⟨x, H1, I1, r1, q1⟩ => ?_;obtain ⟨i, rfl, q⟩ := q1;obtain ⟨t, rfl⟩ := r1;exact ⟨some i, H1, I1, .int i t, q⟩
def EF (X : Cx) (r : V -> Option Int -> Option Int -> Hp -> VK -> Prop) : Prop :=
 ∀ (pins : GR) (s : Shared) (σ : St) (H : Hp) (x : V) (v vl vu : Value) (lo hi : Option Int) (sl : Addr) (Q : VK), Inv X pins σ H s -> RelV x v -> s.heap.IsSliceOf sl vl vu .none -> IsPart vl lo -> IsPart vu hi -> r x lo hi H Q ->
  ∃ T id, typeLookup (.type T) "__getitem__" = pure (some (.builtin id)) /\ s.TypeIs v T /\ wpAny (model X.prog X.w) X.A (getItem v (.ref sl)) (EP X pins σ Q) X.xe s
def Gi (r : V -> Option Int -> Option Int -> Hp -> VK -> Prop) (te : TE) (tl th : TO) : TE := fun σ H Q => te σ H fun x H1 => tl σ H1 fun l H2 => th σ H2 fun u H3 => r x l u H3 Q
theorem lK {r : V -> Option Int -> Option Int -> Hp -> VK -> Prop} (hr : EF X r) (he : PE X e te) (hl : PO X lo tl) (hu : PO X hi th) : PE X (.Subscript e (.Slice lo hi none p2) pos) (Gi r te tl th) := by
 intro pins s σ H Q I h;refine Subscript_ (cg (he pins s σ H _ I h) fun v s1 ⟨x, H1, I1, r1, q1⟩ => ?_);refine wpAny_Slice (cg (hl pins s1 σ H1 _ I1 q1) fun vl s2 ⟨l, H2, I2, pl, q2⟩ => cg (hu pins s2 σ H2 _ I2 q2) fun vu s3 ⟨u, H3, I3, pu, q3⟩ => ?_);rw [evalPart_none];refine wpAny_pure ?_;have I4 : Inv X pins σ H3 { s3 with heap := s3.heap.push { cls := .type "slice", data := .fields #[vl, vu, .none] } } := I3.kept (t' := s3.toks) fun b ob q => get?_push_of_some _ q;obtain ⟨T, id, hT, ht, hg⟩ := hr pins { s3 with heap := s3.heap.push { cls := .type "slice", data := .fields #[vl, vu, .none] } } σ H3 x v vl vu l u s3.heap.objs.size Q I4 r1 (Heap.IsSliceOf.new ..) pl pu q3;show wpAny (model X.prog X.w) X.A (subscriptTail e (.Slice lo hi none p2) v (.ref s3.heap.objs.size)) (EP X pins σ Q) X.xe { s3 with heap := s3.heap.push { cls := .type "slice", data := .fields #[vl, vu, .none] } };exact tail_any (ops := [.ref s3.heap.objs.size, v]) ht hT hg (by with_unfolding_all rfl)
def oR (xs : List V) (lo hi : Option Int) : List V := (xs.drop (HT.cU xs.length 0 lo)).take (HT.cU xs.length xs.length hi - HT.cU xs.length 0 lo)
theorem jP (xs : List V) (lo hi : Option Int) : (oR xs lo hi).length <= xs.length := by
 unfold oR;rw [length_take, length_drop];omega
def FC (K : Frag) : V -> Option Int -> Option Int -> Hp -> VK -> Prop := fun x lo hi H Q => ∃ a xs, x = .ref a /\ rH K H a xs /\
 ¬ (HT.cU xs.length 0 lo = 0 /\ HT.cU xs.length xs.length hi = xs.length) /\ ∀ p, H p = none -> Q (.ref p) (upd H p (.tup (oR xs lo hi)))
theorem BM : EF X (FC X.K) := by
 intro pins s σ H x v vl vu lo hi sl Q I rx hs pl pu h;obtain ⟨a, xs, rfl, hx, hw, q⟩ := h;cases rx;obtain ⟨its, r, ht, hz⟩ := I.tuple hx;have hlen : its.toArray.size = xs.length := by rw [size_toArray]; exact r.length.symm
 refine ⟨"tuple", _, PyProof.Rows.slot_tuple_getitem.lookup, ht.typeIs, ?_⟩;refine HT.g9 ht hs pl pu (by rw [hlen]; exact hw) ?_ (by rw [hlen]; exact hz);rw [hlen];refine ⟨.ref s.heap.objs.size, _, I.laid (t' := s.toks) (o := .tup (oR xs lo hi)) (fun b ob q => get?_push_of_some _ q) (Nat.le_refl _) ?_, rfl, q _ (I.hok.fresh (Nat.le_refl _))⟩;exact ⟨Nat.le_trans (jP xs lo hi) hz, _, (r.drop (HT.cU xs.length 0 lo)).take (HT.cU xs.length xs.length hi - HT.cU xs.length 0 lo), IsTup.new _ _⟩
def Du (K : Frag) : R2 := fun x y H Q => ∃ a b xs ys, x = .ref a /\ y = .ref b /\ rH K H a xs /\ rH K H b ys /\ xs ≠ [] /\ xs.length + ys.length <= sizeLine /\
 (ys = [] -> Q (.ref a) H) /\ (ys ≠ [] -> ∀ p, H p = none -> Q (.ref p) (upd H p (.tup (xs ++ ys))))
end
def Ag (n : Nat) (i : Int) : Option Nat := if 0 <= i then (if i < n then some i.toNat else none) else if -(n : Int) <= i then some (i + n).toNat else none
def jB {α : Type} (xs : List α) (i : Int) : Option α := (Ag xs.length i).bind fun j => xs[j]?
theorem AZ {n : Nat} {i : Int} {j : Nat} (h : Ag n i = some j) : seqIndex? i n = some j /\ j < n /\ -(n : Int) <= i /\ i < n := by
 unfold Ag at h;by_cases h0 : 0 <= i
 . rw [if_pos h0] at h;by_cases h1 : i < n
   . rw [if_pos h1] at h;have e : i.toNat = j := Option.some.inj h;exact ⟨by rw [seqIndex_of h0 h1, e], by omega, by omega, h1⟩
   . rw [if_neg h1] at h; cases h
 . rw [if_neg h0] at h;by_cases h1 : -(n : Int) <= i
   . rw [if_pos h1] at h;have e : (i + n).toNat = j := Option.some.inj h;exact ⟨by rw [seqIndex_neg (by omega) h1, e], by omega, h1, by omega⟩
   . rw [if_neg h1] at h; cases h
theorem kc {α : Type} {xs : List α} {i : Int} {v : α} (h : jB xs i = some v) : ∃ j, seqIndex? i xs.length = some j /\ xs[j]? = some v /\ j < xs.length /\ -(xs.length : Int) <= i /\ i < xs.length := by
 unfold jB at h
 cases e : Ag xs.length i with
 | none => rw [e] at h; cases h
 | some j =>
  rw [e] at h;obtain ⟨h1, h2, h3, h4⟩ := AZ e;exact ⟨j, h1, h, h2, h3, h4⟩
theorem cB {α : Type} {xs : List α} {j : Nat} {v : α} (h : xs[j]? = some v) : jB xs (j : Int) = some v := by
 have hj : j < xs.length := (List.getElem?_eq_some_iff.mp h).1;have e : Ag xs.length (j : Int) = some j := by
  unfold Ag;rw [if_pos (by omega), if_pos (by omega)]; simp
 unfold jB; rw [e]; exact h
theorem xf {α : Type} (xs : List α) (v : α) : jB (xs ++ [v]) (-1) = some v := by
 have hl : (xs ++ [v]).length = xs.length + 1 := by simp
 have e : Ag (xs ++ [v]).length (-1) = some xs.length := by
  unfold Ag;rw [hl, if_neg (by decide), if_pos (by omega)];congr 1;omega
 unfold jB;rw [e];show (xs ++ [v])[xs.length]? = some v;simp
def hU (b : Expr) : Prop := ∀ o i, subscripted b false o i = operate [o, i] (getItem o i)
def ES (X : Cx) (r : R2) : Prop :=
 ∀ (value slice : Expr) (pins : GR) (s : Shared) (σ : St) (H : Hp) (x y : V) (v u : Value) (Q : VK), Inv X pins σ H s -> RelV x v -> RelV y u -> r x y H Q ->
  subscripted slice false v u = operate [v, u] (getItem v u) -> wpAny (model X.prog X.w) X.A (subscriptTail value slice v u) (EP X pins σ Q) X.xe s
def CK (X : Cx) (id : String) (r : V -> List V -> Hp -> VK -> Prop) : Prop :=
 ∀ (pins : GR) (s : Shared) (σ : St) (H : Hp) (x : V) (xs : List V) (v : Value) (us : GO) (Q : VK), Inv X pins σ H s -> RelV x v -> Vals xs us -> r x xs H Q ->
  wpAny (model X.prog X.w) X.A (call (.builtin id) (v :: us)) (EP X pins σ Q) X.xe s
section
variable {X : Cx} {a b : Expr} {ta tb : TE} {pos : Pos}
theorem uE {r : R2} (hr : ES X r) (ha : PE X a ta) (hb : PE X b tb) (hs : hU b) : PE X (.Subscript a b pos) (EI r ta tb) := by
 intro pins s σ H Q I h;exact Subscript_ (Cu ha hb I h fun v u s2 x y H2 I2 rx ry q => hr a b pins s2 σ H2 x y v u Q I2 rx ry q (hs _ _))
def FF (K : Frag) : R2 := fun x y H Q => ∃ p xs i v, x = .ref p /\ y = .int i /\ eP K H p xs /\ jB xs i = some v /\ Q v H
def E3 (K : Frag) : R2 := fun x y H Q => ∃ p xs i v, x = .ref p /\ y = .int i /\ rH K H p xs /\ jB xs i = some v /\ Q v H
def EU : R2 := fun x y H Q => ∃ z i c, x = .str z /\ y = .int i /\ z.length <= sizeLine /\ jB z.cps.toList i = some c /\ Q (.str ⟨#[c]⟩) H
theorem ux : ES X (FF X.K) := by
 intro value slice pins s σ H x y v u Q I rx ry h hs;obtain ⟨p, xs, i, z, rfl, rfl, hq, he, q⟩ := h;cases rx;obtain ⟨t, rfl⟩ := ry;obtain ⟨its, r, pl, hz⟩ := I.list hq;obtain ⟨j, h1, h2, h3, h4, h5⟩ := kc he;obtain ⟨w, ew, rw'⟩ := r.get h2;have hl := r.length;have hn := kE;have fin : EP X pins σ Q w s := ⟨z, H, I, rw', q⟩
 by_cases h0 : 0 <= i
 . have hj : i.toNat = j := by
    rw [seqIndex_of h0 h5] at h1;exact Option.some.inj h1
   exact item_listR pl.isList h0 (by omega) (by rw [hj]; simpa using ew) fin hs
 . have hj : (i + (its.toArray.size : Int)).toNat = j := by
    rw [seqIndex_neg (by omega) h4] at h1;rw [size_toArray, <- hl];exact Option.some.inj h1
   exact subscriptTail_builtinR (x := w) pl.isList.typeIs slot_list_getitem.lookup
    (wpAny_getItem_list_neg (Q := fun r s' => r = w /\ EP X pins σ Q r s') pl.isList (by omega) (by rw [size_toArray] <;> omega) (by omega) (by rw [hj]; simpa using ew) ⟨rfl, fin⟩) hs
theorem Cs : ES X (E3 X.K) := by
 intro value slice pins s σ H x y v u Q I rx ry h hs;obtain ⟨p, xs, i, z, rfl, rfl, hq, he, q⟩ := h;cases rx;obtain ⟨t, rfl⟩ := ry;obtain ⟨its, r, pl, hz⟩ := I.tuple hq;obtain ⟨j, h1, h2, h3, h4, h5⟩ := kc he;obtain ⟨w, ew, rw'⟩ := r.get h2;have hl := r.length;have hn := kE;have fin : EP X pins σ Q w s := ⟨z, H, I, rw', q⟩
 exact subscriptTail_builtinR (x := w) pl.typeIs slot_tuple_getitem.lookup
  (getItem_tuple (j := j) (Q := fun r s' => r = w /\ EP X pins σ Q r s') pl (by omega) (by omega) (by rw [size_toArray, <- hl]; exact h1) (by simpa using ew) ⟨rfl, fin⟩) hs
theorem C7 : ES X EU := by
 intro value slice pins s σ H x y v u Q I rx ry h hs;obtain ⟨z, i, c, rfl, rfl, hz, he, q⟩ := h;obtain ⟨t, rfl⟩ := rx;obtain ⟨t', rfl⟩ := ry;obtain ⟨j, h1, h2, h3, h4, h5⟩ := kc he;have hl : z.cps.toList.length = z.length := by simp [Str.length]
 rw [hl] at h1 h4 h5;have hn := kE;exact tail_any (typeIs_str s z t) slot_str_getitem.lookup (getItem_str (c := c) (by
  have e1 : decide (i < -(2 ^ 63 : Int)) = false := decide_eq_false (by omega);have e2 : decide (i ≥ 2 ^ 63) = false := decide_eq_false (by omega);rw [e1, e2, Bool.or_false]) (by rw [h1]; simpa using h2) ⟨.str ⟨#[c]⟩, H, I.tok _, ⟨_, rfl⟩, q⟩) hs
theorem pq (lo hi : Option Int) (n : Nat) : (sliceBounds lo hi none n).1 = ((HT.cU n 0 lo : Nat) : Int) /\ (sliceBounds lo hi none n).2.1 = ((HT.cU n n hi : Nat) : Int) /\ (sliceBounds lo hi none n).2.2 = 1 := by
 refine ⟨?_, ?_, rfl⟩
 . cases lo with
   | none => simp [sliceBounds, HT.cU]
   | some i =>
    simp only [sliceBounds, HT.cU, Option.getD_none, show (1 : Int) > 0 by decide, if_true];by_cases h : i < 0
    . simp only [h, if_true] <;> omega
    . simp only [h, if_false] <;> omega
 . cases hi with
   | none => simp [sliceBounds, HT.cU]
   | some i =>
    simp only [sliceBounds, HT.cU, Option.getD_none, show (1 : Int) > 0 by decide, if_true];by_cases h : i < 0
    . simp only [h, if_true] <;> omega
    . simp only [h, if_false] <;> omega
theorem mJ (its : GO) (lo hi : Option Int) : slicePick its.toArray lo hi none = ((its.drop (HT.cU its.length 0 lo)).take (HT.cU its.length its.length hi - HT.cU its.length 0 lo)).toArray := by
 obtain ⟨h1, h2, h3⟩ := pq lo hi its.toArray.size;unfold slicePick;rw [h1, h2, h3];simp only [sliceRange_one, pick_run, size_toArray] <;> rfl
def E7 (K : Frag) : V -> Option Int -> Option Int -> Hp -> VK -> Prop := fun x lo hi H Q => ∃ a xs, x = .ref a /\ eP K H a xs /\ ∀ p, H p = none -> Q (.ref p) (upd H p (.lst (oR xs lo hi)))
theorem Av : EF X (E7 X.K) := by
 intro pins s σ H x v vl vu lo hi sl Q I rx hs pl pu h;obtain ⟨a, xs, rfl, hx, q⟩ := h;cases rx;obtain ⟨its, r, ht, hz⟩ := I.list hx;have hlen := r.length;refine ⟨"list", _, slot_list_getitem.lookup, ht.isList.typeIs, ?_⟩;refine wpAny_getItem_list_slice ht.isList hs pl pu .none (by simp) ?_ (by rw [size_toArray] <;> omega);rw [mJ, <- hlen];refine ⟨.ref s.heap.objs.size, _, I.laid (t' := s.toks) (o := .lst (oR xs lo hi)) (fun b ob q => get?_push_of_some _ q) (Nat.le_refl _) ?_, rfl, q _ (I.hok.fresh (Nat.le_refl _))⟩;exact ⟨Nat.le_trans (jP xs lo hi) hz, _, 0, (r.drop (HT.cU xs.length 0 lo)).take (HT.cU xs.length xs.length hi - HT.cU xs.length 0 lo), get?_push_size _ rfl⟩
def Dt : V -> Bool
 | .non => true
 | .bl _ => true
 | .int _ => true
 | .str _ => true
 | _ => false
theorem pG : jO X (.builtin "len") (fun xs H Q => ∃ p ys, xs = [.ref p] /\ (eP X.K H p ys \/ rH X.K H p ys) /\ Q (.int ys.length) H) := by
 intro pins s σ H xs us Q I r h;obtain ⟨p, ys, rfl, hq, q⟩ := h;obtain ⟨u, rfl, rx⟩ := vals1 r;cases rx;have hn := kE;rcases hq with hq | hq
 . obtain ⟨its, r', pl, hz⟩ := I.list hq;have hlen := r'.length;exact Calls.call_len_list pl.isList (by simp only [size_toArray] <;> omega) ⟨.int ys.length, H, I.tok _, ⟨s.toks + 1, by rw [size_toArray, hlen]⟩, q⟩
 . obtain ⟨its, r', pl, hz⟩ := I.tuple hq;have hlen := r'.length;exact len_tuple pl (by simp only [size_toArray] <;> omega) ⟨.int ys.length, H, I.tok _, ⟨s.toks + 1, by rw [size_toArray, hlen]⟩, q⟩
theorem ou : jO X (.builtin "len") (fun xs H Q => ∃ z, xs = [.str z] /\ z.length <= sizeLine /\ Q (.int z.length) H) := by
 intro pins s σ H xs us Q I r h;obtain ⟨z, rfl, hz, q⟩ := h;obtain ⟨u, rfl, t, rfl⟩ := vals1 r;have hn := kE;exact len_str (by omega) ⟨.int z.length, H, I.tok _, ⟨_, rfl⟩, q⟩
theorem pX : jO X (.type "list") (fun xs H Q => ∃ p ys, xs = [.ref p] /\ (eP X.K H p ys \/ rH X.K H p ys) /\ ∀ l, H l = none -> Q (.ref l) (upd H l (.lst ys))) := by
 intro pins s σ H xs us Q I r h;obtain ⟨p, ys, rfl, hq, q⟩ := h;obtain ⟨u, rfl, rx⟩ := vals1 r;cases rx;have fin : ∀ (its : GO), Vals ys its -> ys.length <= sizeLine -> ∀ (h' : Heap) (c' : Nat), (∀ b o', s.heap.get? b = some o' -> h'.get? b = some o') ->
  h'.get? s.heap.objs.size = some { cls := .type "list", dict := none, data := .seq its.toArray c', slots := #[] } -> EP X pins σ Q (.ref s.heap.objs.size) { s with heap := h' } := fun its r' hz h' c' kp e =>
  ⟨.ref s.heap.objs.size, _, I.laid (t' := s.toks) kp (Nat.le_refl _) (show bz X.prog X.w _ h' _ (.lst ys) from ⟨hz, its, c', r', e⟩), rfl, q _ (I.hok.fresh (Nat.le_refl _))⟩
 rcases hq with hq | hq
 . obtain ⟨its, r', pl, hz⟩ := I.list hq;have hlen := r'.length;obtain ⟨o, ho, hc, n, hd⟩ := pl.isList;exact call_list_seq p (.inl rfl) ho hc hd (fun h' c' kp e => fin its r' hz h' c' kp e) (by simp only [size_toArray] <;> omega)
 . obtain ⟨its, r', pl, hz⟩ := I.tuple hq;have hlen := r'.length;obtain ⟨o, ho, hc, n, hd⟩ := pl;exact call_list_seq p (.inr rfl) ho hc hd (fun h' c' kp e => fin its r' hz h' c' kp e) (by simp only [size_toArray] <;> omega)
def Ff (K : Frag) (T : String) (x : V) (H : Hp) : Prop := match x with
 | .str _ => T = "str"
 | .int _ => T = "int"
 | .ref p => (T = "list" /\ ∃ xs, eP K H p xs) \/ (T = "tuple" /\ ∃ o, K.lookup p = some o /\ o.cls = .type "tuple" /\ o.dict = none) \/
  (T = "dict" /\ ((∃ kvs, H p = some (.dK kvs)) \/ ∃ kvs, H p = some (.dT kvs))) \/ (T = "set" /\ ∃ S n, H p = some (.set S n))
 | _ => False
theorem wL {pins : GR} {σ : St} {H : Hp} {s : Shared} {T : String} {x : V} {v : Value} (I : Inv X pins σ H s) (r : RelV x v) (ty : Ff X.K T x H) :
 s.TypeIs v T /\ ∀ a, v = .ref a -> ∃ ob, s.heap.get? a = some ob /\ ob.dict = none := by
 cases x with
 | str z =>
  obtain ⟨t, rfl⟩ := r;cases (show T = "str" from ty);exact ⟨typeIs_str s z t, fun _ e => nomatch e⟩
 | int i =>
  obtain ⟨t, rfl⟩ := r;cases (show T = "int" from ty);exact ⟨typeIs_int s i t, fun _ e => nomatch e⟩
 | ref p =>
  cases r;rcases ty with ⟨rfl, xs, hq⟩ | ⟨rfl, o, hk, hc, hd⟩ | ⟨rfl, hk⟩ | ⟨rfl, S, n, hk⟩
  . obtain ⟨its, _, pl, _⟩ := I.list hq;refine ⟨pl.isList.typeIs, fun a e => ?_⟩;cases e;obtain ⟨o, n, e, c, hd, _⟩ := pl;exact ⟨o, e, hd⟩
  . refine ⟨⟨o, I.rJ p o hk, hc⟩, fun a e => ?_⟩;cases e;exact ⟨o, I.rJ _ o hk, hd⟩
  . have z : ∃ o, s.heap.get? p = some o /\ o.ExactDict := by
     rcases hk with ⟨kvs, hk⟩ | ⟨kvs, hk⟩
     . obtain ⟨_, _, _, _, o, _, _, e, ex, _⟩ := I.hok p _ hk;exact ⟨o, e, ex⟩
     . obtain ⟨_, _, _, _, o, _, _, e, ex, _⟩ := I.hok p _ hk;exact ⟨o, e, ex⟩
    obtain ⟨o, e, ex⟩ := z;refine ⟨⟨o, e, ex.1⟩, fun a e2 => ?_⟩;cases e2;exact ⟨o, e, ex.2.1⟩
  . obtain ⟨o, _, _, _, e, ex, _⟩ := I.hok p _ hk;refine ⟨⟨o, e, ex.1⟩, fun a e2 => ?_⟩;cases e2;exact ⟨o, e, ex.2.1⟩
 | _ => exact False.elim ty
def E9 (K : Frag) (T : String) (r : V -> List V -> Hp -> VK -> Prop) (to : TE) : TE := fun σ H Q => to σ H fun x H1 => Ff K T x H1 /\ r x [] H1 Q
def Gv (K : Frag) (T : String) (r : V -> List V -> Hp -> VK -> Prop) (to : TE) (t : TA) : TE := fun σ H Q => to σ H fun x H1 => Ff K T x H1 /\ t σ H1 fun xs H2 => r x xs H2 Q
variable {o e : Expr} {es : List Expr} {to : TE} {t : TA} {name : Str} {apos cpos : Pos} {T id : String} {r : V -> List V -> Hp -> VK -> Prop}
theorem og (pa : PlainAttrs T) (slot : Slot T name id) (hty : typeOf (.builtin id) = pure (.type "method_descriptor")) (hm : CK X id r) (ho : PE X o to)
 (hbase : attributeBase o name X.env (eval o X.env) = eval o X.env := by rfl) (hline : (apos.endLine == cpos.line) = true := by rfl) : PE X (.Call (.Attribute o name apos) [] [] cpos) (E9 X.K T r to) := by
 intro pins s σ H Q I h;refine wpAny_Call_method0_late hbase hline (cg (ho pins s σ H _ I h) fun v s1 ⟨x, H1, I1, r1, ty, q1⟩ => ?_);obtain ⟨h1, h2⟩ := wL I1 r1 ty;exact ⟨T, id, pa, slot, hty, h1, h2, Calls.callWith_builtin rfl (PySem.evalArgs_none (hm pins s1 σ H1 x [] v [] Q I1 r1 .nil q1))⟩
theorem fW (pa : PlainAttrs T) (slot : Slot T name id) (hty : typeOf (.builtin id) = pure (.type "method_descriptor")) (hm : CK X id r) (ho : PE X o to) (ha : PA X (e :: es) t)
 (hbase : attributeBase o name X.env (eval o X.env) = eval o X.env := by rfl)
 (hfew : ((backTo cpos (starEach (e :: es) X.env)).all (fun x => !x.1) && (backToKw cpos (keywordEach [] X.env)).all (fun x => x.1.isSome)
  && decide ((e :: es).length + ([] : List Keyword).length + (if ([] : List Keyword).isEmpty then 0 else 1) < 30)) = true := by rfl)
 (hline : (apos.endLine == cpos.line) = true := by rfl) (hs : starEach (e :: es) X.env = (false, eval e X.env) :: starEach es X.env := by rfl) (hplain : (backTo cpos (starEach es X.env)).any (·.1) = false := by rfl) :
 PE X (.Call (.Attribute o name apos) (e :: es) [] cpos) (Gv X.K T r to t) := by
 intro pins s σ H Q I h;refine wpAny_Call_method_late hbase hfew hline rfl (cg (ho pins s σ H _ I h) fun v s1 ⟨x, H1, I1, r1, ty, q1⟩ => ?_);obtain ⟨h1, h2⟩ := wL I1 r1 ty;refine ⟨T, id, pa, slot, hty, h1, h2, ?_⟩;have hA := ha cpos pins s1 σ H1 _ I1 q1;rw [hs] at hA ⊢;refine Calls.callWith_builtin (by show (false || (backTo cpos (starEach es X.env)).any (·.1)) = false; rw [hplain] <;> rfl) (Calls.evalArgs_plain ?_);exact cg hA fun us s2 ⟨vs, H2, I2, r2, q2⟩ => hm pins s2 σ H2 x vs v us Q I2 r1 r2 q2
end
def FQ (X : Cx) (id : String) (r : V -> List V -> Hp -> VK -> Prop) : Prop :=
 ∀ (pins : GR) (s : Shared) (σ : St) (H : Hp) (x : V) (xs : List V) (v : Value) (us : GO) (Q : VK), Inv X pins σ H s -> RelV x v -> Vals xs us -> r x xs H Q ->
  wpAny (model X.prog X.w) X.A (call (.builtin id) (v :: us)) (EP X pins σ Q) X.xe s
theorem Vals.one : ∀ {x : V} {us : GO}, Vals [x] us -> ∃ u, us = [u] /\ RelV x u
 | _, _, .cons r .nil => ⟨_, rfl, r⟩
theorem Vals.zero : ∀ {us : GO}, Vals [] us -> us = []
 | _, .nil => rfl
theorem Vals.reverse {xs : List V} {us : GO} (h : Vals xs us) : Vals xs.reverse us.reverse := by
 induction h with
 | nil => exact .nil
 | cons r t ih => rw [List.reverse_cons, List.reverse_cons]; exact Vals.append ih (.cons r .nil)
section
variable {X : Cx} {pins : GR} {σ : St} {H : Hp} {s : Shared} {l b : Addr} {xs ys zs : List V}
theorem Inv.A8 {its its' : GO} {n : Nat} {f : Array Value -> Array Value} {t' : Nat} (I : Inv X pins σ H s) (hH : H l = some (.lst xs))
 (e : s.heap.get? l = some { cls := .type "list", data := .seq its.toArray n }) (hf : f its.toArray = its'.toArray) (hv : Vals ys its') (hz : ys.length <= sizeLine) :
 Inv X pins σ (upd H l (.lst ys)) { s with heap := s.heap.update l (Obj.mapSeq f), toks := t' } := by
 have q := PySem.IsL.update e f;rw [hf] at q;refine I.write (x := l) (e := l) (by rw [hH]; exact trivial) (.inl rfl) (fun b' u hb hu => (Heap.get?_update_other s.heap (Obj.mapSeq f) (Ne.symm hb)).trans hu) ⟨_, q⟩ ?_;exact ⟨hz, its', _, hv, q⟩
theorem Inv.FE {its : GO} {t' : Nat} (I : Inv X pins σ H s) (hv : Vals ys its) (hz : ys.length <= sizeLine) :
 Inv X pins σ (upd H s.heap.objs.size (.lst ys)) { s with heap := s.heap.push { cls := .type "list", data := .seq its.toArray }, toks := t' } :=
 I.laid (fun _ _ q => get?_push_of_some _ q) (Nat.le_refl _) ⟨hz, its, 0, hv, get?_push_size _ rfl⟩
theorem Inv.fresh (I : Inv X pins σ H s) : H s.heap.objs.size = none := I.hok.fresh (Nat.le_refl _)
theorem Inv.zC (I : Inv X pins σ H s) (hH : H l = some (.lst xs)) : xs.length <= sizeLine /\ ∃ (its : GO) (n : Nat), Vals xs its /\ xs.length = its.length /\ s.heap.get? l = some { cls := .type "list", data := .seq its.toArray n } := by
 obtain ⟨z, its, n, r, e⟩ := I.hok l _ hH;exact ⟨z, its, n, r, r.length, e⟩
end
section
variable {X : Cx}
def Aa : V -> List V -> Hp -> VK -> Prop := fun x vs H Q => ∃ l xs y, x = .ref l /\ vs = [y] /\ H l = some (.lst xs) /\ xs.length < sizeLine /\ Q .non (upd H l (.lst (xs ++ [y])))
theorem bP : FQ X "list.append" Aa := by
 intro pins s σ H x vs v us Q I rx rv h;obtain ⟨l, xs, y, rfl, rfl, hH, hz, q⟩ := h;cases rx;obtain ⟨u, rfl, ru⟩ := rv.one;obtain ⟨z, its, n, r, hl, e⟩ := I.zC hH;refine call_meets F.slot_list_append ⟨_, e, rfl⟩ F.entry_list_append (F.args_list_append_2 _ _) (PySem.list_append l its.toArray n u (by rw [size_toArray]; omega)) ⟨e, ?_⟩;refine ⟨.non, _, I.A8 (its' := its ++ [u]) hH e (by simp) (r.append (.cons ru .nil)) ?_, rfl, q⟩;rw [List.length_append, List.length_singleton];omega
def Gz : V -> List V -> Hp -> VK -> Prop := fun x vs H Q => ∃ l xs y, x = .ref l /\ vs = [] /\ H l = some (.lst xs) /\ xs[xs.length - 1]? = some y /\ Q y (upd H l (.lst xs.dropLast))
def x6 : V -> List V -> Hp -> VK -> Prop := fun x vs H Q => ∃ l xs, x = .ref l /\ vs = [] /\ H l = some (.lst xs) /\ Q .non (upd H l (.lst xs.reverse))
theorem rX : FQ X "list.reverse" x6 := by
 intro pins s σ H x vs v us Q I rx rv h;obtain ⟨l, xs, rfl, rfl, hH, q⟩ := h;cases rx;have hus := rv.zero;subst hus;obtain ⟨z, its, n, r, hl, e⟩ := I.zC hH;refine call_meets F.slot_list_reverse ⟨_, e, rfl⟩ F.entry_list_reverse (F.args_list_reverse_1 _) (AutoSeq1.list_reverse_list_0 l its.toArray n (by rw [size_toArray]; omega)) ⟨e, ?_⟩;refine ⟨.non, _, I.A8 (its' := its.reverse) hH e (by simp) r.reverse ?_, rfl, q⟩;rw [List.length_reverse];omega
end
end L2
namespace Att
open PySem PySem.W PySem.Calls PyProof.Rows
theorem jW {P : Params} {h : Heap} : ∀ (ns : List Int) (vs : GO), WellAll P h vs (ns.map WData.int) -> IntsAre vs ns := by
 intro ns
 induction ns with
 | nil =>
  intro vs w;rw [map_nil] at w;cases w;exact .nil
 | cons n ns ih =>
  intro vs w;rw [map_cons] at w
  cases w with
  | cons a b =>
   cases a;exact .cons _ _ (ih _ b)
theorem vc {l : OpenLaw} {n : Nat} (hn : l.most = some n) {P : Params} {h : Heap} {args : List WData} {vals : GO}
 (hpre : l.row.toRowW.claim.pre args = true) (hwl : WellAll P h vals args) :
 ∃ a vs ns, vals = [Value.ref a] /\ args = [WData.list (ns.map WData.int)] /\ h.get? a = some { cls := .type "list", data := .seq vs.toArray } /\ IntsAre vs ns /\ ns.length <= n := by
 have hsh : WShape.hasAll [] args [.list .int] = true := (pre_splitW hpre).1;have hc : l.pre.holds [] { args := args } = true := (pre_splitW hpre).2;obtain ⟨d, r, rfl, h1, h2⟩ := hasAllW_cons hsh;obtain rfl := hasAllW_nil h2;obtain ⟨xs, rfl, h3⟩ := hasW_list h1;obtain ⟨ns, rfl⟩ := items_int h3;have hlen : ns.length <= n := by
  unfold OpenLaw.pre at hc;have h4 : (WTm.not (.lt (.lit (.int (n : Int))) (.len (.arg 0)))).holds [] { args := [.list (ns.map .int)] } = true := by
   have h4 := (holds_andW hc).1;rw [hn] at h4;exact h4
  have h5 := condW_of h4 (w_not (w_lt w_lit (w_len_list (w_arg rfl))));rw [length_map] at h5;refine Nat.le_of_not_lt fun q => ?_;have q' : (n : Int) < ((ns.length : Nat) : Int) := by omega
  first
   | (rw [decide_eq_true q'] at h5; exact absurd h5 (by decide))
   | (simp at h5; omega)
 cases hwl with
 | cons w1 w2 =>
  cases w2
  cases w1 with
  | list ho hall => exact ⟨_, _, ns, rfl, rfl, ho, jW ns _ hall, hlen⟩
theorem va (l : OpenLaw) (args : List WData) : l.row.toRowW.claim.post args (.bool true) args = true :=
 postW_of (r := l.row.toRowW) (X := (true == true))
  (show WShape.has [] (.bool true) .bool = true by first | rfl | decide | simp [WShape.has, WShape.arms, WShape.armsAll])
  (show (WTm.eq .res (.lit (.bool true))).value [] { args := args, res := some (.bool true), after := args } = some (.bool (true == true)) from w_eq_bool (w_res rfl) w_lit) rfl
theorem rd {l : OpenLaw} {n : Nat} {q : Program} {loose : GV} {XP : GN -> Heap -> Prop} {YP : World -> Heap -> Prop} {d : DefRec}
 (hn : l.most = some n) (hdf : d.params.defaults = [])
 (call : ∀ (w : World) (s₀ s₁ : Shared) (mg mb : GN) (fa : Addr) (o : Obj) (pm cd doc : Value) (a : Addr) (vs : GO) (ns : List Int),
  Ground q loose [] XP w s₀ mg mb s₁.heap -> YP w s₁.heap ->
  s₁.heap.get? fa = some o -> o.data = .func (docDef d.name d.params d.body d.scope pm cd doc) -> s₁.heap.CodeRec cd d.name -> mg d.name = some (.ref fa) ->
  s₁.heap.get? a = some { cls := .type "list", data := .seq vs.toArray } -> IntsAre vs ns -> ns.length <= n -> s₁.gens = #[] ->
  codeAny (model l.prog w) callerA (.call (.ref fa) ⟨[.ref a], []⟩) (fun r s' => r = .ok (.ret (.bool true)) /\ OldK s₁.heap s'.heap /\ s'.os = s₁.os /\ AllBare s'.gens) s₁) :
 WalkO q loose XP YP l.row.toRowW d [] (fun f vs => PySem.call f vs) := by
 intro w s₀ s₁ mg mb G Y fa o pm cd doc dV kV ho hd hcd hD hmg hg args vals as hpre hlay hrd hwl hlo;obtain rfl : dV = .none := Dflts.none hD hdf;obtain rfl : kV = .none := Dflts.noKw hD;obtain ⟨a, vs, ns, rfl, rfl, hobj, hints, hlen⟩ := vc hn hpre hwl;refine enter_call (codeAny_mono (call w s₀ s₁ mg mb fa o pm cd doc a vs ns G Y ho (fd_plain hd) hcd hmg hobj hints hlen hg) fun r s' hq => ?_);obtain ⟨rfl, h2, h3, h4⟩ := hq;exact ⟨.inl ⟨.bool true, .bool true, [], rfl, fun _ => rfl, .bool true, va l _, fun _ => ⟨List.Pairwise.nil, fun _ hm => (nomatch hm)⟩⟩, h2, h3, h4⟩
end Att
namespace L2
open PySem PySem.Spec PyProof.Rows
theorem nN : ∀ {vs : GO} {ns : List Int}, IntsAre vs ns -> Vals (ns.map V.int) vs
 | _, _, .nil => .nil
 | _, _, .cons n t h => .cons ⟨t, rfl⟩ (nN h)
def GA (H : Hp) : Prop := ∀ b, H b = none \/ ∃ o xs, H b = some (.frz o (.lst xs))
def inClass (s : Stmt) (j : Nat) : Stmt := match s with
 | .ClassDef _ _ _ body _ _ _ _ _ _ _ => body.getD j (.Pass ⟨0, 0, 0, 0⟩)
 | _ => .Pass ⟨0, 0, 0, 0⟩
def cA (s : Stmt) : Arguments := match s with
 | .FunctionDef _ a _ _ _ _ _ _ _ _ => a
 | _ => { posonlyargs := [], args := [], vararg := none, kwonlyargs := [], kw_defaults := [], kwarg := none, defaults := [] }
def aY (s : Stmt) : List Stmt := match s with
 | .FunctionDef _ _ b _ _ _ _ _ _ _ => b
 | _ => []
def af (s : Stmt) : Scope := match s with
 | .FunctionDef _ _ _ _ _ _ sc _ _ _ => sc
 | _ => { kind := .function, names := [], isGenerator := false, isCoroutine := false }
abbrev fS : zD := fun _ _ _ _ _ _ => False
abbrev E0 : XK := fun _ _ _ => False
theorem jF {X : Cx} : Passes fS X E0 := fun _ _ _ _ _ _ _ h => h.elim
structure fo (K : Frag) (x qual : Str) (st : Stmt) (f : Addr) (fd : FuncData) : Prop where
 ex : ∃ (oc : Value) (od : GQ) (kV doc pm : Value) (an : GQ) (cdv ct : Value) (osl : GL),
  fd = PySem.W.fnOf x qual (cA st) (aY st) (af st) .none kV doc pm an cdv ct /\ K.lookup f = some ⟨oc, od, .func fd, osl⟩ /\ PySem.W.codeIn K cdv qual = true
 kp : keepIn K (.ref f) = true
section
variable {P : Program} {w : World} {K : Frag} {mg : GN} {base : Heap}
theorem fo.ok {x qual : Str} {st : Stmt} {f : Addr} {fd : FuncData} {N ps : GV} {k : Nat} {sp : Sp} (F : fo K x qual st f fd) (S : aD N ps (af st)) (len : ∀ vs H Q E, sp vs H Q E -> vs.length = ps.length)
 (hbody : ∀ (cdv : Value) (A : Around) (outer : List Env) (s : Shared) (H : Hp) (vs : List V) (Q : VK) (E : XK), bo k (A.deeper (envOfC qual (af st) s.heap.objs.size f cdv)) -> sp vs H Q E ->
  ∃ t, lJ (h9 fS P w K mg base N qual (af st) f cdv A outer s H E).uj (aY st) t /\ t { nx := fun _ H' => Q .non H', rt := Q } (start N vs) H) : bR P w K mg base fS (k + 1) f fd ps sp := by
 obtain ⟨oc, od, kV, doc, pm, an, cdv, ct, osl, rfl, lk, hcd⟩ := F.ex;refine yJ lk hcd S len fun A outer s H vs Q E hr hsp => ?_;obtain ⟨t, h, q⟩ := hbody cdv A outer s H vs Q E hr hsp;exact ⟨t, h.uj, q⟩
theorem fo.binds {x qual : Str} {st : Stmt} {f : Addr} {fd : FuncData} {ps : GV} (F : fo K x qual st f fd)
 (h : ∀ (kV doc pm : Value) (an : GQ) (cdv ct : Value) (us : GO), us.length = ps.length -> bindArgs (PySem.W.fnOf x qual (cA st) (aY st) (af st) .none kV doc pm an cdv ct) ⟨us, []⟩ = pure (ps.zip us)) : Binds K fd ps [] := by
 obtain ⟨oc, od, kV, doc, pm, an, cdv, ct, osl, rfl, lk, hcd⟩ := F.ex;exact .all (h kV doc pm an cdv ct)
theorem sO {x qual : Str} {st : Stmt} {f : Addr} {oc : Value} {od an : GQ} {osl : GL} {kV doc pm cdv ct : Value} (l : K.lookup f = some ⟨oc, od, .func (PySem.W.fnOf x qual (cA st) (aY st) (af st) .none kV doc pm an cdv ct), osl⟩)
 (c : PySem.W.codeIn K cdv qual = true) (k : keepIn K (.ref f) = true) : fo K x qual st f (PySem.W.fnOf x qual (cA st) (aY st) (af st) .none kV doc pm an cdv ct) := ⟨⟨oc, od, kV, doc, pm, an, cdv, ct, osl, rfl, l, c⟩, k⟩
end
theorem iM {A : Around} {k : Nat} (hr : bo k A) : A.units + 1 < cLine := Nat.lt_of_le_of_lt (Nat.add_le_add_left (by decide : 1 <= 64) _) hr.units
theorem aR {n : Nat} (h : n <= 1000) : n < sizeLine := Nat.lt_of_le_of_lt h (by decide)
theorem mG {A B : Prop} (h : B) : if false = true then A else B := by
 rw [if_neg Bool.false_ne_true];exact h
theorem qT {A B : Prop} (h : A) : if true = true then A else B := by
 rw [if_pos rfl];exact h
def ao (H H' : Hp) : Prop := ∀ b o, H b = some o -> H' b = some o
theorem ao.refl (H : Hp) : ao H H := fun _ _ h => h
theorem ao.trans {H H1 H2 : Hp} (a : ao H H1) (b : ao H1 H2) : ao H H2 := fun c o h => b c o (a c o h)
theorem ao.free {H H' : Hp} (e : ao H H') {l : Addr} (h : H' l = Option.none) : H l = Option.none := by
 cases q : H l with
 | none => rfl
 | some o =>
  rw [e l o q] at h;cases h
theorem ao.seq {K : Frag} {H H' : Hp} {a : Addr} {xs : List V} (e : ao H H') (h : eP K H a xs) : eP K H' a xs := by
 rcases h with (h | ⟨o, h⟩) | h
 . exact .inl (.inl (e _ _ h))
 . exact .inl (.inr ⟨o, e _ _ h⟩)
 . exact .inr h
end L2
set_option autoImplicit false
set_option maxHeartbeats 4000000
namespace Y
open PySem
theorem aU {α : Sort _} {B C D : α → Prop} {R : Prop} (h : ∃ a, B a /\ C a /\ D a) (f : ∀ a, B a → C a → D a → R) : R := by
 obtain ⟨a, b, c, d⟩ := h;exact f a b c d
theorem d8 {α β γ : Sort _} {B C D : α → β → γ → Prop} {R : Prop} (h : ∃ a b c, B a b c /\ C a b c /\ D a b c) (f : ∀ a b c, B a b c → C a b c → D a b c → R) : R := by
 obtain ⟨a, b, c, x, y, z⟩ := h;exact f a b c x y z
namespace Tb
def fb (m : Nat) (h : Int) : Nat -> Nat × Nat
 | 0 => (SetTable.bits h % (m + 1), SetTable.bits h)
 | k + 1 => SetTable.leap m (fb m h k).1 (fb m h k).2
def GC (m : Nat) (p : SetTable.Probe) : SetTable.Probe := if p.more > 0 then { p with j := p.j + 1, more := p.more - 1 } else
 { p with j := (SetTable.leap m p.i p.perturb).1, more := SetTable.runEnd m (SetTable.leap m p.i p.perturb).1 - (SetTable.leap m p.i p.perturb).1, i := (SetTable.leap m p.i p.perturb).1, perturb := (SetTable.leap m p.i p.perturb).2 }
def top (m i q : Nat) : SetTable.Probe := { j := i, more := SetTable.runEnd m i - i, i := i, perturb := q, dummy := none }
def sq (m : Nat) (h : Int) : Nat -> SetTable.Probe
 | 0 => top m (SetTable.bits h % (m + 1)) (SetTable.bits h)
 | n + 1 => GC m (sq m h n)
def js (m : Nat) (h : Int) (n : Nat) : Nat := (sq m h n).j
def bs (m : Nat) (h : Int) : Nat -> Nat
 | 0 => 0
 | k + 1 => bs m h k + (SetTable.runEnd m (fb m h k).1 - (fb m h k).1) + 1
def Mk (m : Nat) : Prop := m = 7 \/ m = 31 \/ m = 127
end Tb
end Y
namespace Y
open PySem
namespace Tb
def Up (xs : GX) : Prop := xs.Pairwise (· < ·)
theorem gap {xs : GX} {m : Nat} (hl : xs.length <= m) : ∃ j, j <= m /\ j ∉ xs := by
 cases q : (List.range (m + 1)).find? fun j => decide (j ∉ xs) with
 | some j =>
  have a := List.mem_of_find?_eq_some q;have b := List.find?_some q;exact ⟨j, by have := List.mem_range.mp a; omega, by simpa using b⟩
 | none =>
  rw [List.find?_eq_none] at q;have sub : ∀ j ∈ List.range (m + 1), j ∈ xs := fun j hj => by simpa using q j hj
  have := (List.nodup_range (n := m + 1)).length_le_of_subset sub;simp at this;omega
end Tb
end Y
namespace Y
open PySem
namespace Tb
end Tb
end Y
namespace Y
open PySem
namespace Tb
end Tb
end Y
namespace L2
open PySem PySem.Spec PyProof.Rows
section
variable {κ : Type} [DecidableEq κ]
def dQ (kvs : List (κ × V)) (k : κ) : Option V := (kvs.find? fun kv => decide (kv.1 = k)).map (·.2)
def putK (kvs : List (κ × V)) (k : κ) (v : V) : List (κ × V) :=
 if (kvs.any fun kv => decide (kv.1 = k)) = true then kvs.map (fun kv => if kv.1 = k then (kv.1, v) else kv) else kvs ++ [(k, v)]
def kJ (kvs : List (κ × V)) (k : κ) : List (κ × V) := kvs.filter fun kv => decide (kv.1 ≠ k)
theorem lN {p : κ × V} {r : List (κ × V)} {k : κ} (e : p.1 = k) : dQ (p :: r) k = some p.2 := by simp [dQ, find?_cons, e]
theorem lx {p : κ × V} {r : List (κ × V)} {k : κ} (e : ¬ p.1 = k) : dQ (p :: r) k = dQ r k := by simp [dQ, find?_cons, e]
theorem kF (k : κ) : ∀ kvs : List (κ × V), (kvs.any fun kv => decide (kv.1 = k)) = (dQ kvs k).isSome
 | [] => rfl
 | p :: r => by
  rw [List.any_cons];by_cases e : p.1 = k
  . simp only [lN e, decide_eq_true e, Bool.true_or, Option.isSome_some]
  . rw [lx e, decide_eq_false e, Bool.false_or]; exact kF k r
theorem jM (kvs : List (κ × V)) (k : κ) (v : V) : (putK kvs k v).length <= kvs.length + 1 := by
 unfold putK;split
 . rw [length_map]; omega
 . rw [List.length_append, length_cons, List.length_nil]; omega
theorem xH {kvs : List (κ × V)} {k : κ} (v : V) (h : dQ kvs k = none) : putK kvs k v = kvs ++ [(k, v)] := by
 unfold putK;rw [kF, h];exact if_neg (by decide)
theorem fX.eR {o : Option V} {u : Option Value} (r : fX o u) : o.isSome = u.isSome := by
 cases o with
 | none => cases u with
  | none => rfl
  | some _ => exact (show False from r).elim
 | some _ => cases u with
  | none => exact (show False from r).elim
  | some _ => rfl
theorem KV.val {kvs : List (κ × V)} {vs : List (κ × Value)} (r : KV kvs vs) (k : κ) : fX (dQ kvs k) (valueAt vs k) := by
 unfold KV at r
 induction r with
 | nil => exact True.intro
 | @cons p q ps qs h t ih =>
  obtain ⟨h1, h2⟩ := h;by_cases e : p.1 = k
  . have e' : q.1 = k := h1.symm.trans e;have b : valueAt (q :: qs) k = some q.2 := by simp [valueAt, find?_cons, e']
    rw [lN e, b]; exact h2
  . have e' : ¬ q.1 = k := fun z => e (h1.trans z);have b : valueAt (q :: qs) k = valueAt qs k := by simp [valueAt, find?_cons, e']
    rw [lx e, b]; exact ih
theorem KV.any {kvs : List (κ × V)} {vs : List (κ × Value)} (r : KV kvs vs) (k : κ) : (kvs.any fun kv => decide (kv.1 = k)) = vs.any fun kv => decide (kv.1 = k) := by
 unfold KV at r
 induction r with
 | nil => rfl
 | cons h t ih => rw [List.any_cons, List.any_cons, ih, h.1]
theorem KV.CP {kvs : List (κ × V)} {vs : List (κ × Value)} (r : KV kvs vs) (k : κ) {y : V} {u : Value} (ry : RelV y u) :
 KV (kvs.map fun kv => if kv.1 = k then (kv.1, y) else kv) (vs.map fun kv => if kv.1 = k then (kv.1, u) else kv) := by
 unfold KV at r ⊢
 induction r with
 | nil => exact .nil
 | @cons p q ps qs h t ih =>
  rw [map_cons, map_cons];refine .cons ?_ ih;obtain ⟨h1, h2⟩ := h;by_cases e : p.1 = k
  . rw [if_pos e, if_pos (h1.symm.trans e)]; exact ⟨h1, ry⟩
  . rw [if_neg e, if_neg (fun z => e (h1.trans z))]; exact ⟨h1, h2⟩
theorem KV.put {kvs : List (κ × V)} {vs : List (κ × Value)} (r : KV kvs vs) (k : κ) {y : V} {u : Value} (ry : RelV y u) : KV (putK kvs k y) (stored vs k u) := by
 unfold putK stored;rw [r.any k];by_cases e : (vs.any fun kv => decide (kv.1 = k)) = true
 . rw [if_pos e, if_pos e]; exact r.CP k ry
 . rw [if_neg e, if_neg e]; exact Paired.snoc r ⟨rfl, ry⟩
theorem KV.drop {kvs : List (κ × V)} {vs : List (κ × Value)} (r : KV kvs vs) (k : κ) : KV (kJ kvs k) (without vs k) := by
 unfold KV at r ⊢;unfold kJ without
 induction r with
 | nil => exact .nil
 | @cons p q ps qs h t ih =>
  obtain ⟨h1, h2⟩ := h;rw [List.filter_cons, List.filter_cons];by_cases e : p.1 = k
  . have a : ¬ decide (p.1 ≠ k) = true := by simp [e]
    have b : ¬ decide (q.1 ≠ k) = true := by simp [h1.symm.trans e]
    rw [if_neg a, if_neg b]; exact ih
  . have e' : ¬ q.1 = k := fun z => e (h1.trans z);have a : decide (p.1 ≠ k) = true := by simp [e]
    have b : decide (q.1 ≠ k) = true := by simp [e']
    rw [if_pos a, if_pos b]; exact .cons ⟨h1, h2⟩ ih
theorem KV.length {kvs : List (κ × V)} {vs : List (κ × Value)} (r : KV kvs vs) : kvs.length = vs.length := Paired.length r
theorem w5 (kvs : List (κ × V)) (k : κ) : (kJ kvs k).length <= kvs.length := length_filter_le _ _
end
theorem nA {P : Program} {w : World} {k : Key} {u : Value} (r : RelV (kV k) u) : (bA P w).is k u = true := by
 cases k with
 | inl i => obtain ⟨t, e⟩ := (show ∃ t, u = Value.int i t from r); subst e; exact qD P w i t
 | inr x => obtain ⟨t, e⟩ := (show ∃ t, u = Value.str x t from r); subst e; exact qj P w x t
theorem Cd {a b : Key} (e : kV a = kV b) : a = b := by
 cases a with
 | inl i => cases b with
  | inl j => have e' : V.int i = V.int j := e; injection e' with e'; rw [e']
  | inr y => exact nomatch (show V.int i = V.str y from e)
 | inr x => cases b with
  | inl j => exact nomatch (show V.str x = V.int j from e)
  | inr y => have e' : V.str x = V.str y := e; injection e' with e'; rw [e']
theorem uf : ∀ {a b : List Key}, a.map kV = b.map kV -> a = b
 | [], [], _ => rfl
 | [], _ :: _, e => by simp at e
 | _ :: _, [], e => by simp at e
 | x :: xs, y :: ys, e => by
  rw [map_cons, map_cons] at e;injection e with e1 e2;rw [Cd e1, uf e2]
theorem mV {P : Program} {w : World} : ∀ {ks : List Key} {us : GO}, Vals (ks.map kV) us -> ItemsAre (bA P w) ks us
 | [], _, r => by rw [map_nil] at r; cases r; exact .nil
 | k :: ks, _, r => by
  rw [map_cons] at r
  cases r with
  | cons h t => exact .cons (nA h) (mV t)
abbrev KT (H : Hp) : List (List Key × V) -> List (List Key × Addr × Value) -> Prop := Paired fun p q => p.1 = q.1 /\ H q.2.1 = some (.tup (p.1.map kV)) /\ RelV p.2 q.2.2
theorem KT.val {H : Hp} {kvs : List (List Key × V)} {xs : List (List Key × Addr × Value)} (r : KT H kvs xs) (k : List Key) : fX (dQ kvs k) ((atKey xs k).map (·.2)) := by
 induction r with
 | nil => exact True.intro
 | @cons p q ps qs h t ih =>
  obtain ⟨h1, _, h2⟩ := h;by_cases e : p.1 = k
  . have e' : q.1 = k := h1.symm.trans e;have b : atKey (q :: qs) k = some q.2 := by simp [atKey, find?_cons, e']
    rw [lN e, b]; exact h2
  . have e' : ¬ q.1 = k := fun z => e (h1.trans z);have b : atKey (q :: qs) k = atKey qs k := by simp [atKey, find?_cons, e']
    rw [lx e, b]; exact ih
theorem KT.CP {H : Hp} {kvs : List (List Key × V)} {xs : List (List Key × Addr × Value)} (r : KT H kvs xs) (k : List Key) {y : V} {u : Value} (ry : RelV y u) :
 KT H (kvs.map fun kv => if kv.1 = k then (kv.1, y) else kv) (xs.map (putAt k u)) := by
 induction r with
 | nil => exact .nil
 | @cons p q ps qs h t ih =>
  rw [map_cons, map_cons];refine .cons ?_ ih;obtain ⟨h1, h2, h3⟩ := h;unfold putAt;by_cases e : p.1 = k
  . rw [if_pos e, if_pos (h1.symm.trans e)]; exact ⟨h1, h2, ry⟩
  . rw [if_neg e, if_neg (fun z => e (h1.trans z))]; exact ⟨h1, h2, h3⟩
theorem KT.put {H : Hp} {kvs : List (List Key × V)} {xs : List (List Key × Addr × Value)} (r : KT H kvs xs) (k : List Key) {b : Addr} {y : V} {u : Value} (hb : H b = some (.tup (k.map kV))) (ry : RelV y u) :
 KT H (putK kvs k y) (storedH xs k b u) := by
 have e : (kvs.any fun kv => decide (kv.1 = k)) = (atKey xs k).isSome := by
  rw [kF, (r.val k).eR, Option.isSome_map]
 unfold putK storedH;rw [e];by_cases q : (atKey xs k).isSome = true
 . rw [if_pos q, if_pos q]; exact r.CP k ry
 . rw [if_neg q, if_neg q]; exact Paired.snoc r ⟨rfl, hb, ry⟩
theorem KT.keeps {H H' : Hp} {kvs : List (List Key × V)} {xs : List (List Key × Addr × Value)} (r : KT H kvs xs) (ht : ∀ b ys, H b = some (.tup ys) -> H' b = some (.tup ys)) : KT H' kvs xs :=
 Paired.CN r fun _ _ z => ⟨z.1, ht _ _ z.2.1, z.2.2⟩
section
variable {P : Program} {w : World} {H : Hp} {h : Heap} {a : Addr}
theorem Bn {u : HO} (ok : gv P w H h) (e : Rd H a u) : bz P w H h a u := e.ok ok
theorem iB {kvs : List (Key × V)} (ok : gv P w H h) (e : Rd H a (.dK kvs)) : kvs.length <= sizeLine /\ (a == sysModules) = false /\ ∃ vs, KV kvs vs /\ h.DictOf (bA P w) a vs :=
 show bz P w H h a (.dK kvs) from Bn ok e
theorem tM {kvs : List (Key × V)} (ok : gv P w H h) (e : H a = some (.dK kvs)) : kvs.length <= sizeLine /\ (a == sysModules) = false /\ ∃ vs, KV kvs vs /\ h.DictOf (bA P w) a vs := iB ok (.inl e)
theorem lP {ks : List Key} (ok : gv P w H h) (e : H a = some (.tup (ks.map kV))) : (tupleKind (bA P w)).is h ks a := by
 obtain ⟨_, its, r, o, h1, h2, n, h3⟩ := (show bz P w H h a (.tup (ks.map kV)) from ok a _ e)
 exact ⟨o, its.toArray, n, h1, h2, h3, by simpa using mV r⟩
theorem nQ {kvs : List (List Key × V)} (ok : gv P w H h) (e : Rd H a (.dT kvs)) : kvs.length <= sizeLine /\ (a == sysModules) = false /\
 ∃ xs, KT H kvs xs /\ h.DictOfH (tupleKind (bA P w)) a xs := by
 obtain ⟨z, y, xs, r, o, es, ep, h1, h2, h3, h4, h5⟩ := (show bz P w H h a (.dT kvs) from Bn ok e)
 refine ⟨z, y, xs, r, o, es, ep, h1, h2, h3, h4, fun x hx => ?_, h5⟩;have all : ∀ {l : List (List Key × V)} {m : List (List Key × Addr × Value)}, KT H l m -> ∀ x ∈ m, (tupleKind (bA P w)).is h x.1 x.2.1 := by
  intro l m q
  induction q with
  | nil => intro x hx; exact nomatch hx
  | @cons p q ps qs hq t ih =>
   intro x hx;rcases mem_cons.mp hx with e | hx
   . subst e;exact lP ok (by rw [<- hq.1]; exact hq.2.1)
   . exact ih x hx
 exact all r x hx
theorem Bs {kvs : List (List Key × V)} (ok : gv P w H h) (e : H a = some (.dT kvs)) : kvs.length <= sizeLine /\ (a == sysModules) = false /\
 ∃ xs, KT H kvs xs /\ h.DictOfH (tupleKind (bA P w)) a xs := nQ ok (.inl e)
end
def jV (H : Hp) (a : Addr) (y : V) (r : Option V) : Prop :=
 (∃ kvs k, Rd H a (.dK kvs) /\ y = kV k /\ r = dQ kvs k) \/ ∃ kvs k b, Rd H a (.dT kvs) /\ y = .ref b /\ H b = some (.tup (k.map kV)) /\ r = dQ kvs k
def tF (H : Hp) (a : Addr) (y v : V) (H' : Hp) : Prop :=
 (∃ kvs k, H a = some (.dK kvs) /\ y = kV k /\ kvs.length < sizeLine /\ H' = upd H a (.dK (putK kvs k v))) \/
 ∃ kvs k b, H a = some (.dT kvs) /\ y = .ref b /\ H b = some (.tup (k.map kV)) /\ kvs.length < sizeLine /\ H' = upd H a (.dT (putK kvs k v))
theorem jV.k {H : Hp} {a : Addr} {kvs : List (Key × V)} {k : Key} (e : H a = some (.dK kvs)) : jV H a (kV k) (dQ kvs k) := .inl ⟨kvs, k, .inl e, rfl, rfl⟩
theorem jV.t {H : Hp} {a b : Addr} {kvs : List (List Key × V)} {k : List Key} (e : H a = some (.dT kvs)) (eb : H b = some (.tup (k.map kV))) : jV H a (.ref b) (dQ kvs k) := .inr ⟨kvs, k, b, .inl e, rfl, eb, rfl⟩
theorem tF.k {H : Hp} {a : Addr} {kvs : List (Key × V)} {k : Key} {v : V} (e : H a = some (.dK kvs)) (hl : kvs.length < sizeLine) : tF H a (kV k) v (upd H a (.dK (putK kvs k v))) := .inl ⟨kvs, k, e, rfl, hl, rfl⟩
theorem tF.t {H : Hp} {a b : Addr} {kvs : List (List Key × V)} {k : List Key} {v : V} (e : H a = some (.dT kvs)) (eb : H b = some (.tup (k.map kV))) (hl : kvs.length < sizeLine) :
 tF H a (.ref b) v (upd H a (.dT (putK kvs k v))) := .inr ⟨kvs, k, b, e, rfl, eb, hl, rfl⟩
section
variable {X : Cx} {pins : GR} {σ : St} {H : Hp} {s : Shared} {a : Addr} {y v : V} {u r : Value} {o : Option V} {A : Around} {E : GJ}
theorem Inv.big (I : Inv X pins σ H s) : sysModules < s.heap.objs.size := by
 have h : mainGlobals < s.heap.objs.size := (I.mod.glob.keeps I.bk).lt;exact Nat.lt_trans (by decide) h
theorem vW {Q : GJ} (hu : A.units + 1 < cLine) (I : Inv X pins σ H s) (g : jV H a y (some v)) (ry : RelV y u) (h : ∀ w' s', Inv X pins σ H s' -> RelV v w' -> Q w' s') :
 wpAny (model X.prog X.w) A (getItem (.ref a) u) Q E s := by
 rcases g with ⟨kvs, k, e, ey, l⟩ | ⟨kvs, k, b, e, ey, eb, l⟩
 . subst ey;obtain ⟨z, hd, vs, rel, dd⟩ := iB I.hok e;obtain ⟨w', hw, rw'⟩ := fX.some_of (v := v) (o := valueAt vs k) (by rw [l]; exact rel.val k);exact wpAny_getItem_of (nA ry) dd.mapOf hw (h w' _ (I.tok _) rw')
 . subst ey;cases (show u = Value.ref b from ry);obtain ⟨z, hd, xs, rel, dd⟩ := nQ I.hok e;obtain ⟨w', hw, rw'⟩ := fX.some_of (v := v) (o := (atKey xs k).map (·.2)) (by rw [l]; exact rel.val k);obtain ⟨p, hp, hp2⟩ := Option.map_eq_some_iff.mp hw;refine wpAny_getItem_heap (tupleKind_room_in1 hu) (lP I.hok eb) dd hp ?_;rw [hp2];exact h w' _ (I.tok _) rw'
theorem E1 {Q : GJ} (hu : A.units + 1 < cLine) (I : Inv X pins σ H s) (g : jV H a y o) (ry : RelV y u) (h : ∀ s', Inv X pins σ H s' -> Q (.bool o.isSome) s') :
 wpAny (model X.prog X.w) A (compareOp .In u (.ref a)) Q E s := by
 rcases g with ⟨kvs, k, e, ey, l⟩ | ⟨kvs, k, b, e, ey, eb, l⟩
 . subst ey;obtain ⟨z, hd, vs, rel, dd⟩ := iB I.hok e;refine wpAny_in_of (nA ry) hd dd.mapOf ?_;rw [<- (rel.val k).eR, <- l];exact h _ (I.tok _)
 . subst ey;cases (show u = Value.ref b from ry);obtain ⟨z, hd, xs, rel, dd⟩ := nQ I.hok e;refine wpAny_in_heap (tupleKind_room_in1 hu) (lP I.hok eb) hd dd ?_;have q := (rel.val k).eR;rw [Option.isSome_map] at q;rw [<- q, <- l];exact h _ (I.tok _)
theorem Ar {Q : GJ} (hu : A.units + 1 < cLine) (I : Inv X pins σ H s) (g : jV H a y o) (ry : RelV y u) (h : ∀ s', Inv X pins σ H s' -> Q (.bool (!o.isSome)) s') :
 wpAny (model X.prog X.w) A (compareOp .NotIn u (.ref a)) Q E s := by
 rcases g with ⟨kvs, k, e, ey, l⟩ | ⟨kvs, k, b, e, ey, eb, l⟩
 . subst ey;obtain ⟨z, hd, vs, rel, dd⟩ := iB I.hok e;refine wpAny_notIn_of (nA ry) hd dd.mapOf ?_;rw [<- (rel.val k).eR, <- l];exact h _ (I.tok _)
 . subst ey;cases (show u = Value.ref b from ry);obtain ⟨z, hd, xs, rel, dd⟩ := nQ I.hok e;refine wpAny_notIn_heap (tupleKind_room_in1 hu) (lP I.hok eb) hd dd ?_;have q := (rel.val k).eR;rw [Option.isSome_map] at q;rw [<- q, <- l];exact h _ (I.tok _)
theorem pS {h' : Heap} {t' : Nat} {ob : HO} (I : Inv X pins σ H s) (mu : Eh (H a)) (hs : Heap.SameBut a s.heap h') (he : ∃ q, h'.get? a = some q) (new : bz X.prog X.w (upd H a ob) h' a ob) :
 Inv X pins σ (upd H a ob) { s with heap := h', toks := t' } :=
 I.write (x := a) (e := a) mu (.inl rfl) (fun b q hb z => (hs.2 b hb).trans z) he new
theorem wF {P : Program} {w : World} {H' : Hp} {h' : Heap} {kvs : List (Key × V)} {vs : List (Key × Value)} (z : kvs.length <= sizeLine) (hd : (a == sysModules) = false) (rel : KV kvs vs) (dd : h'.DictOf (bA P w) a vs) :
 bz P w H' h' a (.dK kvs) := ⟨z, hd, vs, rel, dd⟩
theorem u9 {H' : Hp} {Q : Unit -> Shared -> Prop} (hu : A.units + 1 < cLine) (I : Inv X pins σ H s) (g : tF H a y v H') (ry : RelV y u) (rv : RelV v r) (h : ∀ s', Inv X pins σ H' s' -> Q () s') :
 wpAny (model X.prog X.w) A (setItem (.ref a) u r) Q E s := by
 rcases g with ⟨kvs, k, e, ey, l, eH⟩ | ⟨kvs, k, b, e, ey, eb, l, eH⟩
 . subst ey eH;obtain ⟨z, hd, vs, rel, dd⟩ := tM I.hok e;have hz : vs.length <= sizeLine := by rw [<- rel.length]; exact z
   have hl : (putK kvs k v).length <= sizeLine := by have := jM kvs k v; omega
   refine wpAny_setItem_pairs (hsz := hz) (nA ry) dd fun h' dd' hs => h _ ?_;have he : ∃ q, h'.get? a = some q := let ⟨q, _, _, hq, _⟩ := dd'; ⟨q, hq⟩;exact pS I (by rw [e]; exact True.intro) hs he (wF hl hd (rel.put k rv) dd')
 . subst ey eH;cases (show u = Value.ref b from ry);obtain ⟨z, hd, xs, rel, dd⟩ := Bs I.hok e;have hz : xs.length <= sizeLine := by rw [<- Paired.length rel]; exact z
   have hl : (putK kvs k v).length <= sizeLine := by have := jM kvs k v; omega
   refine wpAny_setItem_heap (hsz := hz) (tupleKind_room_in1 hu) (lP I.hok eb) dd fun h' dd' hs => h _ ?_;obtain ⟨q, es, ep, hq, h2, h3, h4, _, h5⟩ := dd';refine pS I (by rw [e]; exact True.intro) hs ⟨q, hq⟩ ⟨hl, hd, _, (rel.put k eb rv).keeps fun c ys ec => ?_, q, es, ep, hq, h2, h3, h4, h5⟩;rw [aa (dF ec e (fun z => nomatch z))];exact ec
end
section
variable {X : Cx} {pins : GR} {σ : St} {H : Hp} {s : Shared} {a : Addr} {kvs : List (Key × V)} {k : Key} {u : Value} {A : Around} {E : GJ}
theorem En {v : V} {more : GO} {Q : GJ} (I : Inv X pins σ H s) (e : H a = some (.dK kvs)) (ry : RelV (kV k) u) (l : dQ kvs k = some v) (hm : more = [] \/ ∃ x, more = [x])
 (h : ∀ w' s', Inv X pins σ (upd H a (.dK (kJ kvs k))) s' -> RelV v w' -> Q w' s') : wpAny (model X.prog X.w) A (call (.builtin "dict.pop") (.ref a :: u :: more)) Q E s := by
 obtain ⟨z, hd, vs, rel, dd⟩ := tM I.hok e;obtain ⟨w', hw, rw'⟩ := fX.some_of (v := v) (o := valueAt vs k) (by rw [<- l]; exact rel.val k);have hp : (keyPart u).isSome = true := by
  cases k with
  | inl i => obtain ⟨t, q⟩ := (show ∃ t, u = Value.int i t from ry); subst q; rfl
  | inr x => obtain ⟨t, q⟩ := (show ∃ t, u = Value.str x t from ry); subst q; rfl
 have ha : argsOk "dict.pop" ⟨.ref a :: u :: more, []⟩ := by
  rcases hm with q | ⟨x, q⟩
  . subst q; exact PySem.F.args_dict_pop_2 _ _
  . subst q; exact PySem.F.args_dict_pop_3 _ _ _
 refine call_meetsIn PySem.F.slot_dict_pop dd.typeIs PySem.F.entry_dict_pop ha (meets_dict_pop_there (bA X.prog X.w) a (nA ry) more hm hp)
  ⟨vs, w', dd, by rw [<- rel.length]; exact z, hw, fun h' dd' hs => h w' _ ?_ rw'⟩
 have he : ∃ q, h'.get? a = some q := let ⟨q, _, _, hq, _⟩ := dd'; ⟨q, hq⟩;exact pS I (by rw [e]; exact True.intro) hs he (wF (Nat.le_trans (w5 kvs k) z) hd (rel.drop k) dd')
end
def z9 (i : Expr) : Prop := ∀ ov iv, subscripted i false ov iv = operate [ov, iv] (getItem ov iv)
theorem zY {prog : Program} {w : World} {A : Around} {E : GJ} {s : Shared} {env : Env} {value slice : Expr} {pos : Pos} {T id : String} {Q : GJ}
 (hl : typeLookup (.type T) "__getitem__" = pure (some (.builtin id))) (hs : z9 slice)
 (h : wpAny (model prog w) A (eval value env) (fun o s₁ => wpAny (model prog w) A (eval slice env) (fun i s₂ => s₂.TypeIs o T /\ wpAny (model prog w) A (getItem o i) Q E s₂) E s₁) E s) :
 wpAny (model prog w) A (eval (.Subscript value slice pos) env) Q E s := by
 refine Subscript_ (wpAny_mono h (fun o s₁ h₁ => wpAny_mono h₁ (fun i s₂ h₂ => ?_) fun _ _ x => x) fun _ _ x => x);obtain ⟨hT, h₂⟩ := h₂;unfold subscriptTail;refine wpAny_bind ?_;rw [getitemInPython_of_ne hT.not_modules];refine wpAny_bind (wpAny_specialOf hT hl ?_);have fin : wpAny (model prog w) A (subscripted slice false o i) (fun r s₃ => wpAny (model prog w) A (letTemporaryGo value o r >>= fun _ => pure r) Q E s₃) E s₂ := by
  rw [hs o i];exact wpAny_operating (wpAny_mono h₂ (fun r s₃ h₃ => wpAny_bind (wpAny_letTemporaryGo (wpAny_pure h₃))) fun _ _ x => x)
 first
  | exact wpAny_pure (wpAny_bind fin)
  | exact wpAny_bind (wpAny_pure (wpAny_bind fin))
  | exact wpAny_bind fin
theorem rq {X : Cx} {pins : GR} {σ : St} {H : Hp} {s : Shared} {a : Addr} {y : V} {o : Option V} (I : Inv X pins σ H s) (g : jV H a y o) : s.TypeIs (.ref a) "dict" := by
 rcases g with ⟨kvs, k, e, _, _⟩ | ⟨kvs, k, b, e, _, _, _⟩
 . obtain ⟨_, _, vs, _, dd⟩ := iB I.hok e;exact dd.typeIs
 . obtain ⟨_, _, xs, _, dd⟩ := nQ I.hok e;exact dd.typeIs
def Dk (td ty : TE) : TE := fun σ H Q => td σ H fun x H1 => ty σ H1 fun y H2 => ∃ a v, x = .ref a /\ jV H2 a y (some v) /\ Q v H2
def FL (ty td : TE) : TE := fun σ H Q => ty σ H fun y H1 => td σ H1 fun x H2 => ∃ a o, x = .ref a /\ jV H2 a y o /\ Q (.bl o.isSome) H2
def AM (ty td : TE) : TE := fun σ H Q => ty σ H fun y H1 => td σ H1 fun x H2 => ∃ a o, x = .ref a /\ jV H2 a y o /\ Q (.bl (!o.isSome)) H2
def Dl (td ty tv : TE) : TS := fun D σ H => tv σ H fun v H1 => td σ H1 fun x H2 => ty σ H2 fun y H3 => ∃ a H4, x = .ref a /\ tF H3 a y v H4 /\ D.nx σ H4
section
variable {X : Cx} {o i e value : Expr} {pos pos' tpos : Pos} {td ty tv : TE}
theorem t5 (hu : X.A.units + 1 < cLine) (ho : PE X o td) (hi : PE X i ty) (hs : z9 i) : PE X (.Subscript o i pos) (Dk td ty) := by
 intro pins s σ H Q I h;refine zY PySem.F.slot_dict_getitem.lookup hs (cg (ho pins s σ H _ I h) fun u s1 ⟨x, H1, I1, rx, q1⟩ => cg (hi pins s1 σ H1 _ I1 q1) fun iv s2 ⟨y, H2, I2, ry, a, v, ex, g, q2⟩ => ?_);subst ex;obtain rfl : u = Value.ref a := rx;exact ⟨rq I2 g, vW hu I2 g ry fun w' s3 I3 rw' => ⟨v, H2, I3, rw', q2⟩⟩
theorem CU (hu : X.A.units + 1 < cLine) (hi : PE X i ty) (ho : PE X o td) : PC X .In i o (FL ty td) := by
 intro pins s σ H Q I h;refine cg (hi pins s σ H _ I h) fun iv s1 ⟨y, H1, I1, ry, q1⟩ => cg (ho pins s1 σ H1 _ I1 q1) fun u s2 ⟨x, H2, I2, rx, a, ov, ex, g, q2⟩ => ?_;subst ex;obtain rfl : u = Value.ref a := rx;exact E1 hu I2 g ry fun s3 I3 => ⟨.bl ov.isSome, H2, I3, rfl, q2⟩
theorem vk (hu : X.A.units + 1 < cLine) (hi : PE X i ty) (ho : PE X o td) : PC X .NotIn i o (AM ty td) := by
 intro pins s σ H Q I h;refine cg (hi pins s σ H _ I h) fun iv s1 ⟨y, H1, I1, ry, q1⟩ => cg (ho pins s1 σ H1 _ I1 q1) fun u s2 ⟨x, H2, I2, rx, a, ov, ex, g, q2⟩ => ?_;subst ex;obtain rfl : u = Value.ref a := rx;exact Ar hu I2 g ry fun s3 I3 => ⟨.bl (!ov.isSome), H2, I3, rfl, q2⟩
theorem uh (hu : X.A.units + 1 < cLine) (ho : PE X o td) (hi : PE X i ty) (hv : PE X value tv) (hs : swapsWith value (some (.Subscript o i pos')) pos.line X.env = pure false) :
 PS X (.Assign [.Subscript o i pos'] value pos) (Dl td ty tv) := by
 intro pins s σ H D I h;refine wpAny_Assign_Subscript (cg (hv pins s σ H _ I h) fun r s1 ⟨v, H1, I1, rv, q1⟩ => cg (ho pins s1 σ H1 _ I1 q1) fun u s2 ⟨x, H2, I2, rx, q2⟩ => cg (hi pins s2 σ H2 _ I2 q2) fun iv s3 ⟨y, H3, I3, ry, a, H4, ex, g, q3⟩ => ?_) hs;subst ex;obtain rfl : u = Value.ref a := rx;exact u9 hu I3 g ry rv fun s4 I4 => ⟨σ, H4, I4, q3⟩
end
theorem yD {P : Program} {w : World} {H : Hp} (h : Heap) (hb : sysModules < h.objs.size) : bz P w H (h.push { cls := .type "dict", data := .dict #[] }) h.objs.size (.dK []) :=
 ⟨Nat.zero_le _, beq_eq_false_iff_ne.mpr (Ne.symm (Nat.ne_of_lt hb)), [], .nil, Heap.DictOf.new h⟩
def BI : TE := fun _ H Q => ∀ p, H p = none -> Q (.ref p) (upd H p (.dK []))
def FH : TE := fun _ H Q => ∀ p, H p = none -> Q (.ref p) (upd H p (.dT []))
section
variable {X : Cx} {pos : Pos}
theorem y8 : PE X (.Dict [] [] pos) BI := fun pins s σ H Q I h =>
 wpAny_Dict_empty ⟨.ref s.heap.objs.size, _, I.laid (a := s.heap.objs.size) (o := .dK []) (t' := s.toks) (fun _ _ q => get?_push_of_some _ q) (Nat.le_refl _) (yD s.heap I.big), rfl, h _ (I.hok.fresh (Nat.le_refl _))⟩
end
structure M1 (X : Cx) (o : Expr) (m : Str) (apos : Pos) (e : Expr) (cpos : Pos) : Prop where
 base : attributeBase o m X.env (eval o X.env) = eval o X.env
 few : ((backTo cpos (starEach [e] X.env)).all (fun x => !x.1) && (backToKw cpos (keywordEach [] X.env)).all (fun x => x.1.isSome)
  && decide (([e] : List Expr).length + ([] : List Keyword).length + (if ([] : List Keyword).isEmpty then 0 else 1) < 30)) = true
 line : (apos.endLine == cpos.line) = true
 trees : backTo cpos (starEach [e] X.env) = [(false, eval e X.env)]
def FY (H : Hp) (a : Addr) : Prop := (∃ kvs, Rd H a (.dK kvs)) \/ ∃ kvs, Rd H a (.dT kvs)
theorem BR {X : Cx} {pins : GR} {σ : St} {H : Hp} {s : Shared} {a : Addr} (I : Inv X pins σ H s) (d : FY H a) :
 s.TypeIs (.ref a) "dict" /\ (∀ b, Value.ref a = .ref b -> ∃ ob, s.heap.get? b = some ob /\ ob.dict = none) /\ (a == sysModules) = false := by
 rcases d with ⟨kvs, e⟩ | ⟨kvs, e⟩
 . obtain ⟨_, hd, vs, _, dd⟩ := iB I.hok e;refine ⟨dd.typeIs, fun b q => ?_, hd⟩;cases q;obtain ⟨ob, _, _, h1, h2, _⟩ := dd;exact ⟨ob, h1, h2.2.1⟩
 . obtain ⟨_, hd, xs, _, dd⟩ := nQ I.hok e;refine ⟨dd.typeIs, fun b q => ?_, hd⟩;cases q;obtain ⟨ob, _, _, h1, h2, _⟩ := dd;exact ⟨ob, h1, h2.2.1⟩
def Cv (td ty : TE) : TE := fun σ H Q => td σ H fun x H1 => ∃ a, x = .ref a /\ FY H1 a /\ ty σ H1 fun y H2 => ∃ kvs k v, H2 a = some (.dK kvs) /\ y = kV k /\ dQ kvs k = some v /\ Q v (upd H2 a (.dK (kJ kvs k)))
section
variable {X : Cx} {o e f : Expr} {apos cpos : Pos} {td ty tx : TE}
theorem rl (ho : PE X o td) (he : PE X e ty) (m : M1 X o "pop" apos e cpos) : PE X (.Call (.Attribute o "pop" apos) [e] [] cpos) (Cv td ty) := by
 intro pins s σ H Q I h;refine wpAny_Call_method m.base m.few m.line PySem.F.plainAttrs_dict PySem.F.slot_dict_pop PySem.F.type_dict_pop (cg (ho pins s σ H _ I h) fun u s1 ⟨x, H1, I1, rx, a, ex, d, q1⟩ => ?_);subst ex;obtain rfl : u = Value.ref a := rx;obtain ⟨t1, t2, _⟩ := BR I1 d;refine ⟨t1, t2, ?_⟩;rw [m.trees];refine Calls.callWith_builtin rfl (Calls.evalArgs_plain (Calls.spliced_cons (cg (he pins s1 σ H1 _ I1 q1) fun iv s2 ⟨y, H2, I2, ry, kvs, k, v, ea, ey, l, q2⟩ => Calls.spliced_nil ?_)));subst ey;exact En I2 ea ry l (.inl rfl) fun w' s3 I3 rw' => ⟨v, _, I3, rw', q2⟩
end
end L2
namespace Att
open PySem PySem.W PySem.Calls PyProof.Rows
end Att
namespace L2
open PySem PySem.Spec PyProof.Rows
end L2
namespace Y.DEq
open PySem PySem.SeqAt PySem.MeetsSeq PySem.AutoSeq1
abbrev wA (dd : GQ) (es : Array DictEntry) (n : Nat) (sl : GL) : Obj := ⟨.type "dict", dd, .dict es n, sl⟩
abbrev EH (T : String) (dd : GQ) (xs : GP) (n : Nat) (sl : GL) : Obj := ⟨.type T, dd, .seq xs n, sl⟩
section
variable (l b : Addr) (es : Array DictEntry) (xs : GP) (n m : Nat) (dd de : GQ) (sl sm : GL) (q : Bool) (i : Int) (z : Str) (t : Tok)
theorem vY : Meets (Builtin.«dict.__eq__» ⟨[.ref l, .none], []⟩) (fun _ R s => s.heap.get? l = some (wA dd es n sl) /\ R (.ok (.ret .notImplemented)) s) :=
 .of_wp fun prog w A R s h => by
  obtain ⟨hp, g, d, tk, os⟩ := s;obtain ⟨hl, h⟩ := h;have f1 := F.sub_NoneType_dict;wp_walk using wpAny_loadPart' hl;exact ⟨_, rfl, h⟩
theorem dict_bool : Meets (Builtin.«dict.__eq__» ⟨[.ref l, .bool q], []⟩) (fun _ R s => s.heap.get? l = some (wA dd es n sl) /\ R (.ok (.ret .notImplemented)) s) :=
 .of_wp fun prog w A R s h => by
  obtain ⟨hp, g, d, tk, os⟩ := s;obtain ⟨hl, h⟩ := h;have f1 := F.sub_bool_dict;wp_walk using wpAny_loadPart' hl;exact ⟨_, rfl, h⟩
theorem dict_int : Meets (Builtin.«dict.__eq__» ⟨[.ref l, .int i t], []⟩) (fun _ R s => s.heap.get? l = some (wA dd es n sl) /\ R (.ok (.ret .notImplemented)) s) :=
 .of_wp fun prog w A R s h => by
  obtain ⟨hp, g, d, tk, os⟩ := s;obtain ⟨hl, h⟩ := h;have f1 := F.sub_int_dict;wp_walk using wpAny_loadPart' hl;exact ⟨_, rfl, h⟩
theorem dict_str : Meets (Builtin.«dict.__eq__» ⟨[.ref l, .str z t], []⟩) (fun _ R s => s.heap.get? l = some (wA dd es n sl) /\ R (.ok (.ret .notImplemented)) s) :=
 .of_wp fun prog w A R s h => by
  obtain ⟨hp, g, d, tk, os⟩ := s;obtain ⟨hl, h⟩ := h;have f1 := F.sub_str_dict;wp_walk using wpAny_loadPart' hl;exact ⟨_, rfl, h⟩
theorem dict_list : Meets (Builtin.«dict.__eq__» ⟨[.ref l, .ref b], []⟩) (fun _ R s => s.heap.get? l = some (wA dd es n sl) /\ s.heap.get? b = some (EH "list" de xs m sm) /\ R (.ok (.ret .notImplemented)) s) :=
 .of_wp fun prog w A R s h => by
  obtain ⟨hp, g, d, tk, os⟩ := s;obtain ⟨hl, hb, h⟩ := h;have f1 := F.sub_list_dict;wp_walk using wpAny_loadPart' hl, wpAny_loadPart' hb;exact ⟨_, rfl, h⟩
theorem list_dict : Meets (Builtin.«list.__eq__» ⟨[.ref b, .ref l], []⟩) (fun _ R s => s.heap.get? l = some (wA dd es n sl) /\ s.heap.get? b = some (EH "list" de xs m sm) /\ R (.ok (.ret .notImplemented)) s) :=
 .of_wp fun prog w A R s h => by
  obtain ⟨hp, g, d, tk, os⟩ := s;obtain ⟨hl, hb, h⟩ := h;have f1 := F.sub_dict_list;wp_walk using wpAny_loadPart' hl, wpAny_loadPart' hb;exact ⟨_, rfl, h⟩
theorem dict_tuple : Meets (Builtin.«dict.__eq__» ⟨[.ref l, .ref b], []⟩) (fun _ R s => s.heap.get? l = some (wA dd es n sl) /\ s.heap.get? b = some (EH "tuple" de xs m sm) /\ R (.ok (.ret .notImplemented)) s) :=
 .of_wp fun prog w A R s h => by
  obtain ⟨hp, g, d, tk, os⟩ := s;obtain ⟨hl, hb, h⟩ := h;have f1 := F.sub_tuple_dict;wp_walk using wpAny_loadPart' hl, wpAny_loadPart' hb;exact ⟨_, rfl, h⟩
theorem tuple_dict : Meets (Builtin.«tuple.__eq__» ⟨[.ref b, .ref l], []⟩) (fun _ R s => s.heap.get? l = some (wA dd es n sl) /\ s.heap.get? b = some (EH "tuple" de xs m sm) /\ R (.ok (.ret .notImplemented)) s) :=
 .of_wp fun prog w A R s h => by
  obtain ⟨hp, g, d, tk, os⟩ := s;obtain ⟨hl, hb, h⟩ := h;have f1 := F.sub_dict_tuple;wp_walk using wpAny_loadPart' hl, wpAny_loadPart' hb;exact ⟨_, rfl, h⟩
theorem bool_dict : Meets (Builtin.«int.__eq__» ⟨[.bool q, .ref l], []⟩) (fun _ R s => s.heap.get? l = some (wA dd es n sl) /\ R (.ok (.ret .notImplemented)) s) :=
 .of_wp fun prog w A R s h => by
  obtain ⟨hp, g, d, tk, os⟩ := s;obtain ⟨hl, h⟩ := h;wp_walk using wpAny_loadPart' hl, wpAny_load hl;exact ⟨_, rfl, h⟩
theorem int_dict : Meets (Builtin.«int.__eq__» ⟨[.int i t, .ref l], []⟩) (fun _ R s => s.heap.get? l = some (wA dd es n sl) /\ R (.ok (.ret .notImplemented)) s) :=
 .of_wp fun prog w A R s h => by
  obtain ⟨hp, g, d, tk, os⟩ := s;obtain ⟨hl, h⟩ := h;wp_walk using wpAny_loadPart' hl, wpAny_load hl;exact ⟨_, rfl, h⟩
theorem str_dict : Meets (Builtin.«str.__eq__» ⟨[.str z t, .ref l], []⟩) (fun _ R s => s.heap.get? l = some (wA dd es n sl) /\ R (.ok (.ret .notImplemented)) s) :=
 .of_wp fun prog w A R s h => by
  obtain ⟨hp, g, d, tk, os⟩ := s;obtain ⟨hl, h⟩ := h;wp_walk using wpAny_loadPart' hl, wpAny_load hl;exact ⟨_, rfl, h⟩
end
def eh (h : Heap) (a : Addr) : Prop := ∃ dd es n sl, h.get? a = some (wA dd es n sl)
section
variable {A : Around} {s : Shared} {l b : Addr}
theorem zr  (hl : eh s.heap l) (hu : A.units < cLine) : RcAt A s (.none) (.ref l) false := fun prog w E Q h => by
 obtain ⟨dd, es, n, sl, ho⟩ := hl;refine rc_eq_decline_or (k := false) (Ta := "NoneType") (rfl) ⟨_, ho, rfl⟩ (by decide) F.sub_dict_NoneType F.slot_NoneType_eq F.slot_dict_eq_refl (fun _ hq => ?_) (fun _ hq => ?_) (fun _ hq => wpAny_of_eq (rfl : isSame (.none) (.ref l) = pure false) hq) (.inr hu) h
 . exact call_gives F.slot_NoneType_eq rfl F.entry_NoneType_eq (F.args_NoneType_eq_2 _ _) (NoneType___eq___none_ref_0 l) hq
 . exact call_meets F.slot_dict_eq_refl ⟨_, ho, rfl⟩ F.entry_dict_eq (F.args_dict_eq_2 _ _) (vY l es n dd sl) ⟨ho, hq⟩
theorem AG  (hl : eh s.heap l) (hu : A.units < cLine) : EqAt A s (.none) (.ref l) false := fun prog w E Q h => by
 unfold eqBool;refine wpAny_holding (wpAny_ite_split (fun hab => absurd (eq_of_beq hab) nofun) fun _ => ?_);exact wpAny_bind (zr  hl hu prog w E _ (wpAny_truthy_bool h))
theorem zm (q : Bool) (hl : eh s.heap l) (hu : A.units < cLine) : RcAt A s (.bool q) (.ref l) false := fun prog w E Q h => by
 obtain ⟨dd, es, n, sl, ho⟩ := hl;refine rc_eq_decline_or (k := false) (Ta := "bool") (rfl) ⟨_, ho, rfl⟩ (by decide) F.sub_dict_bool F.slot_bool_eq F.slot_dict_eq_refl (fun _ hq => ?_) (fun _ hq => ?_) (fun _ hq => wpAny_of_eq (rfl : isSame (.bool q) (.ref l) = pure false) hq) (.inr hu) h
 . exact call_meets F.slot_bool_eq rfl F.entry_int_eq (F.args_int_eq_2 _ _) (bool_dict l es n dd sl q) ⟨ho, hq⟩
 . exact call_meets F.slot_dict_eq_refl ⟨_, ho, rfl⟩ F.entry_dict_eq (F.args_dict_eq_2 _ _) (dict_bool l es n dd sl q) ⟨ho, hq⟩
theorem Af (q : Bool) (hl : eh s.heap l) (hu : A.units < cLine) : EqAt A s (.bool q) (.ref l) false := fun prog w E Q h => by
 unfold eqBool;refine wpAny_holding (wpAny_ite_split (fun hab => absurd (eq_of_beq hab) nofun) fun _ => ?_);exact wpAny_bind (zm q hl hu prog w E _ (wpAny_truthy_bool h))
theorem CY (i : Int) (t : Tok) (hl : eh s.heap l) (hu : A.units < cLine) : RcAt A s (.int i t) (.ref l) false := fun prog w E Q h => by
 obtain ⟨dd, es, n, sl, ho⟩ := hl;refine rc_eq_decline_or (k := false) (Ta := "int") (typeIs_int s i t) ⟨_, ho, rfl⟩ (by decide) F.sub_dict_int F.slot_int_eq F.slot_dict_eq_refl (fun _ hq => ?_) (fun _ hq => ?_) (fun _ hq => wpAny_of_eq (rfl : isSame (.int i t) (.ref l) = pure false) hq) (.inr hu) h
 . exact call_meets F.slot_int_eq (typeIs_int s i t) F.entry_int_eq (F.args_int_eq_2 _ _) (int_dict l es n dd sl i t) ⟨ho, hq⟩
 . exact call_meets F.slot_dict_eq_refl ⟨_, ho, rfl⟩ F.entry_dict_eq (F.args_dict_eq_2 _ _) (dict_int l es n dd sl i t) ⟨ho, hq⟩
theorem Cn (i : Int) (t : Tok) (hl : eh s.heap l) (hu : A.units < cLine) : EqAt A s (.int i t) (.ref l) false := fun prog w E Q h => by
 unfold eqBool;refine wpAny_holding (wpAny_ite_split (fun hab => absurd (eq_of_beq hab) nofun) fun _ => ?_);exact wpAny_bind (CY i t hl hu prog w E _ (wpAny_truthy_bool h))
theorem Cw (z : Str) (t : Tok) (hl : eh s.heap l) (hu : A.units < cLine) : RcAt A s (.str z t) (.ref l) false := fun prog w E Q h => by
 obtain ⟨dd, es, n, sl, ho⟩ := hl;refine rc_eq_decline_or (k := false) (Ta := "str") (typeIs_str s z t) ⟨_, ho, rfl⟩ (by decide) F.sub_dict_str F.slot_str_eq F.slot_dict_eq_refl (fun _ hq => ?_) (fun _ hq => ?_) (fun _ hq => wpAny_of_eq (rfl : isSame (.str z t) (.ref l) = pure false) hq) (.inr hu) h
 . exact call_meets F.slot_str_eq (typeIs_str s z t) F.entry_str_eq (F.args_str_eq_2 _ _) (str_dict l es n dd sl z t) ⟨ho, hq⟩
 . exact call_meets F.slot_dict_eq_refl ⟨_, ho, rfl⟩ F.entry_dict_eq (F.args_dict_eq_2 _ _) (dict_str l es n dd sl z t) ⟨ho, hq⟩
theorem Cc (z : Str) (t : Tok) (hl : eh s.heap l) (hu : A.units < cLine) : EqAt A s (.str z t) (.ref l) false := fun prog w E Q h => by
 unfold eqBool;refine wpAny_holding (wpAny_ite_split (fun hab => absurd (eq_of_beq hab) nofun) fun _ => ?_);exact wpAny_bind (Cw z t hl hu prog w E _ (wpAny_truthy_bool h))
theorem tQ {xs : GP} (hb : s.heap.IsList b xs) (hl : eh s.heap l) : b ≠ l := fun e => by
 subst e;obtain ⟨o, ho, hc, _⟩ := hb;obtain ⟨dd, es, n, sl, ho2⟩ := hl;rw [ho] at ho2;cases ho2;exact absurd hc (by simp)
theorem zO {xs : GP} (hb : s.heap.IsList b xs) (hl : eh s.heap l) (hu : A.units < cLine) : RcAt A s (.ref b) (.ref l) false := fun prog w E Q h => by
 have hne := tQ hb hl;obtain ⟨dd, es, n, sl, ho⟩ := hl;obtain ⟨⟨cls, de, data, sm⟩, hb1, hc, m, hd⟩ := id hb;simp only at hc hd;subst hc hd;refine rc_eq_decline_or (k := false) (Ta := "list") ⟨_, hb1, rfl⟩ ⟨_, ho, rfl⟩ (by decide) F.sub_dict_list F.slot_list_eq F.slot_dict_eq_refl (fun _ hq => ?_) (fun _ hq => ?_) (fun _ hq => wpAny_isSame_ref_other hne hb1 ho (by simp) hq) (.inr hu) h
 . exact call_meets F.slot_list_eq ⟨_, hb1, rfl⟩ F.entry_list_eq (F.args_list_eq_2 _ _) (list_dict l b es xs n m dd de sl sm) ⟨ho, hb1, hq⟩
 . exact call_meets F.slot_dict_eq_refl ⟨_, ho, rfl⟩ F.entry_dict_eq (F.args_dict_eq_2 _ _) (dict_list l b es xs n m dd de sl sm) ⟨ho, hb1, hq⟩
theorem z6 {xs : GP} (hb : s.heap.IsList b xs) (hl : eh s.heap l) (hu : A.units < cLine) : EqAt A s (.ref b) (.ref l) false := .of_refs (tQ hb hl) (zO hb hl hu)
theorem qw {xs : GP} (hb : s.heap.IsTuple b xs) (hl : eh s.heap l) : b ≠ l := fun e => by
 subst e;obtain ⟨o, ho, hc, _⟩ := hb;obtain ⟨dd, es, n, sl, ho2⟩ := hl;rw [ho] at ho2;cases ho2;exact absurd hc (by simp)
theorem yc {xs : GP} (hb : s.heap.IsTuple b xs) (hl : eh s.heap l) (hu : A.units < cLine) : RcAt A s (.ref b) (.ref l) false := fun prog w E Q h => by
 have hne := qw hb hl;obtain ⟨dd, es, n, sl, ho⟩ := hl;obtain ⟨⟨cls, de, data, sm⟩, hb1, hc, m, hd⟩ := id hb;simp only at hc hd;subst hc hd;refine rc_eq_decline_or (k := false) (Ta := "tuple") ⟨_, hb1, rfl⟩ ⟨_, ho, rfl⟩ (by decide) F.sub_dict_tuple F.slot_tuple_eq F.slot_dict_eq_refl (fun _ hq => ?_) (fun _ hq => ?_) (fun _ hq => wpAny_isSame_ref_other' hne hb1 ho (by simp) hq) (.inr hu) h
 . exact call_meets F.slot_tuple_eq ⟨_, hb1, rfl⟩ F.entry_tuple_eq (F.args_tuple_eq_2 _ _) (tuple_dict l b es xs n m dd de sl sm) ⟨ho, hb1, hq⟩
 . exact call_meets F.slot_dict_eq_refl ⟨_, ho, rfl⟩ F.entry_dict_eq (F.args_dict_eq_2 _ _) (dict_tuple l b es xs n m dd de sl sm) ⟨ho, hb1, hq⟩
theorem qq {xs : GP} (hb : s.heap.IsTuple b xs) (hl : eh s.heap l) (hu : A.units < cLine) : EqAt A s (.ref b) (.ref l) false := .of_refs (qw hb hl) (yc hb hl hu)
end
end Y.DEq
namespace Y
open PySem PySem.Spec PyProof.Rows L2
abbrev St := L2.St
class bT where
 T : List (Addr × Str)
variable [bT]
def y9 : HO -> Bool
 | .tbl _ => true
 | _ => false
def sI (c : Addr) (q : Str) : HO := .ext fun h => h.CodeRec (.ref c) q
def TabsOk (H : Hp) : Prop := ∀ P ∈ bT.T, ∃ ps, H P.1 = some (.tbl ps) /\ TriplesOk ps.toList /\ ∀ pos cv, codeAmong pos ps.toList = some cv -> ∃ c, cv = .ref c /\ H c = some (sI c P.2)
structure ao (H H' : Hp) : Prop where
 get : ∀ b o, H b = some o -> y9 o = false -> H' b = some o
 tbl : ∀ b ps, H b = some (.tbl ps) -> ∃ ps', H' b = some (.tbl ps')
 tabs : TabsOk H -> TabsOk H'
theorem ao.at {H H' : Hp} (s : ao H H') {b : Addr} {o : HO} (h : H b = some o) (n : y9 o = false := by rfl) : H' b = some o := s.get b o h n
theorem ao.refl (H : Hp) : ao H H := ⟨fun _ _ h _ => h, fun _ ps h => ⟨ps, h⟩, fun t => t⟩
theorem ao.trans {H H1 H2 : Hp} (a : ao H H1) (b : ao H1 H2) : ao H H2 :=
 ⟨fun c o h n => b.get c o (a.get c o h n) n, fun c ps h => let ⟨ps', e⟩ := a.tbl c ps h; b.tbl c ps' e, fun t => b.tabs (a.tabs t)⟩
theorem ao.free {H H' : Hp} (e : ao H H') {l : Addr} (h : H' l = Option.none) : H l = Option.none := by
 cases q : H l with
 | none => rfl
 | some o =>
  cases n : y9 o with
  | false => rw [e.get l o q n] at h; cases h
  | true =>
   cases o with
   | tbl ps => obtain ⟨ps', z⟩ := e.tbl l ps q; rw [z] at h; cases h
   | _ => cases n
theorem ao.seq {K : Frag} {H H' : Hp} {a : Addr} {xs : List V} (e : ao H H') (h : eP K H a xs) : eP K H' a xs := by
 rcases h with (h | ⟨o, h⟩) | h
 . exact .inl (.inl (e.at h))
 . exact .inl (.inr ⟨o, e.at h⟩)
 . exact .inr h
inductive DO where
 | k (kvs : List (Key × V))
 | t (kvs : List (List Key × V))
 | f (b : Obj) (kvs : List (Key × V))
def DO.ho : DO -> HO
 | .k kvs => .dK kvs
 | .t kvs => .dT kvs
 | .f b kvs => .frz b (.dK kvs)
inductive MO where
 | l (xs : List V)
 | d (o : DO)
 | i (C dx : Addr) (fs : List (Str × V))
def MO.ho : MO -> HO
 | .l xs => .lst xs
 | .d o => o.ho
 | .i C dx fs => .ins C dx fs
theorem MO.nt (o : MO) : y9 o.ho = false := by
 rcases o with xs | (kvs | kvs) | _ <;> rfl
theorem DO.inj {o o' : DO} (h : o.ho = o'.ho) : o = o' := by
 cases o <;> cases o' <;> cases h <;> rfl
theorem MO.vj (o : MO) {xs : List V} (h : o.ho = .tup xs) : False := by
 rcases o with xs | (kvs | kvs) | _ <;> cases h
theorem MO.Eb (o : MO) {b : Obj} {zs : List V} (h : o.ho = .frz b (.lst zs)) : False := by
 rcases o with xs | (kvs | kvs) | _ <;> cases h
theorem DO.Ds (o : DO) {xs : List V} (h : o.ho = .lst xs) : False := by
 cases o <;> cases h
theorem TabsOk.upd {H : Hp} {p : Addr} {o : HO} (h : H p = none \/ ∃ xs : MO, H p = some xs.ho) (t : TabsOk H) : TabsOk (upd H p o) := fun P hP => by
 obtain ⟨ps, e, tr, k⟩ := t P hP;have ne : ∀ {b : Addr} {u : HO}, H b = some u -> (∀ xs : MO, u ≠ xs.ho) -> b ≠ p := fun {b u} q n z => by
  rcases h with h | ⟨xs, h⟩
  . rw [z, h] at q; cases q
  . rw [z, h] at q; exact n xs (Option.some.inj q).symm
 refine ⟨ps, by rw [aa (ne e (by intro xs z; rcases xs with xs | (kvs | kvs) | _ <;> cases z))]; exact e, tr, fun pos cv q => ?_⟩;obtain ⟨c, rfl, hc⟩ := k pos cv q;exact ⟨c, rfl, by rw [aa (ne hc (by intro xs z; rcases xs with xs | (kvs | kvs) | _ <;> cases z))]; exact hc⟩
theorem ao.fG {H H' : Hp} {l : Addr} {xs : MO} {o : HO} (s : ao H H') (h : H l = none) (h' : H' l = some xs.ho) : ao H (upd H' l o) :=
 ⟨fun b u e n => by rw [aa (aq e h)]; exact s.get b u e n, fun b ps e => by rw [aa (aq e h)]; exact s.tbl b ps e, fun t => (s.tabs t).upd (.inr ⟨xs, h'⟩)⟩
theorem ao.write {H H' : Hp} {l : Addr} {xs : List V} {o : HO} (s : ao H H') (h : H l = none) (h' : H' l = some (.lst xs)) : ao H (upd H' l o) := s.fG (xs := .l xs) h h'
inductive Sh where
 | k (ks : List Key)
 | t (ks : List (List Key))
 | o (C : Addr) (fs : GV)
 | f (b : Obj) (ks : List Key)
def Sh.at (H : Hp) (a : Addr) (xs : List V) : Sh -> Prop
 | .k ks => ks.length = xs.length /\ H a = some (.dK (ks.zip xs))
 | .t ks => ks.length = xs.length /\ H a = some (.dT (ks.zip xs))
 | .o C fs => fs.length = xs.length /\ ∃ dx, H a = some (.ins C dx (fs.zip xs))
 | .f b ks => ks.length = xs.length /\ H a = some (.frz b (.dK (ks.zip xs)))
theorem Sh.mo {H : Hp} {a : Addr} {xs : List V} {s : Sh} (h : s.at H a xs) : ∃ m : MO, H a = some m.ho /\ ∀ H' : Hp, H' a = some m.ho -> s.at H' a xs := by
 cases s with
 | k ks => exact ⟨.d (.k _), h.2, fun H' e => ⟨h.1, e⟩⟩
 | t ks => exact ⟨.d (.t _), h.2, fun H' e => ⟨h.1, e⟩⟩
 | o C fs =>
  obtain ⟨h1, dx, h2⟩ := h;exact ⟨.i C dx _, h2, fun H' e => ⟨h1, dx, e⟩⟩
 | f b ks => exact ⟨.d (.f b _), h.2, fun H' e => ⟨h.1, e⟩⟩
inductive D where
 | non
 | bl (b : Bool)
 | int (i : Int)
 | str (x : Str)
 | lst (ds : List D)
 | tup (ds : List D)
 | dct (o : DO)
 | ktup (ks : List Key)
 | agg (s : Sh) (ds : List D)
def kD : Key -> D
 | .inl i => .int i
 | .inr x => .str x
structure ax where
 m : Bool
 S : Addr -> Prop
def RO (K : Frag) (H : Hp) (a : Addr) (xs : List V) : Prop :=
 (∃ o, H a = some (.frz o (.lst xs))) \/
  ∃ (o : Obj) (its : GP) (n : Nat), K.lookup a = some o /\ o.cls = .type "list" /\ o.dict = none /\ o.data = .seq its n /\ its.size <= sizeLine /\ Vals xs its.toList
def LstAt (K : Frag) (H : Hp) (Z : ax) (a : Addr) (xs : List V) : Prop := (H a = some (.lst xs) /\ Z.S a) \/ (Z.m = false /\ RO K H a xs)
theorem LstAt.sq {K : Frag} {H : Hp} {Z : ax} {a : Addr} {xs : List V} (h : LstAt K H Z a xs) : eP K H a xs := by
 rcases h with ⟨h, _⟩ | ⟨_, h | h⟩
 . exact .inl (.inl h)
 . exact .inl (.inr h)
 . exact .inr h
def vG (K : Frag) (a : Addr) (ks : List Key) : Prop := ∃ (o : Obj) (its : GP) (n : Nat), K.lookup a = some o /\ o.cls = .type "tuple" /\ o.data = .seq its n /\ its.size <= sizeLine /\ Vals (ks.map kV) its.toList
mutual
def In (K : Frag) (H : Hp) (Z : ax) : D -> V -> Prop
 | .non, v => v = .non
 | .bl b, v => v = .bl b
 | .int i, v => v = .int i
 | .str x, v => v = .str x
 | .lst ds, v => ∃ a xs, v = .ref a /\ LstAt K H Z a xs /\ aC K H Z ds xs
 | .tup ds, v => ∃ a xs, v = .ref a /\ H a = some (.tup xs) /\ aC K H Z ds xs
 | .dct o, v => ∃ a, v = .ref a /\ H a = some o.ho /\ Z.S a
 | .ktup ks, v => ∃ a, v = .ref a /\ vG K a ks
 | .agg _ _, _ => False
def aC (K : Frag) (H : Hp) (Z : ax) : List D -> List V -> Prop
 | [], xs => xs = []
 | d :: ds, xs => ∃ v vs, xs = v :: vs /\ In K H Z d v /\ aC K H Z ds vs
end
structure Carry (K : Frag) (H : Hp) (Z : ax) (H' : Hp) (Z' : ax) : Prop where
 l : ∀ a (xs : MO), H a = some xs.ho -> Z.S a -> H' a = some xs.ho /\ Z'.S a
 r : Z.m = false -> Z'.m = false /\ ∀ a xs, RO K H a xs -> RO K H' a xs
 t : ∀ a (xs : List V), H a = some (.tup xs) -> H' a = some (.tup xs)
section
variable {K : Frag} {H H' H2 : Hp} {Z Z' Z2 : ax}
theorem LstAt.carry {a : Addr} {xs : List V} (c : Carry K H Z H' Z') (h : LstAt K H Z a xs) : LstAt K H' Z' a xs := by
 rcases h with ⟨h, s⟩ | ⟨m, h⟩
 . exact .inl (c.l a (.l xs) h s)
 . exact .inr ⟨(c.r m).1, (c.r m).2 a xs h⟩
mutual
theorem In.carry (c : Carry K H Z H' Z') : ∀ {d : D} {v : V}, In K H Z d v -> In K H' Z' d v
 | .non, _, h => by unfold In at h ⊢; exact h
 | .bl _, _, h => by unfold In at h ⊢; exact h
 | .int _, _, h => by unfold In at h ⊢; exact h
 | .str _, _, h => by unfold In at h ⊢; exact h
 | .lst ds, v, h => by
  unfold In at h ⊢;obtain ⟨a, xs, e, l, i⟩ := h;exact ⟨a, xs, e, l.carry c, aC.carry c i⟩
 | .tup ds, v, h => by
  unfold In at h ⊢;obtain ⟨a, xs, e, l, i⟩ := h;exact ⟨a, xs, e, c.t a xs l, aC.carry c i⟩
 | .dct o, v, h => by
  unfold In at h ⊢;obtain ⟨a, e, l, i⟩ := h;exact ⟨a, e, c.l a (.d o) l i⟩
 | .ktup ks, v, h => by unfold In at h ⊢; exact h
 | .agg _ _, v, h => by unfold In at h; exact h.elim
theorem aC.carry (c : Carry K H Z H' Z') : ∀ {ds : List D} {vs : List V}, aC K H Z ds vs -> aC K H' Z' ds vs
 | [], _, h => by unfold aC at h ⊢; exact h
 | d :: ds, vs, h => by
  unfold aC at h ⊢;obtain ⟨v, r, e, i, j⟩ := h;exact ⟨v, r, e, In.carry c i, aC.carry c j⟩
end
theorem RO.same {a : Addr} {xs : List V} (s : ao H H') (h : RO K H a xs) : RO K H' a xs := by
 rcases h with ⟨o, h⟩ | h
 . exact .inl ⟨o, s.at h⟩
 . exact .inr h
theorem Carry.of (s : ao H H') (hS : ∀ a (xs : MO), H a = some xs.ho -> Z.S a -> Z'.S a) (hm : Z.m = false -> Z'.m = false) : Carry K H Z H' Z' :=
 ⟨fun a xs h z => ⟨s.at h xs.nt, hS a xs h z⟩, fun m => ⟨hm m, fun a xs h => h.same s⟩, fun a xs h => s.at h⟩
theorem Carry.same (s : ao H H') : Carry K H Z H' Z := .of s (fun _ _ _ z => z) fun m => m
theorem In.same {d : D} {v : V} (s : ao H H') (h : In K H Z d v) : In K H' Z d v := h.carry (.same s)
theorem aC.same {ds : List D} {vs : List V} (s : ao H H') (h : aC K H Z ds vs) : aC K H' Z ds vs := h.carry (.same s)
theorem Carry.fG {l : Addr} {xs : MO} {o : HO} (h : H l = some xs.ho) (n : ¬ Z.S l) : Carry K H Z (upd H l o) Z := by
 refine ⟨fun a zs e z => ⟨?_, z⟩, fun m => ⟨m, fun a zs e => ?_⟩, fun a zs e => ?_⟩
 . have : a ≠ l := by rintro rfl; exact n z
   rw [aa this]; exact e
 . rcases e with ⟨o, e⟩ | e
   . refine .inl ⟨o, ?_⟩;rw [aa (dF e h (by intro q; exact xs.Eb q.symm))]; exact e
   . exact .inr e
 . rw [aa (dF e h (by intro q; exact xs.vj q.symm))]; exact e
theorem Carry.write {l : Addr} {xs ys : List V} (h : H l = some (.lst xs)) (n : ¬ Z.S l) : Carry K H Z (upd H l (.lst ys)) Z := Carry.fG (xs := .l xs) h n
mutual
def D.flat : D -> Bool
 | .lst _ => false
 | .dct _ => false
 | .agg _ _ => false
 | .tup ds => aV ds
 | _ => true
def aV : List D -> Bool
 | [] => true
 | d :: ds => D.flat d && aV ds
end
mutual
theorem In.flat (s : ∀ a (xs : List V), H a = some (.tup xs) -> H' a = some (.tup xs)) : ∀ {d : D} {v : V}, D.flat d = true -> In K H Z d v -> In K H' Z' d v
 | .non, _, _, h => by unfold In at h ⊢; exact h
 | .bl _, _, _, h => by unfold In at h ⊢; exact h
 | .int _, _, _, h => by unfold In at h ⊢; exact h
 | .str _, _, _, h => by unfold In at h ⊢; exact h
 | .lst ds, v, f, h => by unfold D.flat at f; cases f
 | .dct o, v, f, h => by unfold D.flat at f; cases f
 | .agg _ _, v, f, h => by unfold D.flat at f; cases f
 | .ktup ks, v, f, h => by unfold In at h ⊢; exact h
 | .tup ds, v, f, h => by
  unfold D.flat at f;unfold In at h ⊢;obtain ⟨a, xs, e, l, i⟩ := h;exact ⟨a, xs, e, s a xs l, aC.flat s f i⟩
theorem aC.flat (s : ∀ a (xs : List V), H a = some (.tup xs) -> H' a = some (.tup xs)) : ∀ {ds : List D} {vs : List V}, aV ds = true -> aC K H Z ds vs -> aC K H' Z' ds vs
 | [], _, _, h => by unfold aC at h ⊢; exact h
 | d :: ds, vs, f, h => by
  unfold aV at f;rw [Bool.and_eq_true] at f;unfold aC at h ⊢;obtain ⟨v, r, e, i, j⟩ := h;exact ⟨v, r, e, In.flat s f.1 i, aC.flat s f.2 j⟩
end
theorem In.cT {d : D} {v : V} (f : d.flat = true) (h : In K H Z d v) : In K H Z' d v := In.flat (fun _ _ e => e) f h
theorem aC.cT {ds : List D} {vs : List V} (f : aV ds = true) (h : aC K H Z ds vs) : aC K H Z' ds vs := aC.flat (fun _ _ e => e) f h
theorem ba {v : V} : In K H Z .non v ↔ v = .non := by unfold In; exact Iff.rfl
theorem bp {b : Bool} {v : V} : In K H Z (.bl b) v ↔ v = .bl b := by unfold In; exact Iff.rfl
theorem av {i : Int} {v : V} : In K H Z (.int i) v ↔ v = .int i := by unfold In; exact Iff.rfl
theorem in_str {x : Str} {v : V} : In K H Z (.str x) v ↔ v = .str x := by unfold In; exact Iff.rfl
theorem ah {ds : List D} {v : V} : In K H Z (.lst ds) v ↔ ∃ a xs, v = .ref a /\ LstAt K H Z a xs /\ aC K H Z ds xs := by unfold In; exact Iff.rfl
theorem bh {ds : List D} {v : V} : In K H Z (.tup ds) v ↔ ∃ a xs, v = .ref a /\ H a = some (.tup xs) /\ aC K H Z ds xs := by unfold In; exact Iff.rfl
theorem aK {ds : List D} {v : V} (h : In K H Z (.tup ds) v) : ∃ a xs, v = .ref a /\ rH K H a xs /\ aC K H Z ds xs :=
 let ⟨a, xs, e, l, i⟩ := bh.mp h
 ⟨a, xs, e, .inl (.inl l), i⟩
theorem aX {ks : List Key} {v : V} : In K H Z (.ktup ks) v ↔ ∃ a, v = .ref a /\ vG K a ks := by unfold In; exact Iff.rfl
theorem bB {s : Sh} {ds : List D} {v : V} : ¬ In K H Z (.agg s ds) v := fun h => by unfold In at h; exact h
theorem vG.sq {a : Addr} {ks : List Key} (h : vG K a ks) : rH K H a (ks.map kV) := by
 obtain ⟨o, its, n, h1, h2, h3, h4, h5⟩ := h;exact .inr ⟨o, its, n, h1, h2, h3, h4, h5⟩
theorem aZ {o : DO} {v : V} : In K H Z (.dct o) v ↔ ∃ a, v = .ref a /\ H a = some o.ho /\ Z.S a := by unfold In; exact Iff.rfl
theorem ay {vs : List V} : aC K H Z [] vs ↔ vs = [] := by unfold aC; exact Iff.rfl
theorem ag {d : D} {ds : List D} {vs : List V} : aC K H Z (d :: ds) vs ↔ ∃ v r, vs = v :: r /\ In K H Z d v /\ aC K H Z ds r := by
 constructor
 . intro h; unfold aC at h; exact h
 . intro h; unfold aC; exact h
theorem aC.length : ∀ {ds : List D} {vs : List V}, aC K H Z ds vs -> ds.length = vs.length
 | [], _, h => by rw [ay.mp h]; rfl
 | d :: ds, _, h => by
  obtain ⟨v, r, rfl, _, j⟩ := ag.mp h;rw [length_cons, length_cons, aC.length j]
theorem aC.get : ∀ {ds : List D} {vs : List V} {i : Nat} {d : D}, aC K H Z ds vs -> ds[i]? = some d -> ∃ v, vs[i]? = some v /\ In K H Z d v
 | [], _, _, _, _, e => by simp at e
 | d :: ds, _, 0, _, h, e => by
  obtain ⟨v, r, rfl, a, _⟩ := ag.mp h;simp at e; subst e;exact ⟨v, rfl, a⟩
 | d :: ds, _, i + 1, d', h, e => by
  obtain ⟨v, r, rfl, _, j⟩ := ag.mp h;obtain ⟨w, h1, h2⟩ := aC.get (i := i) (d := d') j (by simpa using e);exact ⟨w, by simpa using h1, h2⟩
theorem aC.append : ∀ {ds es : List D} {vs ws : List V}, aC K H Z ds vs -> aC K H Z es ws -> aC K H Z (ds ++ es) (vs ++ ws)
 | [], _, _, _, h, k => by rw [ay.mp h]; exact k
 | d :: ds, _, _, _, h, k => by
  obtain ⟨v, r, rfl, a, j⟩ := ag.mp h;exact ag.mpr ⟨v, r ++ _, rfl, a, aC.append j k⟩
theorem aC.one {d : D} {v : V} (h : In K H Z d v) : aC K H Z [d] [v] := ag.mpr ⟨v, [], rfl, h, ay.mpr rfl⟩
theorem aC.drop : ∀ {ds : List D} {vs : List V} (n : Nat), aC K H Z ds vs -> aC K H Z (ds.drop n) (vs.drop n)
 | _, _, 0, h => h
 | [], _, _ + 1, h => by rw [ay.mp h]; exact ay.mpr (by simp)
 | _ :: _, _, n + 1, h => by
  obtain ⟨v, r, rfl, _, j⟩ := ag.mp h;exact aC.drop n j
theorem aC.take : ∀ {ds : List D} {vs : List V} (n : Nat), aC K H Z ds vs -> aC K H Z (ds.take n) (vs.take n)
 | _, _, 0, h => by rw [List.take_zero, List.take_zero]; exact ay.mpr rfl
 | [], _, _ + 1, h => by rw [ay.mp h]; exact ay.mpr (by simp)
 | _ :: _, _, n + 1, h => by
  obtain ⟨v, r, rfl, a, j⟩ := ag.mp h;exact ag.mpr ⟨v, r.take n, rfl, a, aC.take n j⟩
theorem aC.of_get : ∀ {ds : List D} {vs : List V}, ds.length = vs.length -> (∀ (i : Nat) d v, ds[i]? = some d -> vs[i]? = some v -> In K H Z d v) -> aC K H Z ds vs
 | [], [], _, _ => ay.mpr rfl
 | d :: ds, v :: vs, e, h => ag.mpr ⟨v, vs, rfl, h 0 d v rfl rfl, aC.of_get (by simpa using e) fun i d' v' a b => h (i + 1) d' v' (by simpa using a) (by simpa using b)⟩
 | [], _ :: _, e, _ => by simp at e
 | _ :: _, [], e, _ => by simp at e
theorem rg : ∀ (ns : List Int), aC K H Z (ns.map D.int) (ns.map V.int)
 | [] => ay.mpr rfl
 | n :: ns => ag.mpr ⟨_, _, rfl, av.mpr rfl, rg ns⟩
theorem kW : ∀ (ns : GV), aC K H Z (ns.map D.str) (ns.map V.str)
 | [] => ay.mpr rfl
 | n :: ns => ag.mpr ⟨_, _, rfl, in_str.mpr rfl, kW ns⟩
theorem iI : ∀ {ns : GV} {vs : List V}, aC K H Z (ns.map D.str) vs -> vs = ns.map V.str
 | [], _, h => ay.mp h
 | n :: ns, _, h => by
  obtain ⟨v, r, rfl, a, j⟩ := ag.mp h;rw [in_str.mp a, iI j]; rfl
theorem DT (k : Key) : In K H Z (kD k) (kV k) := by
 cases k with
 | inl i => exact av.mpr rfl
 | inr x => exact in_str.mpr rfl
theorem oh : ∀ (ks : List Key), aC K H Z (ks.map kD) (ks.map kV)
 | [] => ay.mpr rfl
 | k :: ks => ag.mpr ⟨_, _, rfl, DT k, oh ks⟩
theorem df : ∀ (ns : List Int), aV (ns.map D.int) = true
 | [] => by simp [aV]
 | n :: ns => by simp [aV, D.flat, df ns]
theorem g6 : ∀ (ns : GV), aV (ns.map D.str) = true
 | [] => by simp [aV]
 | n :: ns => by simp [aV, D.flat, g6 ns]
theorem dZ : ∀ {ds : List D}, (∀ d ∈ ds, d.flat = true) -> aV ds = true
 | [], _ => by simp [aV]
 | d :: ds, h => by
  have h1 := h d mem_cons_self;have h2 : aV ds = true := dZ fun e he => h e (mem_cons_of_mem _ he);simp [aV, h1, h2]
theorem e8 : ∀ {ds : List D}, aV ds = true -> ∀ d ∈ ds, d.flat = true
 | [], _, d, hd => by simp at hd
 | e :: ds, h, d, hd => by
  simp [aV] at h;rcases mem_cons.mp hd with rfl | hd
  . exact h.1
  . exact e8 h.2 d hd
end
structure ax.Open (Z : ax) (H : Hp) : Prop where
 op : ∀ a, H a = none -> Z.S a
 tb : TabsOk H
instance {Z : ax} {H : Hp} : CoeFun (Z.Open H) (fun _ => ∀ a, H a = none -> Z.S a) := ⟨fun o => o.op⟩
def nw (H : Hp) : ax := ⟨true, fun a => H a = none⟩
theorem AN {H : Hp} {C : Prop} (h : (nw H).m = false) : C := Bool.noConfusion (show true = false from h)
def out (m : Bool) (Z : ax) (H : Hp) : ax := if m then nw H else Z
def BU : ax := ⟨false, fun _ => True⟩
section
variable {K : Frag} {H H1 H' : Hp} {Z : ax} {m : Bool}
theorem ax.Open.same (o : Z.Open H) (s : ao H H') : Z.Open H' := ⟨fun a h => o.op a (s.free h), s.tabs o.tb⟩
theorem vK (t : TabsOk H) : BU.Open H := ⟨fun _ _ => trivial, t⟩
theorem AI (t : TabsOk H) (s : ao H H') : (nw H).Open H' := ⟨fun a h => s.free h, s.tabs t⟩
theorem In.up {d : D} {v : V} (o : Z.Open H) (h : In K H' (nw H) d v) : In K H' Z d v := h.carry ⟨fun a xs e z => ⟨e, o a z⟩, fun m => AN m, fun _ _ e => e⟩
theorem aC.up {ds : List D} {vs : List V} (o : Z.Open H) (h : aC K H' (nw H) ds vs) : aC K H' Z ds vs := h.carry ⟨fun a xs e z => ⟨e, o a z⟩, fun m => AN m, fun _ _ e => e⟩
theorem In.plain {d : D} {v : V} (o : Z.Open H) (h : In K H' (out m Z H) d v) : In K H' Z d v := by
 cases m
 . exact h
 . exact h.up o
theorem In.later {d : D} {v : V} (s : ao H H1) (h : In K H' (out m Z H1) d v) : In K H' (out m Z H) d v := by
 cases m
 . exact h
 . exact h.carry ⟨fun a xs e z => ⟨e, s.free z⟩, fun m => AN m, fun _ _ e => e⟩
end
def D.zd : D -> Bool
 | .agg _ _ => false
 | _ => true
mutual
def e9 (K : Frag) (H : Hp) (Z : ax) : D -> V -> Prop
 | .agg s ds, v => ∃ a xs, v = .ref a /\ s.at H a xs /\ Z.S a /\ bj K H Z ds xs
 | .non, v => In K H Z .non v
 | .bl b, v => In K H Z (.bl b) v
 | .int i, v => In K H Z (.int i) v
 | .str x, v => In K H Z (.str x) v
 | .lst ds, v => In K H Z (.lst ds) v
 | .tup ds, v => In K H Z (.tup ds) v
 | .dct o, v => In K H Z (.dct o) v
 | .ktup ks, v => In K H Z (.ktup ks) v
def bj (K : Frag) (H : Hp) (Z : ax) : List D -> List V -> Prop
 | [], xs => xs = []
 | d :: ds, xs => ∃ v vs, xs = v :: vs /\ e9 K H Z d v /\ bj K H Z ds vs
end
section
variable {K : Frag} {H H' : Hp} {Z Z' : ax}
theorem e9.iR {d : D} {v : V} (h : e9 K H Z d v) (n : d.zd = true) : In K H Z d v := by
 cases d <;> first | (unfold e9 at h; exact h) | exact Bool.noConfusion (show false = true from n)
theorem In.top {d : D} {v : V} (h : In K H Z d v) : e9 K H Z d v := by
 cases d <;> first | exact absurd h bB | (unfold e9; exact h)
theorem bH {s : Sh} {ds : List D} {v : V} : e9 K H Z (.agg s ds) v ↔ ∃ a xs, v = .ref a /\ s.at H a xs /\ Z.S a /\ bj K H Z ds xs := by
 constructor
 . intro h; unfold e9 at h; exact h
 . intro h; unfold e9; exact h
theorem bt {vs : List V} : bj K H Z [] vs ↔ vs = [] := by unfold bj; exact Iff.rfl
theorem aO {d : D} {ds : List D} {vs : List V} : bj K H Z (d :: ds) vs ↔ ∃ v r, vs = v :: r /\ e9 K H Z d v /\ bj K H Z ds r := by
 constructor
 . intro h; unfold bj at h; exact h
 . intro h; unfold bj; exact h
mutual
theorem e9.carry (c : Carry K H Z H' Z') : ∀ {d : D} {v : V}, e9 K H Z d v -> e9 K H' Z' d v
 | .non, _, h => (In.carry c (h.iR rfl)).top
 | .bl _, _, h => (In.carry c (h.iR rfl)).top
 | .int _, _, h => (In.carry c (h.iR rfl)).top
 | .str _, _, h => (In.carry c (h.iR rfl)).top
 | .lst _, _, h => (In.carry c (h.iR rfl)).top
 | .tup _, _, h => (In.carry c (h.iR rfl)).top
 | .dct _, _, h => (In.carry c (h.iR rfl)).top
 | .ktup _, _, h => (In.carry c (h.iR rfl)).top
 | .agg s ds, v, h => by
  obtain ⟨a, xs, e, l, z, i⟩ := bH.mp h;obtain ⟨m, e1, e2⟩ := Sh.mo l;obtain ⟨e3, z'⟩ := c.l a m e1 z;exact bH.mpr ⟨a, xs, e, e2 H' e3, z', bj.carry c i⟩
theorem bj.carry (c : Carry K H Z H' Z') : ∀ {ds : List D} {vs : List V}, bj K H Z ds vs -> bj K H' Z' ds vs
 | [], _, h => bt.mpr (bt.mp h)
 | d :: ds, vs, h => by
  obtain ⟨v, r, e, i, j⟩ := aO.mp h;exact aO.mpr ⟨v, r, e, e9.carry c i, bj.carry c j⟩
end
theorem e9.same {d : D} {v : V} (s : ao H H') (h : e9 K H Z d v) : e9 K H' Z d v := h.carry (.same s)
end
def cy (K : Frag) (H : Hp) (Z : ax) (σ : St) (ρ : List (Option D)) : Prop := ∀ (i : Nat) d, ρ[i]? = some (some d) -> ∃ v, σ[i]? = some (some v) /\ e9 K H Z d v
theorem cy.same {K : Frag} {H H' : Hp} {Z : ax} {σ : St} {ρ : List (Option D)} (s : ao H H') (h : cy K H Z σ ρ) : cy K H' Z σ ρ := fun i d e =>
 let ⟨v, a, b⟩ := h i d e; ⟨v, a, b.same s⟩
def tE (K : Frag) (m : Bool) (ρ : List (Option D)) (d : D) : TE := fun σ H Q => ∃ Z : ax, Z.Open H /\ cy K H Z σ ρ /\ ∀ v H', ao H H' -> In K H' (out m Z H) d v -> Q v H'
def wz (K : Frag) (ρ : List (Option D)) (b : Bool) : TT := fun σ H Q => ∃ Z : ax, Z.Open H /\ cy K H Z σ ρ /\ ∀ H', ao H H' -> Q b H'
def Gm (K : Frag) (ρ : List (Option D)) (ds : List D) : TA := fun σ H Q => ∃ Z : ax, Z.Open H /\ cy K H Z σ ρ /\ ∀ vs H', ao H H' -> aC K H' Z ds vs -> Q vs H'
def E (X : Cx) (m : Bool) (ρ : List (Option D)) (e : Expr) (d : D) : Prop := PE X e (tE X.K m ρ d)
def T (X : Cx) (ρ : List (Option D)) (e : Expr) (b : Bool) : Prop := PT X e (wz X.K ρ b)
def TW (X : Cx) (ρ : List (Option D)) (e : Expr) (b : Bool) : Prop := PW X e (wz X.K ρ b)
def EA (X : Cx) (ρ : List (Option D)) (es : List Expr) (ds : List D) : Prop := PA X es (Gm X.K ρ ds)
theorem PE.mono {X : Cx} {e : Expr} {t t' : TE} (h : PE X e t) (k : ∀ σ H Q, t' σ H Q -> t σ H Q) : PE X e t' := fun pins s σ H Q I q => h pins s σ H Q I (k σ H Q q)
theorem PT.mono {X : Cx} {e : Expr} {t t' : TT} (h : PT X e t) (k : ∀ σ H Q, t' σ H Q -> t σ H Q) : PT X e t' := fun pins s σ H Q I q => h pins s σ H Q I (k σ H Q q)
theorem PW.mono {X : Cx} {e : Expr} {t t' : TT} (h : PW X e t) (k : ∀ σ H Q, t' σ H Q -> t σ H Q) : PW X e t' := fun wh pins s σ H Q I q => h wh pins s σ H Q I (k σ H Q q)
theorem PA.mono {X : Cx} {es : List Expr} {t t' : TA} (h : PA X es t) (k : ∀ σ H Q, t' σ H Q -> t σ H Q) : PA X es t' := fun pos pins s σ H Q I q => h pos pins s σ H Q I (k σ H Q q)
section
variable {X : Cx} {ρ : List (Option D)} {m m1 m2 m3 : Bool} {a b c e : Expr} {es : List Expr} {d d1 d2 d3 : D} {pos : Pos}
theorem E.mode (h : E X true ρ e d) : E X m ρ e d := by
 cases m
 . refine PE.mono h fun σ H Q z0 => aU z0 fun Z oz en k => ⟨Z, oz, en, fun v H' s i => k v H' s (i.up oz)⟩
 . exact h
theorem E.flat (h : E X m1 ρ e d) (f : d.flat = true) : E X m ρ e d :=
 PE.mono h fun σ H Q z0 => aU z0 fun Z oz en k => ⟨Z, oz, en, fun v H' s i => k v H' s (i.cT f)⟩
theorem E.cast {d' : D} (h : E X m ρ e d) (q : d = d') : E X m ρ e d' := q ▸ h
theorem ab (i : Nat) {x : Str} {d : D} (hr : ρ[i]? = some (some d) := by rfl) (hN : X.N[i]? = some x := by rfl)
 (hv : kb X.env.scope x := by first | exact Or.inl rfl | exact Or.inr (Or.inl rfl) | exact Or.inr (Or.inr rfl)) (hd : NdX x := by decide)
 (hcd : NcX x := by decide) (hn : d.zd = true := by rfl) : E X false ρ (.Name x pos) d :=
 PE.mono (bx hN hv hd hcd) fun σ H Q z0 => aU z0 fun Z oz en k => by
  obtain ⟨v, e, i⟩ := en i d hr;exact ⟨v, e, k v H (ao.refl H) (i.iR hn)⟩
theorem aw {i : Int} {j : Nat} : E X true ρ (.Constant (.int i) j pos) (.int i) := PE.mono BZ fun σ H Q z0 => aU z0 fun Z oz en k => k _ _ (ao.refl H) (av.mpr rfl)
theorem FJ {b : Bool} {j : Nat} : E X true ρ (.Constant (.bool b) j pos) (.bl b) := PE.mono Dy fun σ H Q z0 => aU z0 fun Z oz en k => k _ _ (ao.refl H) (bp.mpr rfl)
theorem cu {x : Str} {j : Nat} : E X true ρ (.Constant (.str x) j pos) (.str x) := PE.mono C4 fun σ H Q z0 => aU z0 fun Z oz en k => k _ _ (ao.refl H) (in_str.mpr rfl)
theorem CD {x y : Str} {t : Tok} (hm : X.mg x = some (.str y t)) (hg : Gl X x := by rfl) (hd : NdX x := by decide) : E X true ρ (.Name x pos) (.str y) :=
 PE.mono (z8 (v := .str y) hg hm ⟨t, rfl⟩ hd) fun σ H Q z0 => aU z0 fun Z oz en k => k _ _ (ao.refl H) (in_str.mpr rfl)
theorem dh : EA X ρ [] [] := PA.mono bc fun σ H Q z0 => aU z0 fun Z oz en k => k [] H (ao.refl H) (ay.mpr rfl)
theorem au {ds : List D} (ha : E X m1 ρ e d) (hr : EA X ρ es ds) (hs : starEach (e :: es) X.env = (false, eval e X.env) :: starEach es X.env := by rfl) : EA X ρ (e :: es) (d :: ds) :=
 PA.mono (aJ ha hr hs) fun σ H Q z0 => aU z0 fun Z oz en k => ⟨Z, oz, en, fun v H1 s1 i1 => ⟨Z, oz.same s1, en.same s1, fun vs H2 s2 i2 => k (v :: vs) H2 (s1.trans s2) (ag.mpr ⟨v, vs, rfl, (i1.plain oz).same s2, i2⟩)⟩⟩
theorem aI (ha : E X m1 ρ e d) (hs : starEach (e :: []) X.env = (false, eval e X.env) :: starEach [] X.env := by rfl) : EA X ρ [e] [d] := au ha dh hs
def EK (X : Cx) (ρ : List (Option D)) (es : List Expr) (ds : List D) : Prop := PA X es (fun σ H Q => ∃ Z : ax, Z.Open H /\ cy X.K H Z σ ρ /\ ∀ vs H', ao H H' -> aC X.K H' (nw H) ds vs -> Q vs H')
theorem An : EK X ρ [] [] := PA.mono bc fun σ H Q z0 => aU z0 fun Z oz en k => k [] H (ao.refl H) (ay.mpr rfl)
theorem aC.later {K : Frag} {H H1 H' : Hp} {ds : List D} {vs : List V} (s : ao H H1) (h : aC K H' (nw H1) ds vs) : aC K H' (nw H) ds vs :=
 h.carry ⟨fun a xs e z => ⟨e, s.free z⟩, fun m => AN m, fun _ _ e => e⟩
theorem x9 {ds : List D} (ha : E X true ρ e d) (hr : EK X ρ es ds) (hs : starEach (e :: es) X.env = (false, eval e X.env) :: starEach es X.env := by rfl) : EK X ρ (e :: es) (d :: ds) :=
 PA.mono (aJ ha hr hs) fun σ H Q z0 => aU z0 fun Z oz en k => ⟨Z, oz, en, fun v H1 s1 i1 => ⟨Z, oz.same s1, en.same s1, fun vs H2 s2 i2 => k (v :: vs) H2 (s1.trans s2) (ag.mpr ⟨v, vs, rfl, In.same s2 i1, i2.later s1⟩)⟩⟩
theorem aB {H : Hp} {p : Addr} {o : HO} (h : H p = none) : ao H (upd H p o) := ⟨fun b u e _ => by rw [aa (aq e h)]; exact e, fun b ps e => ⟨ps, by rw [aa (aq e h)]; exact e⟩, fun t => t.upd (.inl h)⟩
theorem lH {ds : List D} {x1} (h : EA X ρ es ds) (hz : ds.length <= 1000 := by exact of_decide_eq_true rfl) : E X false ρ (.Tuple es x1 pos) (.tup ds) :=
 PE.mono (wQ h) fun σ H Q z0 => aU z0 fun Z oz en k => ⟨Z, oz, en, fun vs H1 s1 i1 => ⟨by rw [<- i1.length]; exact Nat.le_trans hz (Nat.le_of_lt (aR (Nat.le_refl _))), fun p hp =>
  k (.ref p) _ (s1.trans (aB hp)) (bh.mpr ⟨p, vs, rfl, ae, i1.same (aB hp)⟩)⟩⟩
theorem wN {ds : List D} (h : EA X ρ es ds) (hz : ds.length <= 1000 := by exact of_decide_eq_true rfl) : E X false ρ (.List es pos) (.lst ds) :=
 PE.mono (su h) fun σ H Q z0 => aU z0 fun Z oz en k => ⟨Z, oz, en, fun vs H1 s1 i1 => ⟨by rw [<- i1.length]; exact Nat.le_trans hz (Nat.le_of_lt (aR (Nat.le_refl _))), fun p hp =>
  k (.ref p) _ (s1.trans (aB hp)) (ah.mpr ⟨p, vs, rfl, .inl ⟨ae, oz p (s1.free hp)⟩, i1.same (aB hp)⟩)⟩⟩
theorem B6 {ds : List D} (h : EK X ρ es ds) (hz : ds.length <= 1000 := by exact of_decide_eq_true rfl) : E X true ρ (.List es pos) (.lst ds) :=
 PE.mono (su h) fun σ H Q z0 => aU z0 fun Z oz en k => ⟨Z, oz, en, fun vs H1 s1 i1 => ⟨by rw [<- i1.length]; exact Nat.le_trans hz (Nat.le_of_lt (aR (Nat.le_refl _))), fun p hp =>
  k (.ref p) _ (s1.trans (aB hp)) (ah.mpr ⟨p, vs, rfl, .inl ⟨ae, s1.free hp⟩, i1.same (aB hp)⟩)⟩⟩
theorem cJ {ds : List D} (h : EA X ρ es ds) (f : aV ds = true := by rfl) (hz : ds.length <= 1000 := by exact of_decide_eq_true rfl) : E X true ρ (.List es pos) (.lst ds) := by
 refine E.mode (PE.mono (su h) fun σ H Q z0 => aU z0 fun Z oz en k => ⟨Z, oz, en, fun vs H1 s1 i1 => ⟨by rw [<- i1.length]; exact Nat.le_trans hz (Nat.le_of_lt (aR (Nat.le_refl _))), fun p hp =>
  k (.ref p) _ (s1.trans (aB hp)) (ah.mpr ⟨p, vs, rfl, .inl ⟨ae, s1.free hp⟩, (i1.same (aB hp)).cT f⟩)⟩⟩)
theorem two {ta tb : TE} {σ : St} {H : Hp} {Z : ax} {R : V -> V -> Hp -> Prop} (oz : Z.Open H) (en : cy X.K H Z σ ρ)
 (h : ∀ x y H', ao H H' -> In X.K H' Z d1 x -> In X.K H' Z d2 y -> R x y H') : tE X.K m1 ρ d1 σ H fun x H1 => tE X.K m2 ρ d2 σ H1 fun y H2 => R x y H2 :=
 ⟨Z, oz, en, fun x H1 s1 i1 => ⟨Z, oz.same s1, en.same s1, fun y H2 s2 i2 => h x y H2 (s1.trans s2) ((i1.plain oz).same s2) (i2.plain (oz.same s1))⟩⟩
theorem vf {op : Operator} {r : R2} (ho : kQ X (binaryOp op) r) (ha : E X m1 ρ a d1) (hb : E X m2 ρ b d2)
 (h : ∀ x y H Z Q, Z.Open H -> In X.K H Z d1 x -> In X.K H Z d2 y -> (∀ v H', ao H H' -> In X.K H' (out m Z H) d v -> Q v H') -> r x y H Q) : E X m ρ (.BinOp a op b pos) d :=
 PE.mono (Bp ho ha hb) fun σ H Q z0 => aU z0 fun Z oz en k => two (ta := tE X.K m1 ρ d1) (tb := tE X.K m2 ρ d2) oz en fun x y H2 s i1 i2 => h x y H2 Z _ (oz.same s) i1 i2 fun v H' s' i => k v H' (s.trans s') (i.later s)
theorem Es {op : CmpOp} {r : R2} (ho : kQ X (compareOp op) r) (ha : E X m1 ρ a d1) (hb : E X m2 ρ b d2)
 (h : ∀ x y H Z Q, Z.Open H -> In X.K H Z d1 x -> In X.K H Z d2 y -> (∀ v H', ao H H' -> In X.K H' (out m Z H) d v -> Q v H') -> r x y H Q) (hm : behindInMarks op b = false) : E X m ρ (.Compare a [op] [b] pos) d :=
 PE.mono (zf ho ha hb hm) fun σ H Q z0 => aU z0 fun Z oz en k => two (ta := tE X.K m1 ρ d1) (tb := tE X.K m2 ρ d2) oz en fun x y H2 s i1 i2 => h x y H2 Z _ (oz.same s) i1 i2 fun v H' s' i => k v H' (s.trans s') (i.later s)
theorem nO {op : CmpOp} {r : R2} {p : Bool} (ho : kQ X (compareOp op) r) (ha : E X m1 ρ a d1) (hb : E X m2 ρ b d2)
 (h : ∀ x y H Z Q, Z.Open H -> In X.K H Z d1 x -> In X.K H Z d2 y -> (∀ H', ao H H' -> Q (.bl p) H') -> r x y H Q) (hm : behindInMarks op b = false) : T X ρ (.Compare a [op] [b] pos) p :=
 PT.mono (AX ho ha hb hm) fun σ H Q z0 => aU z0 fun Z oz en k => two (ta := tE X.K m1 ρ d1) (tb := tE X.K m2 ρ d2) oz en fun x y H2 s i1 i2 => h x y H2 Z _ (oz.same s) i1 i2 fun H' s' => ⟨p, rfl, k H' (s.trans s')⟩
theorem iH {i j : Int} (ha : E X m1 ρ a (.int i)) (hb : E X m2 ρ b (.int j)) : E X true ρ (.BinOp a .Add b pos) (.int (i + j)) :=
 vf Cb ha hb fun x y H Z Q _ i1 i2 k => ⟨_, _, av.mp i1, av.mp i2, k _ _ (ao.refl H) (av.mpr rfl)⟩
theorem Eo {i j : Int} (ha : E X m1 ρ a (.int i)) (hb : E X m2 ρ b (.int j)) : E X true ρ (.BinOp a .Sub b pos) (.int (i - j)) :=
 vf BX ha hb fun x y H Z Q _ i1 i2 k => ⟨_, _, av.mp i1, av.mp i2, k _ _ (ao.refl H) (av.mpr rfl)⟩
theorem qd {i j : Int} (ha : E X m1 ρ a (.int i)) (hb : E X m2 ρ b (.int j)) (hc : AV i j) : E X true ρ (.BinOp a .Mult b pos) (.int (i * j)) :=
 vf Cj ha hb fun x y H Z Q _ i1 i2 k => ⟨_, _, av.mp i1, av.mp i2, hc, k _ _ (ao.refl H) (av.mpr rfl)⟩
theorem dG {i j : Int} (ha : E X m1 ρ a (.int i)) (hb : E X m2 ρ b (.int j)) (hc : 0 < j) : E X true ρ (.BinOp a .Mod b pos) (.int (i % j)) :=
 vf BG ha hb fun x y H Z Q _ i1 i2 k => ⟨_, _, av.mp i1, av.mp i2, hc, k _ _ (ao.refl H) (av.mpr rfl)⟩
theorem n4 {i j : Int} (ha : E X m1 ρ a (.int i)) (hb : E X m2 ρ b (.int j)) (hc : DL i j) : E X true ρ (.BinOp a .FloorDiv b pos) (.int (i / j)) :=
 vf Am ha hb fun x y H Z Q _ i1 i2 k => ⟨_, _, av.mp i1, av.mp i2, hc, k _ _ (ao.refl H) (av.mpr rfl)⟩
theorem DW {i : Int} (ha : E X m1 ρ a (.int i)) : E X true ρ (.UnaryOp .USub a pos) (.int (-i)) :=
 PE.mono (EB CW ha) fun σ H Q z0 => aU z0 fun Z oz en k => ⟨Z, oz, en, fun x H1 s1 i1 => ⟨i, av.mp (i1.plain oz), k _ _ s1 (av.mpr rfl)⟩⟩
theorem x5 {x y : Str} (ha : E X m1 ρ a (.str x)) (hb : E X m2 ρ b (.str y)) (hz : x.length + y.length <= sizeLine) : E X true ρ (.BinOp a .Add b pos) (.str (x ++ y)) :=
 vf sC ha hb fun x y H Z Q _ i1 i2 k => ⟨_, _, in_str.mp i1, in_str.mp i2, hz, k _ _ (ao.refl H) (in_str.mpr rfl)⟩
theorem Ba {i j : Int} (ha : E X m1 ρ a (.int i)) (hb : E X m2 ρ b (.int j)) : T X ρ (.Compare a [.Lt] [b] pos) (decide (i < j)) :=
 nO El ha hb (fun x y H Z Q _ i1 i2 k => ⟨_, _, av.mp i1, av.mp i2, k _ (ao.refl H)⟩) (jk _)
theorem wX {i j : Int} (ha : E X m1 ρ a (.int i)) (hb : E X m2 ρ b (.int j)) : T X ρ (.Compare a [.Gt] [b] pos) (decide (j < i)) :=
 nO Ej ha hb (fun x y H Z Q _ i1 i2 k => ⟨_, _, av.mp i1, av.mp i2, k _ (ao.refl H)⟩) (jk _)
theorem nV {i j : Int} (ha : E X m1 ρ a (.int i)) (hb : E X m2 ρ b (.int j)) : T X ρ (.Compare a [.Eq] [b] pos) (decide (i = j)) :=
 nO Bo ha hb (fun x y H Z Q _ i1 i2 k => by rw [av.mp i1, av.mp i2]; exact ⟨rfl, by simpa using k _ (ao.refl H)⟩) (jk _)
theorem Bh {i j : Str} (ha : E X m1 ρ a (.str i)) (hb : E X m2 ρ b (.str j)) : T X ρ (.Compare a [.Eq] [b] pos) (decide (i = j)) :=
 nO Bo ha hb (fun x y H Z Q _ i1 i2 k => by rw [in_str.mp i1, in_str.mp i2]; exact ⟨rfl, by simpa using k _ (ao.refl H)⟩) (jk _)
theorem Ew {i j : Str} (ha : E X m1 ρ a (.str i)) (hb : E X m2 ρ b (.str j)) (hm : behindInMarks .In b = false := by rfl) : T X ρ (.Compare a [.In] [b] pos) (!(Builtin.Str.occurrences j i 0 j.length 1).isEmpty) :=
 nO vp ha hb (fun x y H Z Q _ i1 i2 k => ⟨_, _, in_str.mp i1, in_str.mp i2, k _ (ao.refl H)⟩) hm
theorem uK {p : Bool} (ha : T X ρ a p) : TW X ρ (.BoolOp .And [a] pos) p := zB ha
theorem pV {p : Bool} (ha : T X ρ a p) : TW X ρ (.BoolOp .Or [a] pos) p := yC ha
theorem xV {p q : Bool} {r : List Expr} (ha : T X ρ a p) (hb : p = true -> TW X ρ (.BoolOp .And (b :: r) pos) q) : TW X ρ (.BoolOp .And (a :: b :: r) pos) (p && q) := by
 cases p with
 | true =>
  exact PW.mono (xQ ha (hb rfl)) fun σ H Q z0 => aU z0 fun Z oz en k => ⟨Z, oz, en, fun H1 s1 => by
   refine qT ?_; exact ⟨Z, oz.same s1, en.same s1, fun H2 s2 => k H2 (s1.trans s2)⟩⟩
 | false =>
  exact PW.mono (xQ (wz := fun _ _ _ => False) ha (fun wh pins s σ H Q I h => h.elim)) fun σ H Q z0 => aU z0 fun Z oz en k => ⟨Z, oz, en, fun H1 s1 => by
   refine mG ?_; exact k H1 s1⟩
theorem qy {p q : Bool} {r : List Expr} (ha : T X ρ a p) (hb : p = false -> TW X ρ (.BoolOp .Or (b :: r) pos) q) : TW X ρ (.BoolOp .Or (a :: b :: r) pos) (p || q) := by
 cases p with
 | false =>
  exact PW.mono (yL ha (hb rfl)) fun σ H Q z0 => aU z0 fun Z oz en k => ⟨Z, oz, en, fun H1 s1 => by
   refine mG ?_; exact ⟨Z, oz.same s1, en.same s1, fun H2 s2 => k H2 (s1.trans s2)⟩⟩
 | true =>
  exact PW.mono (yL (wz := fun _ _ _ => False) ha (fun wh pins s σ H Q I h => h.elim)) fun σ H Q z0 => aU z0 fun Z oz en k => ⟨Z, oz, en, fun H1 s1 => by
   refine qT ?_; exact k H1 s1⟩
theorem TW.t {p : Bool} (h : TW X ρ a p) : T X ρ a p := PW.pt h
theorem rn {p : Bool} (ha : T X ρ a p) : T X ρ (.UnaryOp .Not a pos) (!p) := PT.mono (rR ha) fun σ H Q z0 => aU z0 fun Z oz en k => ⟨Z, oz, en, fun H1 s1 => k H1 s1⟩
theorem kP {p : Bool} (h : E X m1 ρ e (.bl p)) (he : ∀ whole, isTrue e X.env whole = (do let v <- whole; standAt e.pos; holding [v] (truthy v)) := by intro _; rfl) : T X ρ e p :=
 PT.mono (yi h he) fun σ H Q z0 => aU z0 fun Z oz en k => ⟨Z, oz, en, fun v H1 s1 i1 => ⟨p, bp.mp (i1.plain oz), k H1 s1⟩⟩
theorem AA {p : Bool} (hc : T X ρ c p) (ha : p = true -> E X m ρ a d) (hb : p = false -> E X m ρ b d) : E X m ρ (.IfExp c a b pos) d := by
 cases p with
 | true =>
  exact PE.mono (rj (tb := fun _ _ _ => False) hc (ha rfl) (fun pins s σ H Q I h => h.elim)) fun σ H Q z0 => aU z0 fun Z oz en k => ⟨Z, oz, en, fun H1 s1 => by
   refine qT ?_; exact ⟨Z, oz.same s1, en.same s1, fun v H2 s2 i2 => k v H2 (s1.trans s2) (i2.later s1)⟩⟩
 | false =>
  exact PE.mono (rj (ta := fun _ _ _ => False) hc (fun pins s σ H Q I h => h.elim) (hb rfl)) fun σ H Q z0 => aU z0 fun Z oz en k => ⟨Z, oz, en, fun H1 s1 => by
   refine mG ?_; exact ⟨Z, oz.same s1, en.same s1, fun v H2 s2 i2 => k v H2 (s1.trans s2) (i2.later s1)⟩⟩
theorem aC.jB {K : Frag} {H : Hp} {Z : ax} {ds : List D} {vs : List V} {i : Int} {d : D} (h : aC K H Z ds vs) (e : jB ds i = some d) : ∃ v, jB vs i = some v /\ In K H Z d v := by
 unfold L2.jB at e ⊢;rw [<- h.length]
 cases q : Ag ds.length i with
 | none => rw [q] at e; cases e
 | some j =>
  rw [q] at e;exact h.get e
theorem dH {ds : List D} {i : Int} (ha : E X m1 ρ a (.lst ds)) (hb : E X m2 ρ b (.int i)) (h : jB ds i = some d) (hs : hU b := by intro _ _; rfl) : E X m1 ρ (.Subscript a b pos) d :=
 PE.mono (uE ux ha hb hs) fun σ H Q z0 => aU z0 fun Z oz en k => ⟨Z, oz, en, fun x H1 s1 i1 => ⟨Z, oz.same s1, en.same s1, fun y H2 s2 i2 => by
  obtain ⟨p, xs, rfl, l, j⟩ := ah.mp (In.same s2 i1);obtain ⟨v, e, iv⟩ := j.jB h;exact ⟨p, xs, i, v, rfl, av.mp (i2.plain (oz.same s1)), l.sq, e, k v H2 (s1.trans s2) iv⟩⟩⟩
theorem gF {ds : List D} {i : Int} (ha : E X m1 ρ a (.tup ds)) (hb : E X m2 ρ b (.int i)) (h : jB ds i = some d) (hs : hU b := by intro _ _; rfl) : E X m1 ρ (.Subscript a b pos) d :=
 PE.mono (uE Cs ha hb hs) fun σ H Q z0 => aU z0 fun Z oz en k => ⟨Z, oz, en, fun x H1 s1 i1 => ⟨Z, oz.same s1, en.same s1, fun y H2 s2 i2 => by
  obtain ⟨p, xs, rfl, l, j⟩ := aK (In.same s2 i1);obtain ⟨v, e, iv⟩ := j.jB h;exact ⟨p, xs, i, v, rfl, av.mp (i2.plain (oz.same s1)), l, e, k v H2 (s1.trans s2) iv⟩⟩⟩
theorem Ea {z : Str} {i : Int} {cp : Nat} (ha : E X m1 ρ a (.str z)) (hb : E X m2 ρ b (.int i)) (hz : z.length <= sizeLine) (h : jB z.cps.toList i = some cp) (hs : hU b := by intro _ _; rfl) : E X true ρ (.Subscript a b pos) (.str ⟨#[cp]⟩) :=
 PE.mono (uE C7 ha hb hs) fun σ H Q z0 => aU z0 fun Z oz en k => two (ta := tE X.K m1 ρ (.str z)) (tb := tE X.K m2 ρ (.int i)) oz en fun x y H2 s i1 i2 =>
  ⟨z, i, cp, in_str.mp i1, av.mp i2, hz, h, k _ H2 s (in_str.mpr rfl)⟩
def EO (X : Cx) (ρ : List (Option D)) (e : Option Expr) (o : Option Int) : Prop := PO X e (fun σ H Q => ∃ Z : ax, Z.Open H /\ cy X.K H Z σ ρ /\ ∀ H', ao H H' -> Q o H')
theorem PO.mono {e : Option Expr} {t t' : TO} (h : PO X e t) (k : ∀ σ H Q, t' σ H Q -> t σ H Q) : PO X e t' := fun pins s σ H Q I q => h pins s σ H Q I (k σ H Q q)
theorem kg : EO X ρ none none := PO.mono AJ fun σ H Q z0 => aU z0 fun Z oz en k => k H (ao.refl H)
theorem gm {i : Int} (h : E X m1 ρ e (.int i)) : EO X ρ (some e) (some i) := PO.mono (zu h) fun σ H Q z0 => aU z0 fun Z oz en k => ⟨Z, oz, en, fun v H1 s1 i1 => ⟨i, av.mp (i1.plain oz), k H1 s1⟩⟩
def cut {α : Type} (xs : List α) (lo hi : Option Int) : List α := (xs.drop (HT.cU xs.length 0 lo)).take (HT.cU xs.length xs.length hi - HT.cU xs.length 0 lo)
theorem aC.cut {K : Frag} {H : Hp} {Z : ax} {ds : List D} {vs : List V} (h : aC K H Z ds vs) (lo hi : Option Int) : aC K H Z (cut ds lo hi) (oR vs lo hi) := by
 unfold Y.cut oR;rw [h.length];exact (h.drop _).take _
variable {lo hi : Option Expr} {l u : Option Int} {p2 : Pos}
theorem wV {ds : List D} (ha : E X m1 ρ a (.lst ds)) (hl : EO X ρ lo l) (hu : EO X ρ hi u) (hm : m = true -> m1 = true \/ aV (cut ds l u) = true := by intro h; first | exact .inl h | cases h) : E X m ρ (.Subscript a (.Slice lo hi none p2) pos) (.lst (cut ds l u)) :=
 PE.mono (lK Av ha hl hu) fun σ H Q z0 => aU z0 fun Z oz en k => ⟨Z, oz, en, fun x H1 s1 i1 => ⟨Z, oz.same s1, en.same s1, fun H2 s2 => ⟨Z, oz.same (s1.trans s2), en.same (s1.trans s2), fun H3 s3 => by
  have s := (s1.trans s2).trans s3;have i3 : In X.K H3 (out m1 Z H) (.lst ds) x := In.same (s2.trans s3) i1;obtain ⟨p, xs, rfl, lq, j⟩ := ah.mp i3;refine ⟨p, xs, rfl, lq.sq, fun q hq => k (.ref q) _ (s.trans (aB hq)) (ah.mpr ⟨q, _, rfl, .inl ⟨ae, ?_⟩, ?_⟩)⟩
  . cases m
    . exact oz q (s.free hq)
    . exact s.free hq
  . have jc := (j.cut l u).same (aB (o := .lst (oR xs l u)) hq);cases m
    . cases m1
      . exact jc
      . exact jc.up oz
    . rcases hm rfl with h | h
      . subst h; exact jc
      . exact jc.cT h⟩⟩⟩
end
end Y
namespace Y
open PySem PySem.Spec PyProof.Rows L2
variable [bT]
def ic (cells : List (Str × Addr)) : List (Str × NameKind) -> List (Str × Addr) -> List (Str × Addr)
 | [], acc => acc
 | (n, k) :: r, acc => if k == .free then ic cells r ((n, (cells.lookup n).getD 0) :: acc) else ic cells r acc
theorem ml {cells : List (Str × Addr)} : ∀ {names : List (Str × NameKind)} {acc : List (Str × Addr)}, (∀ y ∈ names, y.2 = .free -> ∃ c, cells.lookup y.1 = some c) -> (∀ x c, acc.lookup x = some c -> cells.lookup x = some c) ->
 ∀ x c, (ic cells names acc).lookup x = some c -> cells.lookup x = some c
 | [], _, _, h2, x, c, e => h2 x c e
 | (n, k) :: r, acc, h1, h2, x, c, e => by
  unfold ic at e;by_cases hk : (k == NameKind.free) = true
  . rw [if_pos hk] at e;refine ml (fun y hy => h1 y (mem_cons_of_mem _ hy)) (fun y c' e' => ?_) x c e;obtain ⟨c0, e0⟩ := h1 (n, k) mem_cons_self (by simpa using hk);rw [lookup_cons] at e'
    cases hy : y == n with
    | true =>
     rw [hy] at e';simp at e';have : y = n := by simpa using hy
     subst this;rw [e0] at e' ⊢;simpa using e'
    | false =>
     rw [hy] at e';exact h2 y c' e'
  . rw [if_neg hk] at e;exact ml (fun y hy => h1 y (mem_cons_of_mem _ hy)) h2 x c e
theorem lp {cells : List (Str × Addr)} : ∀ {names : List (Str × NameKind)} {acc : List (Str × Addr)} {x : Str}, (∃ c, acc.lookup x = some c) -> ∃ c, (ic cells names acc).lookup x = some c
 | [], _, _, h => h
 | (n, k) :: r, acc, x, h => by
  unfold ic;by_cases hk : (k == NameKind.free) = true
  . rw [if_pos hk];refine lp ?_;rw [lookup_cons]
    cases hy : x == n with
    | true => exact ⟨_, rfl⟩
    | false => exact h
  . rw [if_neg hk]; exact lp h
theorem ip {cells : List (Str × Addr)} : ∀ {names : List (Str × NameKind)} {acc : List (Str × Addr)} {x : Str}, (x, NameKind.free) ∈ names -> ∃ c, (ic cells names acc).lookup x = some c
 | [], _, _, h => by cases h
 | (n, k) :: r, acc, x, h => by
  unfold ic;rcases mem_cons.mp h with e | h
  . cases e;rw [if_pos (by decide)];exact lp ⟨(cells.lookup n).getD 0, by rw [lookup_cons]; simp⟩
  . by_cases hk : (k == NameKind.free) = true
    . rw [if_pos hk]; exact ip h
    . rw [if_neg hk]; exact ip h
theorem lF {scope : Scope} {env : Env} (h : ∀ y ∈ scope.names, y.2 = .free -> ∃ c, env.cells.lookup y.1 = some c) : closureFor scope env = pure (ic env.cells scope.names []) := by
 have key : ∀ (names : List (Str × NameKind)) (acc : List (Str × Addr)), (∀ y ∈ names, y.2 = .free -> ∃ c, env.cells.lookup y.1 = some c) ->
  (forIn names acc fun (x : Str × NameKind) (cs : List (Str × Addr)) => (match x with
   | (name, kind) => if (kind == NameKind.free) = true then do let a <- cellOf env name; pure (ForInStep.yield ((name, a) :: cs)) else pure (ForInStep.yield cs)) : Sem (List (Str × Addr))) = pure (ic env.cells names acc) := by
  intro names
  induction names with
  | nil => intro acc _; rfl
  | cons y r ih =>
   intro acc hy;obtain ⟨n, k⟩ := y;rw [List.forIn_cons];unfold ic;by_cases hk : (k == NameKind.free) = true
   . obtain ⟨c, e⟩ := hy (n, k) mem_cons_self (by simpa using hk);have e1 : cellOf env n = pure c := by unfold cellOf; rw [e]
     simp only [hk, if_true, e1, pure_bind];rw [ih _ fun z hz => hy z (mem_cons_of_mem _ hz), e];rfl
   . simp only [hk, if_false, pure_bind];exact ih _ fun z hz => hy z (mem_cons_of_mem _ hz)
 unfold closureFor;have k := key scope.names [] h
 first
  | (simp only [bind_pure]; exact k)
  | (rw [k]; rfl)
  | exact k
theorem fM {env : Env} {P : NameKind -> Prop} (hP : P .free -> P .cell) : ∀ {names : List (Str × NameKind)} {x : Str} {k : NameKind}, names.lookup x = some k -> P k ->
 ∃ k', (names.map fun (n, k) => if (k == NameKind.free && env.scope.kind == .function && env.kindOf n == some .cell) then (n, NameKind.cell) else (n, k)).lookup x = some k' /\ P k'
 | [], _, _, h, _ => by simp at h
 | (n, k0) :: r, x, k, h, p => by
  have ih := @fM env P hP r x k;show ∃ k', List.lookup x ((if (k0 == NameKind.free && env.scope.kind == .function && env.kindOf n == some .cell) = true then (n, NameKind.cell) else (n, k0)) :: _) = some k' /\ P k'
  cases hx : x == n with
  | true =>
   simp only [lookup_cons, hx] at h;have hk : k0 = k := Option.some.inj h;subst hk;by_cases hc : (k0 == NameKind.free && env.scope.kind == .function && env.kindOf n == some .cell) = true
   . rw [if_pos hc]; simp only [lookup_cons, hx];refine ⟨_, rfl, ?_⟩;have : k0 = .free := by simp at hc; exact hc.1.1
     subst this;exact hP p
   . rw [if_neg hc]; simp only [lookup_cons, hx]; exact ⟨_, rfl, p⟩
  | false =>
   simp only [lookup_cons, hx] at h;by_cases hc : (k0 == NameKind.free && env.scope.kind == .function && env.kindOf n == some .cell) = true
   . rw [if_pos hc]; simp only [lookup_cons, hx]; exact ih h p
   . rw [if_neg hc]; simp only [lookup_cons, hx]; exact ih h p
theorem gf {env : Env} : ∀ {names : List (Str × NameKind)} {x : Str} {k' : NameKind}, (names.map fun (n, k) => if (k == NameKind.free && env.scope.kind == .function && env.kindOf n == some .cell) then (n, NameKind.cell) else (n, k)).lookup x = some k' ->
 ∃ k, (x, k) ∈ names /\ (k' = k \/ k = .free)
 | [], _, _, h => by simp at h
 | (n, k0) :: r, x, k', h => by
  have ih := @gf env r x k';have h' : List.lookup x ((if (k0 == NameKind.free && env.scope.kind == .function && env.kindOf n == some .cell) = true then (n, NameKind.cell) else (n, k0)) :: (r.map fun (n, k) => if (k == NameKind.free && env.scope.kind == .function && env.kindOf n == some .cell) then (n, NameKind.cell) else (n, k))) = some k' := h
  cases hx : x == n with
  | true =>
   have hxn : x = n := by simpa using hx
   subst hxn;by_cases hc : (k0 == NameKind.free && env.scope.kind == .function && env.kindOf x == some .cell) = true
   . have : k0 = .free := by simp at hc; exact hc.1.1
     exact ⟨k0, mem_cons_self, .inr this⟩
   . rw [if_neg hc] at h'; simp only [lookup_cons, hx] at h';cases h';exact ⟨k0, mem_cons_self, .inl rfl⟩
  | false =>
   have h2 : List.lookup x (r.map fun (n, k) => if (k == NameKind.free && env.scope.kind == .function && env.kindOf n == some .cell) then (n, NameKind.cell) else (n, k)) = some k' := by
    by_cases hc : (k0 == NameKind.free && env.scope.kind == .function && env.kindOf n == some .cell) = true
    . rw [if_pos hc] at h'; simp only [lookup_cons, hx] at h'; exact h'
    . rw [if_neg hc] at h'; simp only [lookup_cons, hx] at h'; exact h'
   obtain ⟨k, a, b⟩ := ih h2;exact ⟨k, mem_cons_of_mem _ a, b⟩
def nL (X : Cx) : List Str -> List Nat -> Prop
 | [], [] => True
 | y :: ys, j :: js => (X.N[j]? = some y /\ (X.env.scope.names.lookup y = some .cell \/ X.env.scope.names.lookup y = some .free)) /\ nL X ys js
 | _, _ => False
theorem nL.at {X : Cx} : ∀ {caps : GV} {js : GX}, nL X caps js -> ∀ (k : Nat) y j, caps[k]? = some y -> js[k]? = some j -> X.N[j]? = some y /\ (X.env.scope.names.lookup y = some .cell \/ X.env.scope.names.lookup y = some .free)
 | [], _, _, _, _, _, e, _ => by simp at e
 | _ :: _, [], h, _, _, _, _, _ => by exact False.elim h
 | y :: ys, j :: js, h, 0, _, _, e1, e2 => by simp at e1 e2; subst e1 e2; exact h.1
 | y :: ys, j :: js, h, k + 1, y', j', e1, e2 => h.2.at k y' j' (by simpa using e1) (by simpa using e2)
theorem nL.len {X : Cx} : ∀ {caps : GV} {js : GX}, nL X caps js -> js.length = caps.length
 | [], [], _ => rfl
 | [], _ :: _, h => False.elim h
 | _ :: _, [], h => False.elim h
 | _ :: _, _ :: _, h => by simp [h.2.len]
structure bZ (X : Cx) (scope : Scope) (own caps : GV) (js : GX) : Prop where
 kind : scope.kind = .function
 nocell : ∀ y ∈ scope.names, y.2 ≠ .cell
 names : ∀ y ∈ scope.names, y.2 = .local -> scope.names.lookup y.1 = some .local
 nd : (own ++ caps).Nodup
 own : ∀ y ∈ own, scope.names.lookup y = some .local
 capf : ∀ y ∈ caps, (y, NameKind.free) ∈ scope.names /\ scope.names.lookup y = some .free
 capO : nL X caps js
 free : ∀ y ∈ scope.names, y.2 = .free -> y.1 ∈ caps
def fb (X : Cx) (N' : GV) (scope : Scope) (C : Addr) (s : Shared) (H : Hp) (fp : List Addr) : Cx :=
 { X with N := N', s₀ := s, H₀ := H, env := compEnvC scope (ic X.env.cells scope.names []) C X.env, outer := X.stack, ex := fp, fn := fun _ => false, pn := [], xe := fun _ _ => False }
def bK (js : GX) (σ : St) : St := js.map fun j => (σ[j]?).join
section
variable {X : Cx} {pins : GR} {σ : St} {H H' : Hp} {s : Shared} {scope : Scope} {own caps : GV} {js : GX} {fp : List Addr}
theorem bZ.cells (B : bZ X scope own caps js) (ok : X.Ok) : ∀ y ∈ scope.names, y.2 = .free -> ∃ c, X.env.cells.lookup y.1 = some c := fun y hy hf => by
 obtain ⟨k, hk⟩ := List.getElem?_of_mem (B.free y hy hf);have hj : k < js.length := by rw [B.capO.len]; exact (List.getElem?_eq_some_iff.mp hk).1
 obtain ⟨_, h⟩ := B.capO.at k y.1 js[k] hk (by simp [hj]);exact ok.has y.1 h
theorem A2 (B : bZ X scope own caps js) (I : Inv X pins σ H s) (hf : ∀ b ∈ fp, gW X pins H b) (ho : ∀ b ∈ fp, b < s.heap.objs.size) {h4 : Heap} {tk : Nat}
 (hn : h4.Ns (s.heap.objs.size + 1) (fun _ => none)) (hk : ∀ b o, s.heap.get? b = some o -> h4.get? b = some o)
 (hl : h4.get? s.heap.objs.size = some { cls := .type "list", data := .seq ([] : GO).toArray 0 }) :
 Inv (fb X (own ++ caps) scope (s.heap.objs.size + 1) s H fp) [] (own.map (fun _ => none) ++ bK js σ) (upd H s.heap.objs.size (.lst [])) { s with heap := h4, toks := tk } := by
 have fresh : H s.heap.objs.size = none := I.hok.fresh (Nat.le_refl _);have freshC : H (s.heap.objs.size + 1) = none := I.hok.fresh (Nat.le_succ _);have hcl := B.cells I.ok;have sub := ml (acc := []) hcl (fun x c e => by simp at e);have ok' : (fb X (own ++ caps) scope (s.heap.objs.size + 1) s H fp).Ok := by
  refine ⟨I.ok.mod, B.kind, I.ok.glob, I.ok.blt, Nat.le_succ _, fun x y c h1 h2 => I.ok.inj x y c (sub x c h1) (sub y c h2), fun x hx => ?_, fun x c hx => (nomatch hx), I.ok.hd, I.ok.frames, .inl rfl, fun b hb => ⟨?_, fun x c e => ?_⟩, I.bs, Nat.le_trans I.ok.bsz I.sz, fun b o e hb => ?_, fun b hb hs => ?_, I.stack, I.uT⟩
  . have hx' : ∃ k', (scope.names.map fun (n, k) => if (k == NameKind.free && X.env.scope.kind == .function && X.env.kindOf n == some .cell) then (n, NameKind.cell) else (n, k)).lookup x = some k' /\ (k' = .cell \/ k' = .free) := by
     rcases hx with e | e
     . exact ⟨_, e, .inl rfl⟩
     . exact ⟨_, e, .inr rfl⟩
    obtain ⟨k', e, hk'⟩ := hx';obtain ⟨k, hm, q⟩ := gf e;have hfree : k = .free := by
     rcases q with q | q
     . subst q;rcases hk' with z | z
       . exact absurd z (B.nocell _ hm)
       . exact z
     . exact q
    subst hfree;exact ip hm
  . exact Nat.ne_of_lt (Nat.lt_succ_of_lt (ho b hb))
  . exact (hf b hb).2.2.2.2.1 x c (sub x c e)
  . rcases (hf b hb).2.2.2.1 with z | z
    . exact I.ok.noex b o e z
    . rw [(I.ok.bs b o e).1] at z; cases z
  . rcases mem_cons.mp (I.rK b hs) with z | z
    . exact (hf b hb).2.1 z
    . exact (hf b hb).2.2.1 z
 refine ⟨ok', rfl, I.bare, Un.laid hk (Nat.le_refl _) fresh, ⟨_, hn, fun i x v e1 e2 e3 => ?_⟩, fun x c e => ?_, ?_, fun x c e => ?_, fun p hp => absurd (show p ∈ ([] : GR) from hp) (by simp), I.hok.laid hk (Nat.le_refl _) ⟨Nat.zero_le _, [], 0, .nil, hl⟩, ?_⟩
 . have e1 : (own ++ caps)[i]? = some x := e1;have hi : ¬ i < own.length := fun hi => by
    rw [getElem?_append_left (by simpa using hi), getElem?_map] at e2
    cases q : own[i]? with
    | none => rw [q] at e2; cases e2
    | some y => rw [q] at e2; cases e2
   rw [getElem?_append_right (by simpa using hi)] at e2;rw [getElem?_append_right (by simpa using hi)] at e1;rw [length_map] at e2;unfold bK at e2;rw [getElem?_map] at e2
   cases q : js[i - own.length]? with
   | none => rw [q] at e2; cases e2
   | some j =>
    rw [q] at e2;have e2 : (σ[j]?).join = some v := by simpa using e2
    have e2' : σ[j]? = some (some v) := by
     cases z : σ[j]? with
     | none => rw [z] at e2; cases e2
     | some w => rw [z] at e2; simpa using e2
    obtain ⟨c1, c2⟩ := B.capO.at _ x j e1 q;obtain ⟨m, _, hl'⟩ := I.loc;obtain ⟨u, r, lk⟩ := hl' j x v c1 e2' (c2.elim (fun z => .inr (.inl z)) fun z => .inr (.inr z));refine ⟨u, r, ?_⟩;rcases lk with ⟨z, _⟩ | ⟨_, c, ec, cell⟩
    . have z : X.env.scope.names.lookup x = some .local := z;rcases c2 with c2 | c2 <;> (rw [c2] at z; cases z)
    . have hfr := B.capf x (mem_of_getElem? e1);obtain ⟨k', ek, pk⟩ := fM (env := X.env) (P := fun k => k = .cell \/ k = .free) (fun _ => .inl rfl) hfr.2 (.inr rfl);refine .inr ⟨?_, c, ?_, ?_⟩
      . rcases pk with rfl | rfl
        . exact .inl ek
        . exact .inr ek
      . obtain ⟨c', e'⟩ := ip (cells := X.env.cells) (acc := []) hfr.1;have := sub x c' e';rw [ec] at this;cases this;exact e'
      . obtain ⟨oo, ho', hd'⟩ := cell;exact ⟨oo, hk _ _ ho', hd'⟩
 . obtain ⟨v, oo, ho', hd'⟩ := I.cell x c (sub x c e);exact ⟨v, oo, hk _ _ ho', hd'⟩
 . show (upd H s.heap.objs.size (.lst [])) (s.heap.objs.size + 1) = none;rw [aa (Nat.succ_ne_self _)]; exact freshC
 . obtain ⟨v, oo, ho', hd'⟩ := I.cell x c (sub x c e);rw [aa (Nat.ne_of_lt (lt_size ho'))];exact I.freeC x c (sub x c e)
 . show _ = (own ++ caps).length;unfold bK;rw [List.length_append, List.length_append, length_map, length_map, B.capO.len]
theorem xj {C : Addr} {σ' : St} {pl : GR} {s' : Shared} {h' : Heap} (I : Inv X pins σ H s) (hf : ∀ b ∈ fp, gW X pins H b) (I' : Inv (fb X (own ++ caps) scope C s H fp) pl σ' H' s') (hC : s.heap.objs.size <= C) (hs : Heap.SameBut C s'.heap h') :
 Inv X pins σ H' { s' with heap := h' } := by
 have neC : ∀ b o, s.heap.get? b = some o -> b ≠ C := fun b o e => Nat.ne_of_lt (Nat.lt_of_lt_of_le (lt_size e) hC);have freeC : H' C = none := I'.free;have b' : Un (wy X.stack) fp H H' s.heap s'.heap := I'.base;refine I.Dp (s' := { s' with heap := h' }) (ch := fp) I'.os ⟨fun b o e n hb hx => (hs.2 b (neC b o e)).trans (b'.keep b o e n hb hx), fun b o e n hb hx => ?_, b'.free, fun b o e hx => ?_, b'.tups, b'.frzs, b'.tbls⟩ (fun b ob e => ?_) I'.bare fun b hb => ?_
 . obtain ⟨sl, e1⟩ := b'.slot b o e n hb hx;exact ⟨sl, (hs.2 b (neC b o e)).trans e1⟩
 . obtain ⟨o', e1⟩ := b'.there b o e hx;exact ⟨o', (hs.2 b (neC b o e)).trans e1⟩
 . refine (I'.hok b ob e).jw (fun c w' hc q => (hs.2 c ?_).trans q) (fun _ q => q) fun _ _ q => q;rintro rfl;rcases hc with rfl | hc
   . rw [freeC] at e; cases e
   . rw [freeC] at hc; cases hc
 . exact ⟨(hf b hb).2.2.2.1, (hf b hb).2.1, (hf b hb).2.2.2.2.1, (hf b hb).2.2.2.2.2⟩
end
theorem sure {α : Type} {M : Model} {A : Around} {m : Sem α} {P Q : α -> Shared -> Prop} {E : GJ} {s : Shared} (h : wpAny M A m P (fun _ _ => False) s) (k : ∀ a s, P a s -> Q a s) : wpAny M A m Q E s := wpAny_mono h k fun _ _ f => f.elim
def Bt (X : Cx) (ifs : List Expr) (t : TT) : Prop := ∀ (pins : GR) (s : Shared) (σ : St) (H : Hp) (Q : Bool -> Hp -> Prop), Inv X pins σ H s -> t σ H Q ->
 wpAny (model X.prog X.w) X.A (forIn ifs true fun c r => if r = true then do let ok <- isTrue c X.env (eval c X.env); pure (ForInStep.yield ok) else pure (ForInStep.yield r)) (TP X pins σ Q) X.xe s
theorem AU {X : Cx} : Bt X [] (fun _ H Q => Q true H) := fun pins s σ H Q I h => wpAny_tests_nil ⟨H, I, h⟩
theorem zi {X : Cx} {c : Expr} {t : TT} (h : PT X c t) : Bt X [c] t := fun pins s σ H Q I q => wpAny_tests_one (h pins s σ H Q I q)
def t8 (wi : TI) (n : Nat) (js : GX) (g : TG) (tc : Nat -> TT) (te : Nat -> TE) : TE := fun σ H Q => wi σ H fun J H1 => ∀ l, H1 l = none ->
 ∃ W : Nat -> Nat -> List V -> Hp -> Prop, (∃ m, W 0 m [] (upd H1 l (.lst []))) /\ ∀ i m xs H ow, ow.length = n -> W i m xs H -> H l = some (.lst xs) /\
  ((J.stop i H /\ Q (.ref l) H) \/ (J.go i H /\ ∀ x H', J.yld i H x H' -> g x (ow ++ bK js σ) H' fun σ2 H2 => (∃ ow', ow'.length = n /\ σ2 = ow' ++ bK js σ) /\
   tc i σ2 H2 fun b H3 => if b = true then te i σ2 H3 fun y H4 => H4 l = some (.lst xs) /\ xs.length < sizeLine /\ ∃ m', m' < m /\ W (i + 1) m' (xs ++ [y]) (upd H4 l (.lst (xs ++ [y])))
    else ∃ m', m' < m /\ W (i + 1) m' xs H3))
def CompEnd (X : Cx) (pins : GR) (σ : St) (Q : VK) (acc : Value) (C : Addr) (s' : Shared) : Prop :=
 ∃ v H', Inv X pins σ H' s' /\ RelV v acc /\ Q v H' /\ (∃ m, s'.heap.Ns C m) /\ gW X pins H' C
theorem nR {X : Cx} {elt tg iter : Expr} {ifs : List Expr} {scope : Scope} {pos : Pos} {own caps : GV} {js : GX} {g : TG} {tc : Nat -> TT} {te : Nat -> TE} (hc : X.calm = true) (B : bZ X scope own caps js)
 (hg : ∀ C s H fp, PG (fb X (own ++ caps) scope C s H fp) tg g) (ht : ∀ C s H fp i, Bt (fb X (own ++ caps) scope C s H fp) ifs (tc i)) (he : ∀ C s H fp i, PE (fb X (own ++ caps) scope C s H fp) elt (te i))
 {pins : GR} {σ : St} {Q : VK} {itv : Value} {s2 : Shared} {RR : Value -> Addr -> Result -> Shared -> Prop} (hRR : ∀ acc C s', CompEnd X pins σ Q acc C s' -> RR acc C (.ok .next) s')
 (h2 : Fg X pins σ tg (fun J H1 => ∀ l, H1 l = none ->
  ∃ W : Nat -> Nat -> List V -> Hp -> Prop, (∃ m, W 0 m [] (upd H1 l (.lst []))) /\ ∀ i m xs H ow, ow.length = own.length -> W i m xs H -> H l = some (.lst xs) /\
   ((J.stop i H /\ Q (.ref l) H) \/ (J.go i H /\ ∀ x H', J.yld i H x H' -> g x (ow ++ bK js σ) H' fun σ2 H2 => (∃ ow', ow'.length = own.length /\ σ2 = ow' ++ bK js σ) /\
    tc i σ2 H2 fun b H3 => if b = true then te i σ2 H3 fun y H4 => H4 l = some (.lst xs) /\ xs.length < sizeLine /\ ∃ m', m' < m /\ W (i + 1) m' (xs ++ [y]) (upd H4 l (.lst (xs ++ [y])))
     else ∃ m', m' < m /\ W (i + 1) m' xs H3))) itv s2) :
 wpAny (model X.prog X.w) X.A (newList []) (fun acc s₃ => wpAny (model X.prog X.w) X.A (newFunctionEnv scope X.env.globals (ic X.env.cells scope.names []) [] X.env.qual none .none (some X.env)) (fun cenv s₄ =>
  codeAny (model X.prog X.w) X.A (.compStart (.ListComp elt [⟨tg, iter, ifs, 0⟩] scope pos) 0 itv acc { cenv with scope := relabel scope X.env }) (RR acc cenv.locals) s₄) X.xe s₃) X.xe s2 := by
 obtain ⟨it, fp, tn, J, H2, e, I2, TT, st2, f2, q⟩ := h2;subst e;have fresh : H2 s2.heap.objs.size = none := I2.hok.fresh (Nat.le_refl _);obtain ⟨W, ⟨m0, w0⟩, turn⟩ := q s2.heap.objs.size fresh;have hlt : ∀ b ∈ fp, b < s2.heap.objs.size := fun b hb => let ⟨o, e, _⟩ := TT.obj _ _ st2 b hb; lt_size e;refine wpAny_newObj_type (wpAny_newFunctionEnv B.nocell (by intro y hy; simp at hy) (fun h₁ hns₁ hsb₁ => ?_) B.kind);dsimp only at hns₁ hsb₁ ⊢;generalize hH2 : s2.heap.push { cls := .type "list", dict := none, data := .seq ([] : GO).toArray } = H3 at hns₁ hsb₁ ⊢;have hC : H3.objs.size = s2.heap.objs.size + 1 := by rw [<- hH2, Heap.size_push]
 have old : ∀ b o, s2.heap.get? b = some o -> h₁.get? b = some o := fun b o e => hsb₁.extBut b o (by rw [hC]; exact Nat.ne_of_lt (Nat.lt_succ_of_lt (lt_size e))) (get?_push_of_some _ (hH2 ▸ get?_push_of_some _ e));have hacc : h₁.get? s2.heap.objs.size = some { cls := .type "list", data := .seq ([] : GO).toArray 0 } :=
  hsb₁.extBut _ _ (by rw [hC]; exact Nat.ne_of_lt (Nat.lt_succ_self _)) (get?_push_of_some _ (hH2 ▸ get?_push_size _ rfl))
 have hns : h₁.Ns (s2.heap.objs.size + 1) (fun _ => none) := by rw [<- hC]; exact hns₁
 have I4 : ∀ tk, Inv (fb X (own ++ caps) scope (s2.heap.objs.size + 1) s2 H2 fp) [] (own.map (fun _ => none) ++ bK js σ) (upd H2 s2.heap.objs.size (.lst [])) { s2 with heap := h₁, toks := tk } := fun tk => A2 B I2 f2 hlt hns old hacc;rw [hC]
 -- what stays of the iterator
 have stat : ∀ {H' : Hp}, (∀ b ∈ fp, H' b = none) -> ∀ b ∈ fp, gW (fb X (own ++ caps) scope (s2.heap.objs.size + 1) s2 H2 fp) [] H' b := fun {H'} hn b hb => by
  have F := (I4 0).ok;exact ⟨hn b hb, (F.exf b hb).1, F.exfs b hb, .inl hb, (F.exf b hb).2, fun p hp => absurd (show p ∈ ([] : GR) from hp) (by simp)⟩
 have loop : ∀ s3 : Shared, s3 = { s2 with heap := h₁, toks := s2.toks + ([] : List (Str × Value)).length } ->
  codeAny (model X.prog X.w) X.A (.compLoop (.ListComp elt [⟨tg, iter, ifs, 0⟩] scope pos) 0 (.ref it) (.ref s2.heap.objs.size) (compEnvC scope (ic X.env.cells scope.names []) (s2.heap.objs.size + 1) X.env))
   (RR (.ref s2.heap.objs.size) (s2.heap.objs.size + 1)) s3 := by
  rintro s3 rfl;refine codeAny_loop rfl (fun n s' => ∃ i xs ow H', ow.length = own.length /\ Inv (fb X (own ++ caps) scope (s2.heap.objs.size + 1) s2 H2 fp) [] (ow ++ bK js σ) H' s' /\ tn i s'.heap /\ (∀ b ∈ fp, H' b = none) /\ W i n xs H') ?_ m0
   ⟨0, [], own.map (fun _ => none), _, by simp, I4 _, TT.keep _ _ _ st2 fun b _ o e => old b o e, fun b hb => by rw [aa (Nat.ne_of_lt (hlt b hb))]; exact (f2 b hb).1, w0⟩
  rintro n s4 ⟨i, xs, ow, H4, how, I5, st4, fr4, w4⟩;obtain ⟨hl4, q4⟩ := turn i n xs H4 ow how w4;refine wpAny_noted ?_;refine cast (congrArg (fun m => wpAny (model X.prog X.w) X.A m _ _ s4) (compTurn_list _ _ _ _ _ _ _ _ _).symm) ?_;refine wpAny_bind (wpAny_standAt (wpAny_bind ?_));rcases q4 with ⟨stop, qn⟩ | ⟨go, step⟩
  . refine sure (TT.done (fb X (own ++ caps) scope (s2.heap.objs.size + 1) s2 H2 fp) rfl rfl rfl hc i [] s4 _ H4 _ I5 (stat fr4) st4 stop) fun r s6 ⟨hr, I6⟩ => ?_;subst hr;obtain ⟨m, hm, _⟩ := I6.loc;refine wpAny_pure (hRR _ _ _ ⟨.ref s2.heap.objs.size, H4, xj I2 f2 I6 (Nat.le_succ _) (Heap.SameBut.refl ..), rfl, qn, ⟨m, hm⟩, I2.ro (Nat.le_succ _) I6.free⟩)
  . refine sure (TT.item (fb X (own ++ caps) scope (s2.heap.objs.size + 1) s2 H2 fp) rfl rfl rfl hc i [] s4 _ H4 (fun _ _ => False) I5 (stat fr4) st4 go) fun r s6 ⟨u, hr, h6⟩ => ?_;subst hr;refine wpAny_bind (sure h6 fun _ s7 ⟨x, H7, I7, r7, y7, st7, fr7⟩ => ?_);have I7' := I7.pinned (stat fr7) (TT.obj _ _ st7);refine wpAny_bind (sure (hg _ _ _ _ _ s7 _ H7 x u _ I7' r7 (step x H7 y7)) fun _ s8 ⟨σ8, H8, I8, ⟨ow', how', eσ⟩, q8⟩ => ?_);subst eσ;refine wpAny_bind (sure (ht _ _ _ _ i _ s8 _ H8 _ I8 q8) fun b s9 ⟨H9, I9, q9⟩ => ?_);have again : ∀ {H10 : Hp} {s10 : Shared}, Inv (fb X (own ++ caps) scope (s2.heap.objs.size + 1) s2 H2 fp) ([] ++ kK fp s7.heap) (ow' ++ bK js σ) H10 s10 -> tn (i + 1) s10.heap /\ ∀ b ∈ fp, H10 b = none := fun {H10 s10} I10 => by
     refine ⟨TT.keep _ _ _ st7 fun b hb o e => (I10.pin (b, o) (mem_append_right _ (mem_append_right _ (fg hb e)))).1, fun b hb => ?_⟩;obtain ⟨o, e, d⟩ := TT.obj _ _ st7 b hb;exact (I10.pin (b, o) (mem_append_right _ (mem_append_right _ (fg hb e)))).2.1
    cases b with
    | false =>
     rw [if_neg Bool.false_ne_true] at q9;obtain ⟨m', hm, w9⟩ := q9;exact wpAny_pure ⟨rfl, m', hm, i + 1, xs, ow', H9, how', I9.fY, (again I9).1, (again I9).2, w9⟩
    | true =>
     rw [if_pos rfl] at q9;refine wpAny_bind (wpAny_bind (sure (he _ _ _ _ i _ s9 _ H9 _ I9 q9) fun y s10 ⟨z, H10, I10, r10, hl10, hz, m', hm, w10⟩ => wpAny_bind ?_));refine sure (bP _ s10 _ H10 (.ref s2.heap.objs.size) [z] (.ref s2.heap.objs.size) [y] (fun _ H' => H' = upd H10 s2.heap.objs.size (.lst (xs ++ [z]))) I10 rfl (.cons r10 .nil) ⟨_, xs, z, rfl, rfl, hl10, hz, rfl⟩) fun _ s11 ⟨_, H11, I11, _, e11⟩ => ?_;subst e11;exact wpAny_pure (wpAny_pure ⟨rfl, m', hm, i + 1, xs ++ [z], ow', _, how', I11.fY, (again I11).1, (again I11).2, w10⟩)
 exact codeAny_compStart_list (loop _ rfl) (TT.self _ 0 _ _ _ (TT.keep _ _ _ st2 fun b _ o e => old b o e) (loop _ rfl))
theorem away {X : Cx} {pins : GR} {σ : St} {H : Hp} {s : Shared} {C : Addr} {h' : Heap} (I : Inv X pins σ H s) (f : gW X pins H C) (hs : Heap.SameBut C s.heap h') : Inv X pins σ H { s with heap := h' } :=
 I.turned (t' := s.toks) (fun b o hb e => (hs.2 b hb).trans e) f.1 f.2.1 f.2.2.2.1 f.2.2.2.2.1 f.2.2.2.2.2
theorem t9 {X : Cx} {elt tg iter : Expr} {ifs : List Expr} {scope : Scope} {pos : Pos} {wi : TI} {own caps : GV} {js : GX} {g : TG} {tc : Nat -> TT} {te : Nat -> TE} (hc : X.calm = true) (B : bZ X scope own caps js) (hi : PI X tg iter wi)
 (hg : ∀ C s H fp, PG (fb X (own ++ caps) scope C s H fp) tg g) (ht : ∀ C s H fp i, Bt (fb X (own ++ caps) scope C s H fp) ifs (tc i)) (he : ∀ C s H fp i, PE (fb X (own ++ caps) scope C s H fp) elt (te i))
 (hs : ∀ x, foldedSetIterable iter X.env x = pure x := by intro _; rfl) : PE X (.ListComp elt [⟨tg, iter, ifs, 0⟩] scope pos) (t8 wi own.length js g tc te) := by
 intro pins s σ H Q I h;rw [eval_ListComp];refine wpAny_comprehension_free (use := none) rfl hs (lF (B.cells I.ok)) B.kind B.names (cg (hi pins s σ H _ I h) fun v s1 h1 => cg h1 fun itv s2 h2 => ?_);refine nR (RR := fun acc C => compPost (model X.prog X.w) X.A X.xe none (EP X pins σ Q) acc C) hc B hg ht he (fun acc C s' ⟨v, H', I', r, q, ⟨m, hm⟩, f⟩ => ?_) h2;exact ⟨m, hm, fun h' hs' => ⟨v, H', away I' f hs', r, q⟩⟩
theorem tK {X : Cx} {elt tg iter : Expr} {ifs : List Expr} {scope : Scope} {pos spos py : Pos} {wi : TI} {own caps : GV} {js : GX} {g : TG} {tc : Nat -> TT} {te : Nat -> TE} {y : Str} {k : Nat} (hN : X.N.Nodup) (hk : X.N[k]? = some y) (hy : Loc X.env.scope y)
 (hc : X.calm = true) (B : bZ X scope own caps js) (hi : PI X tg iter wi)
 (hg : ∀ C s H fp, PG (fb X (own ++ caps) scope C s H fp) tg g) (ht : ∀ C s H fp i, Bt (fb X (own ++ caps) scope C s H fp) ifs (tc i)) (he : ∀ C s H fp i, PE (fb X (own ++ caps) scope C s H fp) elt (te i))
 (hsw : swapsWith (.ListComp elt [⟨tg, iter, ifs, 0⟩] scope pos) (some (.Name y py)) spos.line X.env = pure true) (hf : X.fn y = true \/ X.env.scope.names.lookup y = some .local)
 (hs : ∀ x, foldedSetIterable iter X.env x = pure x := by intro _; rfl) : PS X (.Assign [.Name y py] (.ListComp elt [⟨tg, iter, ifs, 0⟩] scope pos) spos) (Ca (t8 wi own.length js g tc te) (eE k)) := by
 intro pins s σ H D I h;rw [exec_Assign_Name_used _ _ _ _ hsw];refine wpAny_bind (wpAny_standAt (wpAny_bind ?_));show wpAny _ X.A (do let _ <- comprehension (.ListComp elt [⟨tg, iter, ifs, 0⟩] scope pos) scope X.env _ (newList []) false (eval iter X.env) (some (assign (.Name y py) X.env))) _ _ s;refine wpAny_bind (wpAny_mono (wpAny_comprehension_free (use := some (assign (.Name y py) X.env)) (Q := fun _ s' => SP X pins D .next s') rfl hs (lF (B.cells I.ok)) B.kind B.names
  (cg (hi pins s σ H _ I h) fun v s1 h1 => cg h1 fun itv s2 h2 => ?_)) (fun _ s' hq => wpAny_pure (wpAny_pure hq)) fun _ _ e => e)
 refine nR (RR := fun acc C => compPost (model X.prog X.w) X.A X.xe (some (assign (.Name y py) X.env)) (fun _ s' => SP X pins D .next s') acc C) (pins := pins) (σ := σ) (Q := fun v H' => D.nx (σ.set k (some v)) H') hc B hg ht he (fun acc C s' ⟨v, H', I', r, q, ⟨m, hm⟩, f⟩ => ?_) h2;show wpAny _ X.A (assign (.Name y py) X.env acc) _ _ _;refine wpAny_assign_Name (m5 I' hN hk hy r (fun s'' I'' ⟨a, sb, ha⟩ => ?_) hf);have hCa : C ≠ a := by
  rcases ha with rfl | ha
  . exact f.2.1
  . exact fun z => f.2.2.2.2.1 y a ha z.symm
 exact ⟨m, hm.sameBut sb hCa, fun h' hs' => ⟨_, H', away I'' f hs', q⟩⟩
structure rY (K : Frag) (J : It) (vs : List V) (cG ds : List D) : Prop where
 go : ∀ (Z : ax) H, Z.Open H -> aC K H Z cG vs -> ∀ (i : Nat) d, ds[i]? = some d -> J.go i H /\ ∀ x H2, J.yld i H x H2 -> ao H H2 /\ In K H2 Z d x
 stop : ∀ (Z : ax) H, Z.Open H -> aC K H Z cG vs -> J.stop ds.length H
def Fh (K : Frag) (m : Bool) (ρ : List (Option D)) (ds : List D) : TI := fun σ H R => ∃ Z : ax, Z.Open H /\ cy K H Z σ ρ /\
 ∀ J H' vs cG, ao H H' -> aC K H' (out m Z H) cG vs -> rY K J vs cG ds -> R J H'
def IT (X : Cx) (tg : Expr) (m : Bool) (ρ : List (Option D)) (iter : Expr) (ds : List D) : Prop := PI X tg iter (Fh X.K m ρ ds)
theorem PI.mono {X : Cx} {tg iter : Expr} {t t' : TI} (h : PI X tg iter t) (k : ∀ σ H R, t' σ H R -> t σ H R) : PI X tg iter t' := fun pins s σ H R I q => h pins s σ H R I (k σ H R q)
section
variable {X : Cx} {ρ : List (Option D)} {m m1 m2 : Bool} {tg e a b : Expr} {ds : List D} {d : D} {pos p : Pos}
theorem cC (h : E X m ρ e (.lst ds)) : IT X tg m ρ e ds := PI.mono (AR h) fun σ H R z0 => aU z0 fun Z oz en k => ⟨Z, oz, en, fun v H1 s1 i1 => by
 obtain ⟨a, xs, rfl, l, j⟩ := ah.mp i1;refine ⟨a, rfl, ⟨xs, l.sq⟩, k _ H1 [.ref a] [.lst ds] s1 (aC.one i1) ⟨fun Z2 H2 o2 j2 i d e => ?_, fun Z2 H2 o2 j2 => ?_⟩⟩
 . obtain ⟨w, r, e1, j3, j4⟩ := ag.mp j2;cases e1;obtain ⟨a', ys, e2, l2, j5⟩ := ah.mp j3;cases e2;obtain ⟨v, e3, iv⟩ := j5.get e;refine ⟨⟨ys, v, l2.sq, e3⟩, fun x H3 ⟨e4, y⟩ => ?_⟩;subst e4;have := y ys l2.sq;rw [e3] at this;cases this;exact ⟨ao.refl _, iv⟩
 . obtain ⟨w, r, e1, j3, j4⟩ := ag.mp j2;cases e1;obtain ⟨a', ys, e2, l2, j5⟩ := ah.mp j3;cases e2;exact ⟨ys, l2.sq, Nat.le_of_eq j5.length.symm⟩⟩
def bQ (lo : Int) (n : Nat) : List D := (List.range n).map fun i => D.int (lo + (i : Nat))
theorem kH {lo : Int} {n i : Nat} {d : D} (h : (bQ lo n)[i]? = some d) : i < n /\ d = .int (lo + i) := by
 unfold bQ at h;rw [getElem?_map] at h;by_cases hi : i < n
 . rw [List.getElem?_range hi] at h;exact ⟨hi, by simpa using h.symm⟩
 . rw [List.getElem?_eq_none (by simpa using hi)] at h;cases h
theorem bL {lo : Int} {n : Nat} : (bQ lo n).length = n := by simp [bQ]
theorem oP {K : Frag} (lo : Int) (n : Nat) : rY K (EJ lo n) [] [] (bQ lo n) :=
 ⟨fun Z H _ _ i d e => by
  obtain ⟨hi, rfl⟩ := kH e;refine ⟨hi, fun x H2 ⟨e1, e2⟩ => ?_⟩;subst e1 e2;exact ⟨ao.refl _, av.mpr rfl⟩, fun Z H _ _ => by rw [bL]; exact Nat.le_refl n⟩
theorem cR {n : Int} (h : E X m1 ρ a (.int n)) (hn : n < 2 ^ 62) (hn2 : -(2 ^ 62) <= n) (hm : X.mg "range" = none) (hg : Gl X "range" := by rfl) (hs : starEach [a] X.env = [(false, eval a X.env)] := by rfl) :
 IT X tg m ρ (.Call (.Name "range" p) [a] [] pos) (bQ 0 n.toNat) :=
 PI.mono (vy hg hm (aJ h bc (by rw [hs]; rfl)) hs) fun σ H R z0 => aU z0 fun Z oz en k => ⟨Z, oz, en, fun v H1 s1 i1 => ⟨n, by rw [av.mp (i1.plain oz)], hn2, hn, k _ H1 [] [] s1 (ay.mpr rfl) (oP 0 n.toNat)⟩⟩
def Fv (z : Str) : It := ⟨fun i _ => i < z.cps.size, fun i H x H' => H' = H /\ ∃ c, z.cps[i]? = some c /\ x = .str ⟨#[c]⟩, fun i _ => z.cps.size <= i⟩
theorem sy {P : Program} {w : World} {K : Frag} {tg : Expr} (it : Addr) (z : Str) (t : Tok) : Turn P w K tg (Fv z) [it] it (fun i h => h.IsStrIter it "str_ascii_iterator" z t i) where
 mem := by simp
 obj := fun i h st b hb => by
  have e : b = it := by simpa using hb
  subst e;obtain ⟨o, e, c, d⟩ := st;exact ⟨o, e, fun v z => by rw [d] at z; cases z⟩
 keep := fun i h h' st k => let ⟨o, ho, r⟩ := st; ⟨o, k it (by simp) o ho, r⟩
 item := by
  intro X hP hw hK hc i pins s σ H E I hf st hg;subst hP hw hK;obtain ⟨f0, f1, f2, f3, f4, f5⟩ := hf it (by simp);have hg : i < z.cps.size := hg;refine wpAny_pyNext_ascii_item st (c := z.cps[i]) (by simp [hg]) fun h' st' sb => ?_;have I1 : Inv X pins σ H { s with heap := h', toks := s.toks + 1 } := I.turned (t' := s.toks + 1) (fun b o hb e => (sb.2 b hb).trans e) f0 f1 f3 f4 f5;obtain ⟨o, e, c, d⟩ := id st';exact ⟨_, rfl, qA (s := { s with heap := h', toks := s.toks + 1 }) e c d (by decide) ⟨.str ⟨#[z.cps[i]]⟩, H, I1, ⟨_, rfl⟩, ⟨rfl, z.cps[i], by simp [hg], rfl⟩, st', fun b hb => (hf b hb).1⟩⟩
 done := by
  intro X hP hw hK hc i pins s σ H E I hf st hg;subst hP hw hK;obtain ⟨f0, f1, f2, f3, f4, f5⟩ := hf it (by simp);have hg : z.cps.size <= i := hg;exact wpAny_pyNext_ascii_end (I.ok.hd hc) st (by simp [hg]) fun h' eb => ⟨rfl, I.turned (t' := s.toks) (fun b o hb e => eb b o hb e) f0 f1 f3 f4 f5⟩
 self := fun _ _ _ _ _ st h => wpAny_pyIter_striter_ascii st h
theorem vI {P : Program} {w : World} {K : Frag} {tg : Expr} (it : Addr) (z : Str) (t : Tok) : Turn P w K tg (Fv z) [it] it (fun i h => h.IsStrIter it "str_iterator" z t i) where
 mem := by simp
 obj := fun i h st b hb => by
  have e : b = it := by simpa using hb
  subst e;obtain ⟨o, e, c, d⟩ := st;exact ⟨o, e, fun v z => by rw [d] at z; cases z⟩
 keep := fun i h h' st k => let ⟨o, ho, r⟩ := st; ⟨o, k it (by simp) o ho, r⟩
 item := by
  intro X hP hw hK hc i pins s σ H E I hf st hg;subst hP hw hK;obtain ⟨f0, f1, f2, f3, f4, f5⟩ := hf it (by simp);have hg : i < z.cps.size := hg;refine wpAny_pyNext_wide_item st (c := z.cps[i]) (by simp [hg]) fun h' st' sb => ?_;have I1 : Inv X pins σ H { s with heap := h', toks := s.toks + 1 } := I.turned (t' := s.toks + 1) (fun b o hb e => (sb.2 b hb).trans e) f0 f1 f3 f4 f5;obtain ⟨o, e, c, d⟩ := id st';exact ⟨_, rfl, qA (s := { s with heap := h', toks := s.toks + 1 }) e c d (by decide) ⟨.str ⟨#[z.cps[i]]⟩, H, I1, ⟨_, rfl⟩, ⟨rfl, z.cps[i], by simp [hg], rfl⟩, st', fun b hb => (hf b hb).1⟩⟩
 done := by
  intro X hP hw hK hc i pins s σ H E I hf st hg;subst hP hw hK;obtain ⟨f0, f1, f2, f3, f4, f5⟩ := hf it (by simp);have hg : z.cps.size <= i := hg;exact wpAny_pyNext_wide_end (I.ok.hd hc) st (by simp [hg]) fun h' eb => ⟨rfl, I.turned (t' := s.toks) (fun b o hb e => eb b o hb e) f0 f1 f3 f4 f5⟩
 self := fun _ _ _ _ _ st h => wpAny_pyIter_striter_wide st h
def Fs (tl : TE) : TI := fun σ H R => tl σ H fun x H1 => ∃ z, x = .str z /\ R (Fv z) H1
theorem Cf {tl : TE} (hl : PE X e tl) : PI X tg e (Fs tl) := by
 intro pins s σ H R I h;refine cg (hl pins s σ H _ I h) fun v s1 ⟨x, H1, I1, r1, q1⟩ => ?_;obtain ⟨z, rfl, q⟩ := q1;obtain ⟨t, rfl⟩ := r1;have fp : ∀ b ∈ [s1.heap.objs.size], gW X pins H1 b := fun b hb => by
  have e : b = s1.heap.objs.size := by simpa using hb
  subst e;exact I1.ro (Nat.le_refl _) (I1.hok.fresh (Nat.le_refl _))
 cases ha : z.cps.all (· < 128)
 . exact wpAny_pyIter_wide ha ⟨s1.heap.objs.size, [s1.heap.objs.size], _, _, H1, rfl, I1.kept (t' := s1.toks) fun b o e => get?_push_of_some _ e, vI _ z t, ⟨_, get?_push_size _ rfl, rfl, rfl⟩, fp, q⟩
 . exact wpAny_pyIter_ascii ha ⟨s1.heap.objs.size, [s1.heap.objs.size], _, _, H1, rfl, I1.kept (t' := s1.toks) fun b o e => get?_push_of_some _ e, sy _ z t, ⟨_, get?_push_size _ rfl, rfl, rfl⟩, fp, q⟩
def jg (z : Str) : List D := z.cps.toList.map fun c => D.str ⟨#[c]⟩
theorem CI {z : Str} (h : E X m1 ρ e (.str z)) : IT X tg m ρ e (jg z) := PI.mono (Cf h) fun σ H R z0 => aU z0 fun Z oz en k => ⟨Z, oz, en, fun v H1 s1 i1 => by
 refine ⟨z, in_str.mp (i1.plain oz), k _ H1 [] [] s1 (ay.mpr rfl) ⟨fun Z2 H2 o2 j2 i d e => ?_, fun Z2 H2 o2 j2 => ?_⟩⟩
 . unfold jg at e;rw [getElem?_map] at e
   cases q : z.cps.toList[i]? with
   | none => rw [q] at e; cases e
   | some c =>
    rw [q] at e;have e' : D.str ⟨#[c]⟩ = d := by simpa using e
    subst e';have hi : i < z.cps.size := by simpa using (List.getElem?_eq_some_iff.mp q).1
    refine ⟨hi, fun x H3 ⟨e1, c', e2, e3⟩ => ?_⟩;subst e1 e3;have : c' = c := by
     have q' : z.cps[i]? = some c := by simpa using q
     rw [q'] at e2;exact (Option.some.inj e2).symm
    subst this;exact ⟨ao.refl _, in_str.mpr rfl⟩
 . show z.cps.size <= (jg z).length;simp [jg]⟩
def Eg (X : Cx) (ρ : List (Option D)) (ifs : List Expr) (b : Bool) : Prop := Bt X ifs (wz X.K ρ b)
theorem yE : Eg X ρ [] true := fun pins s σ H Q I z0 => aU z0 fun Z oz en k => AU pins s σ H Q I (k H (ao.refl H))
theorem rO {p : Bool} (h : T X ρ e p) : Eg X ρ [e] p := zi h
def fm (js : GX) (ρ : List (Option D)) : List (Option D) := js.map fun j => (ρ[j]?).join
theorem gQ {K : Frag} {H : Hp} {Z : ax} {σ : St} {js : GX} (en : cy K H Z σ ρ) {ow : St} {ov : List (Option D)} (hl : ow.length = ov.length) (h : ∀ (i : Nat) d, ov[i]? = some (some d) -> ∃ v, ow[i]? = some (some v) /\ In K H Z d v) :
 cy K H Z (ow ++ bK js σ) (ov ++ fm js ρ) := fun i d e => by
 by_cases hi : i < ov.length
 . rw [getElem?_append_left hi] at e;rw [getElem?_append_left (by omega)];exact let ⟨v, a, b⟩ := h i d e; ⟨v, a, b.top⟩
 . rw [getElem?_append_right (by omega)] at e;rw [getElem?_append_right (by omega), hl];unfold fm at e;unfold bK;rw [getElem?_map] at e ⊢
   cases q : js[i - ov.length]? with
   | none => rw [q] at e; cases e
   | some j =>
    rw [q] at e;have e : (ρ[j]?).join = some d := by simpa using e
    have e' : ρ[j]? = some (some d) := by
     cases z : ρ[j]? with
     | none => rw [z] at e; cases e
     | some w => rw [z] at e; simpa using e
    obtain ⟨v, a, b⟩ := en j d e';exact ⟨v, by simp [a], b⟩
def Gg (K : Frag) (js : GX) (ρ : List (Option D)) (ds : List D) (p : D -> Bool) (i : Nat) : TT := fun σ H Q => ∃ d, ds[i]? = some d /\ wz K ([some d] ++ fm js ρ) (p d) σ H Q
def FZ (K : Frag) (js : GX) (ρ : List (Option D)) (ds : List D) (p : D -> Bool) (f : D -> D) (me : Bool) (i : Nat) : TE := fun σ H Q => ∃ d, ds[i]? = some d /\ p d = true /\ tE K me ([some d] ++ fm js ρ) (f d) σ H Q
theorem lY {js : GX} {me : Bool} (p : D -> Bool) (f : D -> D) (hz : ds.length <= sizeLine) (hm : m = true -> me = true \/ ∀ d ∈ ds, (f d).flat = true) (σ : St) (H : Hp) (Q : VK) (h : tE X.K m ρ (.lst ((ds.filter p).map f)) σ H Q) :
 t8 (Fh X.K m1 ρ ds) 1 js (eE 0) (Gg X.K js ρ ds p) (FZ X.K js ρ ds p f me) σ H Q := by
 obtain ⟨Z, oz, en, k⟩ := h;refine ⟨Z, oz, en, fun J H1 vs cG s1 i1 Y l hl => ?_⟩;have hlH : H l = none := s1.free hl
 -- all zones without l
 have noL : ∀ {ds : List D} {vs : List V} {Z' : ax} {Ha Hb : Hp}, Ha l = none -> ao Ha Hb -> aC X.K Ha Z' ds vs -> aC X.K Hb ⟨Z'.m, fun a => Z'.S a /\ a ≠ l⟩ ds vs := fun {ds vs Z' Ha Hb} ha sa h => aC.carry (Z' := ⟨Z'.m, fun a => Z'.S a /\ a ≠ l⟩) (Carry.of sa (fun a zs e z => ⟨z, aq e ha⟩) fun m => m) h;have noL1 : ∀ {d : D} {v : V} {Z' : ax} {Ha Hb : Hp}, Ha l = none -> ao Ha Hb -> In X.K Ha Z' d v -> In X.K Hb ⟨Z'.m, fun a => Z'.S a /\ a ≠ l⟩ d v := fun {d v Z' Ha Hb} ha sa h => In.carry (Z' := ⟨Z'.m, fun a => Z'.S a /\ a ≠ l⟩) (Carry.of sa (fun a zs e z => ⟨z, aq e ha⟩) fun m => m) h;refine ⟨fun i n xs H' => n = ds.length - i /\ i <= ds.length /\ ao H1 H' /\ H' l = some (.lst xs) /\ xs.length <= i /\ aC X.K H' ⟨(out m Z H).m, fun a => (out m Z H).S a /\ a ≠ l⟩ (((ds.take i).filter p).map f) xs, ⟨ds.length, by simp, Nat.zero_le _, aB hl, ae, Nat.zero_le _, by simp; exact ay.mpr rfl⟩, ?_⟩;rintro i n xs H' ow how ⟨rfl, hi', s1', hl', hxi, jx⟩;refine ⟨hl', ?_⟩;have srcsZ : aC X.K H1 Z cG vs := by
  cases m1
  . exact i1
  . exact i1.up oz
 let Zl : ax := ⟨Z.m, fun a => Z.S a /\ a ≠ l⟩
 have opl : ∀ {Ha : Hp} {o : HO}, ao H Ha -> Ha l = some o -> Zl.Open Ha := fun sa e => ⟨fun a ha => ⟨oz.op a (sa.free ha), by rintro rfl; rw [e] at ha; cases ha⟩, sa.tabs oz.tb⟩
 by_cases hlt : i < ds.length
 . have hd : ds[i]? = some ds[i] := by simp [hlt]
   obtain ⟨go, yl⟩ := Y.go Zl H' (opl (s1.trans s1') hl') (noL hl s1' srcsZ) i ds[i] hd;refine .inr ⟨go, fun y H2 hy => ?_⟩;obtain ⟨s2, iy⟩ := yl y H2 hy;have hl2 : H2 l = some (.lst xs) := s2.at hl';have sH2 : ao H H2 := (s1.trans s1').trans s2;obtain ⟨w, rfl⟩ : ∃ w, ow = [w] := by
    match ow, how with
    | [w], _ => exact ⟨w, rfl⟩
   have en2 : cy X.K H2 Zl ([some y] ++ bK js σ) ([some ds[i]] ++ fm js ρ) := gQ (fun i d e => let ⟨v, a, b⟩ := en i d e; ⟨v, a, e9.carry (Z' := Zl) (Carry.of sH2 (fun a zs e z => ⟨z, aq e hlH⟩) fun m => m) b⟩) rfl fun i d e => by
    match i, e with
    | 0, e => cases e; exact ⟨y, rfl, iy⟩
   refine ⟨⟨[some y], rfl, rfl⟩, ds[i], hd, Zl, opl sH2 hl2, en2, fun H3 s3 => ?_⟩;have hl3 : H3 l = some (.lst xs) := s3.at hl2;have st : (ds.take (i + 1)).filter p = (ds.take i).filter p ++ (if p ds[i] then [ds[i]] else []) := take_succ_filter p ds i ds[i] hd
   cases hp : p ds[i] with
   | false =>
    refine mG ?_;refine ⟨ds.length - (i + 1), by omega, rfl, hlt, (s1'.trans s2).trans s3, hl3, by omega, ?_⟩;rw [st, hp];simp only [Bool.false_eq_true, if_false, append_nil];exact jx.same (s2.trans s3)
   | true =>
    refine qT ?_;refine ⟨ds[i], hd, hp, Zl, opl (sH2.trans s3) hl3, en2.same s3, fun v H4 s4 iv => ?_⟩;have hl4 : H4 l = some (.lst xs) := s4.at hl3;refine ⟨hl4, by omega, ds.length - (i + 1), by omega, rfl, hlt, ((s1'.trans s2).trans (s3.trans s4)).write hl hl4, ae, by rw [List.length_append]; simp; omega, ?_⟩
    . rw [st, hp];simp only [if_true, map_append, map_cons, map_nil];have n : ¬ (⟨(out m Z H).m, fun a => (out m Z H).S a /\ a ≠ l⟩ : ax).S l := fun z => z.2 rfl;refine aC.append ((jx.same (s2.trans (s3.trans s4))).carry (.write hl4 n)) (aC.one ?_);refine In.carry (.write hl4 n) ?_
      cases m with
      | false => exact iv.plain (opl (sH2.trans s3) hl3)
      | true =>
       rcases hm rfl with h | h
       . subst h;exact In.carry (Z := nw H3) (Z' := ⟨true, fun a => H a = none /\ a ≠ l⟩) ⟨fun a zs e z => ⟨e, (sH2.trans s3).free z, by rintro rfl; have z : H3 a = none := z; rw [hl3] at z; cases z⟩, fun m => AN m, fun _ _ e => e⟩ iv
       . exact iv.cT (h _ (getElem_mem hlt))
 . have e : i = ds.length := by omega
   subst e;refine .inl ⟨Y.stop Zl H' (opl (s1.trans s1') hl') (noL hl s1' srcsZ), k (.ref l) H' (s1.trans s1') (ah.mpr ⟨l, xs, rfl, .inl ⟨hl', ?_⟩, ?_⟩)⟩
   . cases m
     . exact oz l hlH
     . exact hlH
   . rw [take_length] at jx;exact aC.carry (Z := ⟨(out m Z H).m, fun a => (out m Z H).S a /\ a ≠ l⟩) (Z' := out m Z H) (Carry.of (ao.refl H') (fun a zs e z => And.left z) fun m => m) jx
structure EC (X : Cx) (m : Bool) (ρ : List (Option D)) (e : Expr) (d : D) : Prop where
 val : E X m ρ e d
 s : ∀ (y : Str) (k : Nat) (spos py : Pos), X.N.Nodup -> X.N[k]? = some y -> Loc X.env.scope y -> swapsWith e (some (.Name y py)) spos.line X.env = pure true -> (X.fn y = true \/ X.env.scope.names.lookup y = some .local) -> PS X (.Assign [.Name y py] e spos) (Ca (tE X.K m ρ d) (eE k))
theorem EC.cast {d' : D} (h : EC X m ρ e d) (q : d = d') : EC X m ρ e d' := q ▸ h
theorem PS.By {X : Cx} {st : Stmt} {t t' : TS} (h : PS X st t) (k : ∀ Q σ H, t' Q σ H -> t Q σ H) : PS X st t' := fun pins s σ H Q I q => h pins s σ H Q I (k Q σ H q)
theorem uR {elt iter : Expr} {x : Str} {px : Pos} {ifs : List Expr} {scope : Scope} {me : Bool} (caps : GV) (js : GX) (p : D -> Bool) (f : D -> D) (hi : IT X (.Name x px) m1 ρ iter ds)
 (ht : ∀ C s H fp d, d ∈ ds -> Eg (fb X ([x] ++ caps) scope C s H fp) ([some d] ++ fm js ρ) ifs (p d)) (he : ∀ C s H fp d, d ∈ ds -> p d = true -> E (fb X ([x] ++ caps) scope C s H fp) me ([some d] ++ fm js ρ) elt (f d))
 (hz : ds.length <= sizeLine) (hm : m = true -> me = true \/ ∀ d ∈ ds, (f d).flat = true := by intro h; first | exact .inl h | cases h) (hc : X.calm = true := by rfl)
 (B : bZ X scope [x] caps js := by exact ⟨rfl, by decide, by decide, by decide, by decide, by decide, by repeat (first | exact trivial | refine ⟨⟨rfl, by first | exact .inl rfl | exact .inr rfl⟩, ?_⟩), by decide⟩)
 (hs : ∀ x, foldedSetIterable iter X.env x = pure x := by intro _; rfl) : EC X m ρ (.ListComp elt [⟨.Name x px, iter, ifs, 0⟩] scope pos) (.lst ((ds.filter p).map f)) := by
 have hg : ∀ C s H fp, PG (fb X ([x] ++ caps) scope C s H fp) (.Name x px) (eE 0) := fun C s H fp => fj (i := 0) B.nd rfl (.inl (lookup_relabel_local (B.own x (by simp)))) (.inr (lookup_relabel_local (B.own x (by simp))));have ht' : ∀ C s H fp i, Bt (fb X ([x] ++ caps) scope C s H fp) ifs (Gg X.K js ρ ds p i) := fun C s H fp i pins s' σ H' Q I h => by
  obtain ⟨d, hd, h⟩ := h;exact ht C s H fp d (mem_of_getElem? hd) pins s' σ H' Q I h
 have he' : ∀ C s H fp i, PE (fb X ([x] ++ caps) scope C s H fp) elt (FZ X.K js ρ ds p f me i) := fun C s H fp i pins s' σ H' Q I h => by
  obtain ⟨d, hd, hp, h⟩ := h;exact he C s H fp d (mem_of_getElem? hd) hp pins s' σ H' Q I h
 refine ⟨PE.mono (t9 (own := [x]) (caps := caps) hc B hi hg ht' he' hs) fun σ H Q h => lY p f hz hm σ H Q h, fun y k spos py hN hk hy hsw hf => ?_⟩;exact PS.By (tK (own := [x]) (caps := caps) hN hk hy hc B hi hg ht' he' hsw hf hs) fun Q σ H h => lY p f hz hm σ H _ h
theorem sG {elt iter : Expr} {x : Str} {px : Pos} {ifs : List Expr} {scope : Scope} {me : Bool} (caps : GV) (js : GX) (p : D -> Bool) (f : D -> D) (hi : IT X (.Name x px) m1 ρ iter ds)
 (ht : ∀ C s H fp d, d ∈ ds -> Eg (fb X ([x] ++ caps) scope C s H fp) ([some d] ++ fm js ρ) ifs (p d)) (he : ∀ C s H fp d, d ∈ ds -> p d = true -> E (fb X ([x] ++ caps) scope C s H fp) me ([some d] ++ fm js ρ) elt (f d))
 (hz : ds.length <= sizeLine) (hm : m = true -> me = true \/ ∀ d ∈ ds, (f d).flat = true := by intro h; first | exact .inl h | cases h) (hc : X.calm = true := by rfl)
 (B : bZ X scope [x] caps js := by exact ⟨rfl, by decide, by decide, by decide, by decide, by decide, by repeat (first | exact trivial | refine ⟨⟨rfl, by first | exact .inl rfl | exact .inr rfl⟩, ?_⟩), by decide⟩)
 (hs : ∀ x, foldedSetIterable iter X.env x = pure x := by intro _; rfl) : E X m ρ (.ListComp elt [⟨.Name x px, iter, ifs, 0⟩] scope pos) (.lst ((ds.filter p).map f)) := (uR caps js p f hi ht he hz hm hc B hs).val
theorem sL {elt iter : Expr} {x : Str} {px : Pos} {scope : Scope} {me : Bool} (caps : GV) (js : GX) (f : D -> D) (hi : IT X (.Name x px) m1 ρ iter ds)
 (he : ∀ C s H fp d, d ∈ ds -> E (fb X ([x] ++ caps) scope C s H fp) me ([some d] ++ fm js ρ) elt (f d)) (hz : ds.length <= sizeLine) (hm : m = true -> me = true \/ ∀ d ∈ ds, (f d).flat = true := by intro h; first | exact .inl h | cases h) (hc : X.calm = true := by rfl)
 (B : bZ X scope [x] caps js := by exact ⟨rfl, by decide, by decide, by decide, by decide, by decide, by repeat (first | exact trivial | refine ⟨⟨rfl, by first | exact .inl rfl | exact .inr rfl⟩, ?_⟩), by decide⟩)
 (hs : ∀ x, foldedSetIterable iter X.env x = pure x := by intro _; rfl) : EC X m ρ (.ListComp elt [⟨.Name x px, iter, [], 0⟩] scope pos) (.lst (ds.map f)) := by
 have h := uR (m := m) (pos := pos) caps js (fun _ => true) f hi (fun C s H fp d hd => yE) (fun C s H fp d hd _ => he C s H fp d hd) hz hm hc B hs
 rwa [List.filter_eq_self.mpr fun _ _ => rfl] at h
theorem ny {elt iter : Expr} {x : Str} {px : Pos} {scope : Scope} {me : Bool} (caps : GV) (js : GX) (f : D -> D) (hi : IT X (.Name x px) m1 ρ iter ds)
 (he : ∀ C s H fp d, d ∈ ds -> E (fb X ([x] ++ caps) scope C s H fp) me ([some d] ++ fm js ρ) elt (f d)) (hz : ds.length <= sizeLine) (hm : m = true -> me = true \/ ∀ d ∈ ds, (f d).flat = true := by intro h; first | exact .inl h | cases h) (hc : X.calm = true := by rfl)
 (B : bZ X scope [x] caps js := by exact ⟨rfl, by decide, by decide, by decide, by decide, by decide, by repeat (first | exact trivial | refine ⟨⟨rfl, by first | exact .inl rfl | exact .inr rfl⟩, ?_⟩), by decide⟩)
 (hs : ∀ x, foldedSetIterable iter X.env x = pure x := by intro _; rfl) : E X m ρ (.ListComp elt [⟨.Name x px, iter, [], 0⟩] scope pos) (.lst (ds.map f)) := by
 have h := sG (m := m) (pos := pos) caps js (fun _ => true) f hi (fun C s H fp d hd => yE) (fun C s H fp d hd _ => he C s H fp d hd) hz hm hc B hs
 rwa [List.filter_eq_self.mpr fun _ _ => rfl] at h
end
mutual
def Tr (K : Frag) (H : Hp) : D -> V -> List Addr -> Prop
 | .lst ds, v, as => ∃ a xs bs, v = .ref a /\ as = a :: bs /\ H a = some (.lst xs) /\ mv K H ds xs bs
 | .tup ds, v, as => ∃ a xs, v = .ref a /\ H a = some (.tup xs) /\ mv K H ds xs as
 | .non, v, as => as = [] /\ v = .non
 | .bl b, v, as => as = [] /\ v = .bl b
 | .int i, v, as => as = [] /\ v = .int i
 | .str x, v, as => as = [] /\ v = .str x
 | .dct _, _, _ => False
 | .agg _ _, _, _ => False
 | .ktup ks, v, as => as = [] /\ ∃ a, v = .ref a /\ vG K a ks
def mv (K : Frag) (H : Hp) : List D -> List V -> List Addr -> Prop
 | [], xs, as => xs = [] /\ as = []
 | d :: ds, xs, as => ∃ v r bs cs, xs = v :: r /\ as = bs ++ cs /\ Tr K H d v bs /\ mv K H ds r cs
end
section
variable {K : Frag} {H H' : Hp} {Z : ax}
theorem sA {ds : List D} {v : V} {as : List Addr} : Tr K H (.lst ds) v as ↔ ∃ a xs bs, v = .ref a /\ as = a :: bs /\ H a = some (.lst xs) /\ mv K H ds xs bs := by unfold Tr; exact Iff.rfl
theorem sZ {ds : List D} {v : V} {as : List Addr} : Tr K H (.tup ds) v as ↔ ∃ a xs, v = .ref a /\ H a = some (.tup xs) /\ mv K H ds xs as := by unfold Tr; exact Iff.rfl
theorem oW {xs : List V} {as : List Addr} : mv K H [] xs as ↔ xs = [] /\ as = [] := by unfold mv; exact Iff.rfl
theorem lB {d : D} {ds : List D} {xs : List V} {as : List Addr} : mv K H (d :: ds) xs as ↔ ∃ v r bs cs, xs = v :: r /\ as = bs ++ cs /\ Tr K H d v bs /\ mv K H ds r cs := by
 constructor
 . intro h; unfold mv at h; exact h
 . intro h; unfold mv; exact h
mutual
theorem Tr.carry (t : ∀ a (xs : List V), H a = some (.tup xs) -> H' a = some (.tup xs)) : ∀ {d : D} {v : V} {as : List Addr}, (∀ a (xs : List V), a ∈ as -> H a = some (.lst xs) -> H' a = some (.lst xs)) -> Tr K H d v as -> Tr K H' d v as
 | .non, _, _, _, h => by unfold Tr at h ⊢; exact h
 | .bl _, _, _, _, h => by unfold Tr at h ⊢; exact h
 | .int _, _, _, _, h => by unfold Tr at h ⊢; exact h
 | .str _, _, _, _, h => by unfold Tr at h ⊢; exact h
 | .dct _, _, _, _, h => by unfold Tr at h; exact h.elim
 | .agg _ _, _, _, _, h => by unfold Tr at h; exact h.elim
 | .ktup _, _, _, _, h => by unfold Tr at h ⊢; exact h
 | .lst ds, _, _, k, h => by
  obtain ⟨a, xs, bs, e, rfl, ha, i⟩ := sA.mp h;exact sA.mpr ⟨a, xs, bs, e, rfl, k a xs mem_cons_self ha, mv.carry t (fun b ys hb => k b ys (mem_cons_of_mem _ hb)) i⟩
 | .tup ds, _, _, k, h => by
  obtain ⟨a, xs, e, ha, i⟩ := sZ.mp h;exact sZ.mpr ⟨a, xs, e, t a xs ha, mv.carry t k i⟩
theorem mv.carry (t : ∀ a (xs : List V), H a = some (.tup xs) -> H' a = some (.tup xs)) : ∀ {ds : List D} {vs : List V} {as : List Addr}, (∀ a (xs : List V), a ∈ as -> H a = some (.lst xs) -> H' a = some (.lst xs)) -> mv K H ds vs as -> mv K H' ds vs as
 | [], _, _, _, h => oW.mpr (oW.mp h)
 | d :: ds, _, _, k, h => by
  obtain ⟨v, r, bs, cs, e, rfl, i, j⟩ := lB.mp h;exact lB.mpr ⟨v, r, bs, cs, e, rfl, Tr.carry t (fun b ys hb => k b ys (List.mem_append_left _ hb)) i, mv.carry t (fun b ys hb => k b ys (mem_append_right _ hb)) j⟩
end
mutual
theorem Tr.iR : ∀ {d : D} {v : V} {as : List Addr}, (∀ a ∈ as, Z.S a) -> Tr K H d v as -> In K H Z d v
 | .non, _, _, _, h => by unfold Tr at h; exact ba.mpr h.2
 | .bl _, _, _, _, h => by unfold Tr at h; exact bp.mpr h.2
 | .int _, _, _, _, h => by unfold Tr at h; exact av.mpr h.2
 | .str _, _, _, _, h => by unfold Tr at h; exact in_str.mpr h.2
 | .dct _, _, _, _, h => by unfold Tr at h; exact h.elim
 | .agg _ _, _, _, _, h => by unfold Tr at h; exact h.elim
 | .ktup _, _, _, _, h => by unfold Tr at h; exact aX.mpr h.2
 | .lst ds, _, _, k, h => by
  obtain ⟨a, xs, bs, e, rfl, ha, i⟩ := sA.mp h;exact ah.mpr ⟨a, xs, e, .inl ⟨ha, k a mem_cons_self⟩, mv.iR (fun b hb => k b (mem_cons_of_mem _ hb)) i⟩
 | .tup ds, _, _, k, h => by
  obtain ⟨a, xs, e, ha, i⟩ := sZ.mp h;exact bh.mpr ⟨a, xs, e, ha, mv.iR k i⟩
theorem mv.iR : ∀ {ds : List D} {vs : List V} {as : List Addr}, (∀ a ∈ as, Z.S a) -> mv K H ds vs as -> aC K H Z ds vs
 | [], _, _, _, h => ay.mpr (oW.mp h).1
 | d :: ds, _, _, k, h => by
  obtain ⟨v, r, bs, cs, e, rfl, i, j⟩ := lB.mp h;exact ag.mpr ⟨v, r, e, Tr.iR (fun b hb => k b (List.mem_append_left _ hb)) i, mv.iR (fun b hb => k b (mem_append_right _ hb)) j⟩
end
end
structure Fn where
 m : Bool
 Z : ax
 H : Hp
def zn (F : Fn) (O : Addr -> Prop) (fr : Bool) : ax := if fr then ⟨true, fun a => F.H a = none /\ ¬ O a⟩ else ⟨F.Z.m, fun a => F.Z.S a /\ ¬ O a⟩
def vz (F : Fn) (O : Addr -> Prop) (ow fr : Bool) : ax := if ow then (if fr then nw F.H else F.Z) else zn F O fr
structure SP where
 p : Frag -> Fn -> Hp -> (Addr -> Prop) -> List Addr -> V -> Prop
 vw : Bool -> Bool -> Option D
 carry : ∀ {K : Frag} {F : Fn} {H H' : Hp} {O O' : Addr -> Prop} {mine : List Addr} {v : V}, p K F H O mine v -> (∀ a (xs : MO), a ∈ mine -> H a = some xs.ho -> H' a = some xs.ho) -> (∀ fr, Carry K H (zn F O fr) H' (zn F O' fr)) -> p K F H' O' mine v
 env : ∀ {K : Frag} {F : Fn} {H : Hp} {O : Addr -> Prop} {mine : List Addr} {v : V} {ow fr : Bool} {d : D}, F.Z.Open F.H -> (ow = true -> ∀ a ∈ mine, (vz F O ow fr).S a) -> p K F H O mine v -> vw ow fr = some d -> e9 K H (vz F O ow fr) d v
inductive Slot where
 | pl (fr : Bool) (d : D)
 | ow (fr : Bool) (ds : List D)
 | p6 (fr : Bool) (dss : List (List D))
 | oa (d : D)
 | sh (p : D -> Prop)
 | owl (l : Addr) (fr : Bool) (ds : List D)
 | od (o : DO)
 | rf (v : V)
 | tr (d : D)
 | trl (u : V) (d : D)
 | gen (q : SP)
abbrev bX := List (Option Slot)
def bS (K : Frag) (H : Hp) (Z : ax) (dss : List (List D)) (as : List Addr) : Prop := Paired (fun ds a => ∃ xs, H a = some (.lst xs) /\ aC K H Z ds xs) dss as
def et (K : Frag) (F : Fn) (H : Hp) (O : Addr -> Prop) (mine : List Addr) (v : V) : Slot -> Prop
 | .pl fr d => In K H (zn F O fr) d v
 | .ow fr ds => ∃ l xs, mine = [l] /\ v = .ref l /\ H l = some (.lst xs) /\ aC K H (zn F O fr) ds xs
 | .p6 fr dss => ∃ l as, mine = l :: as /\ v = .ref l /\ H l = some (.lst (as.map V.ref)) /\ bS K H (zn F O fr) dss as
 | .oa d => In K H ⟨true, fun a => a ∈ mine⟩ d v
 | .sh p => ∃ d, p d /\ In K H ⟨true, fun a => a ∈ mine⟩ d v
 | .owl l fr ds => ∃ xs, mine = [l] /\ v = .ref l /\ H l = some (.lst xs) /\ aC K H (zn F O fr) ds xs
 | .od o => ∃ l, mine = [l] /\ v = .ref l /\ H l = some o.ho
 | .rf u => v = u
 | .tr d => Tr K H d v mine
 | .trl u d => v = u /\ Tr K H d v mine
 | .gen q => q.p K F H O mine v
abbrev az (A : Nat -> List Addr) (a : Addr) : Prop := ∃ j, a ∈ A j
structure aW (K : Frag) (F : Fn) (H : Hp) (vs : St) (ρ : bX) (A : Nat -> List Addr) : Prop where
 same : ao F.H H
 opn : F.Z.Open F.H
 nd : ∀ i, (A i).Nodup
 one : ∀ i j a, a ∈ A i -> a ∈ A j -> i = j
 new : ∀ i a, a ∈ A i -> F.H a = none
 lst : ∀ i a, a ∈ A i -> ∃ xs : MO, H a = some xs.ho
 at' : ∀ (i : Nat) sl, ρ[i]? = some (some sl) -> ∃ v, vs[i]? = some (some v) /\ et K F H (az A) (A i) v sl
section
variable {K : Frag} {F : Fn} {H H' : Hp} {vs : St} {ρ : bX} {A : Nat -> List Addr} {O O' : Addr -> Prop} {fr : Bool}
theorem bS.carry {Z Z' : ax} {dss : List (List D)} {as : List Addr} (h : bS K H Z dss as) (k : ∀ a xs, a ∈ as -> H a = some (.lst xs) -> H' a = some (.lst xs)) (c : Carry K H Z H' Z') : bS K H' Z' dss as := by
 induction h with
 | nil => exact .nil
 | cons r t ih =>
  obtain ⟨xs, e, i⟩ := r;exact .cons ⟨xs, k _ xs (by simp) e, i.carry c⟩ (ih fun a xs ha e => k a xs (by simp [ha]) e)
theorem yI (s : ao H H') (hO : ∀ a (xs : MO), H a = some xs.ho -> ¬ O a -> ¬ O' a) : Carry K H (zn F O fr) H' (zn F O' fr) := by
 unfold zn;cases fr
 . exact .of s (fun a xs e z => ⟨z.1, hO a xs e z.2⟩) fun m => m
 . exact .of s (fun a xs e z => ⟨z.1, hO a xs e z.2⟩) fun m => m
theorem et.carry {mine : List Addr} {v : V} {sl : Slot} (h : et K F H O mine v sl) (k : ∀ a (xs : MO), a ∈ mine -> H a = some xs.ho -> H' a = some xs.ho) (c : ∀ fr, Carry K H (zn F O fr) H' (zn F O' fr)) : et K F H' O' mine v sl := by
 cases sl with
 | pl fr d => exact In.carry (c fr) h
 | ow fr ds =>
  obtain ⟨l, xs, rfl, e, hl, i⟩ := h;exact ⟨l, xs, rfl, e, k l (.l xs) (by simp) hl, i.carry (c fr)⟩
 | p6 fr dss =>
  obtain ⟨l, as, rfl, e, hl, i⟩ := h;exact ⟨l, as, rfl, e, k l (.l _) (by simp) hl, i.carry (fun a xs ha q => k a (.l xs) (by simp [ha]) q) (c fr)⟩
 | oa d => exact In.carry ⟨fun a xs e z => ⟨k a xs z e, z⟩, fun m => Bool.noConfusion (show true = false from m), (c true).t⟩ h
 | sh p =>
  obtain ⟨d, hp, i⟩ := h;exact ⟨d, hp, i.carry ⟨fun a xs e z => ⟨k a xs z e, z⟩, fun m => Bool.noConfusion (show true = false from m), (c true).t⟩⟩
 | owl l fr ds =>
  obtain ⟨xs, rfl, e, hl, i⟩ := h;exact ⟨xs, rfl, e, k l (.l xs) (by simp) hl, i.carry (c fr)⟩
 | od o =>
  obtain ⟨l, rfl, e, hl⟩ := h;exact ⟨l, rfl, e, k l (.d o) (by simp) hl⟩
 | rf u => exact h
 | tr d => exact Tr.carry (c true).t (fun a xs ha e => k a (.l xs) ha e) h
 | trl u d => exact ⟨h.1, Tr.carry (c true).t (fun a xs ha e => k a (.l xs) ha e) h.2⟩
 | gen q => exact q.carry h k c
theorem aW.grow (S : aW K F H vs ρ A) (s : ao H H') : aW K F H' vs ρ A :=
 ⟨S.same.trans s, S.opn, S.nd, S.one, S.new, fun i a ha => let ⟨xs, e⟩ := S.lst i a ha; ⟨xs, s.at e xs.nt⟩, fun i sl e => let ⟨v, a, b⟩ := S.at' i sl e; ⟨v, a, b.carry (fun a xs _ q => s.at q xs.nt) fun fr => yI s fun a xs _ n => n⟩⟩
theorem cN (S : aW K F H vs ρ A) (fr : Bool) : (zn F (az A) fr).Open H := ⟨fun a h => by
 have n : ¬ az A a := fun ⟨j, hj⟩ => by obtain ⟨xs, e⟩ := S.lst j a hj; rw [h] at e; cases e
 unfold zn;cases fr
 . exact ⟨S.opn.op a (S.same.free h), n⟩
 . exact ⟨S.same.free h, n⟩, S.same.tabs S.opn.tb⟩
theorem ar (S : aW K F H vs ρ A) (ow fr : Bool) : (vz F (az A) ow fr).Open H := by
 unfold vz;cases ow
 . exact cN S fr
 . cases fr
   . exact S.opn.same S.same
   . exact AI S.opn.tb S.same
def xK (ow fr : Bool) : Option Slot -> Option D
 | some (.pl f d) => if fr && !f then none else some d
 | some (.ow f ds) => if ow && (!fr || f) then some (.lst ds) else none
 | some (.p6 f dss) => if ow && (!fr || f) then some (.lst (dss.map .lst)) else none
 | some (.oa d) => if ow then some d else none
 | some (.sh _) => none
 | some (.owl _ _ _) => none
 | some (.od o) => if ow then some (.dct o) else none
 | some (.rf _) => none
 | some (.tr d) => if ow then some d else none
 | some (.trl _ d) => if ow then some d else none
 | some (.gen q) => q.vw ow fr
 | none => none
def view (ow fr : Bool) (ρ : bX) : List (Option D) := ρ.map (xK ow fr)
theorem m6 (op : F.Z.Open F.H) {f ow : Bool} (hf : fr = true -> f = true) : Carry K H (zn F O f) H (vz F O ow fr) := by
 refine .of (ao.refl H) (fun a xs e z => ?_) fun m => ?_
 . unfold vz zn at *;cases ow <;> cases fr <;> cases f <;> simp at hf z ⊢ <;> first
    | exact z
    | exact z.1
    | exact ⟨op a z.1, z.2⟩
    | exact op a z.1
 . unfold vz zn at *;cases ow <;> cases fr <;> cases f <;> simp at hf m ⊢ <;> exact m
theorem yH {Z Z' : ax} {dss : List (List D)} {as : List Addr} (h : bS K H Z dss as) (c : Carry K H Z H Z') (n : ∀ a ∈ as, Z'.S a) : aC K H Z' (dss.map D.lst) (as.map V.ref) := by
 induction h with
 | nil => exact ay.mpr rfl
 | cons r t ih =>
  obtain ⟨xs, e, i⟩ := r;exact ag.mpr ⟨_, _, rfl, ah.mpr ⟨_, xs, rfl, .inl ⟨e, n _ (by simp)⟩, i.carry c⟩, ih fun a ha => n a (by simp [ha])⟩
theorem v5 (op : F.Z.Open F.H) {mine : List Addr} {v : V} {sl : Slot} {ow : Bool} {d : D} (new : ∀ a ∈ mine, F.H a = none) (h : et K F H O mine v sl) (e : xK ow fr (some sl) = some d) : e9 K H (vz F O ow fr) d v := by
 have inS : ow = true -> ∀ a ∈ mine, (vz F O ow fr).S a := fun ho a ha => by
  subst ho;unfold vz;cases fr
  . exact op a (new a ha)
  . exact new a ha
 cases sl with
 | pl f d' =>
  apply In.top;change (if (fr && !f) = true then none else some d') = some d at e;by_cases q : (fr && !f) = true
  . rw [if_pos q] at e; cases e
  . rw [if_neg q] at e;cases e;refine In.carry (m6 op fun hf => ?_) h;subst hf;simpa using q
 | ow f ds =>
  apply In.top;change (if (ow && (!fr || f)) = true then some (D.lst ds) else none) = some d at e;by_cases q : (ow && (!fr || f)) = true
  . rw [if_pos q] at e;cases e;obtain ⟨l, xs, rfl, rfl, hl, i⟩ := h;simp at q;refine ah.mpr ⟨l, xs, rfl, .inl ⟨hl, inS q.1 l (by simp)⟩, i.carry (m6 op fun hf => ?_)⟩;subst hf;simpa using q.2
  . rw [if_neg q] at e; cases e
 | p6 f dss =>
  apply In.top;change (if (ow && (!fr || f)) = true then some (D.lst (dss.map D.lst)) else none) = some d at e;by_cases q : (ow && (!fr || f)) = true
  . rw [if_pos q] at e;cases e;obtain ⟨l, as, rfl, rfl, hl, i⟩ := h;simp at q;refine ah.mpr ⟨l, _, rfl, .inl ⟨hl, inS q.1 l (by simp)⟩, yH i (m6 op fun hf => ?_) fun a ha => inS q.1 a (by simp [ha])⟩;subst hf;simpa using q.2
  . rw [if_neg q] at e; cases e
 | oa d' =>
  apply In.top;change (if ow = true then some d' else none) = some d at e;by_cases q : ow = true
  . rw [if_pos q] at e;cases e;exact In.carry ⟨fun a xs e z => ⟨e, inS q a z⟩, fun m => Bool.noConfusion (show true = false from m), fun _ _ e => e⟩ h
  . rw [if_neg q] at e; cases e
 | sh p => cases e
 | owl l f ds => cases e
 | rf u => cases e
 | tr d' =>
  apply In.top;change (if ow = true then some d' else none) = some d at e;by_cases q : ow = true
  . rw [if_pos q] at e;cases e;exact Tr.iR (inS q) h
  . rw [if_neg q] at e; cases e
 | trl u d' =>
  apply In.top;change (if ow = true then some d' else none) = some d at e;by_cases q : ow = true
  . rw [if_pos q] at e;cases e;exact Tr.iR (inS q) h.2
  . rw [if_neg q] at e; cases e
 | od o =>
  apply In.top;change (if ow = true then some (D.dct o) else none) = some d at e;by_cases q : ow = true
  . rw [if_pos q] at e;cases e;obtain ⟨l, rfl, rfl, hl⟩ := h;exact aZ.mpr ⟨l, rfl, hl, inS q l (by simp)⟩
  . rw [if_neg q] at e; cases e
 | gen q => exact q.env op inS h e
theorem aW.env {σ hv : St} {hρ : bX} (S : aW K F H (σ ++ hv) (ρ ++ hρ) A) (hl : σ.length = ρ.length) (ow fr : Bool) : cy K H (vz F (az A) ow fr) σ (view ow fr ρ) := fun i d e => by
 unfold view at e;rw [getElem?_map] at e
 cases q : ρ[i]? with
 | none => rw [q] at e; cases e
 | some o =>
  rw [q] at e
  cases o with
  | none => simp [xK] at e
  | some sl =>
   have hi : i < ρ.length := (List.getElem?_eq_some_iff.mp q).1;obtain ⟨v, a, b⟩ := S.at' i sl (by rw [getElem?_append_left hi]; exact q);rw [getElem?_append_left (by omega)] at a;exact ⟨v, a, v5 S.opn (S.new i) b (by simpa using e)⟩
def aL (A : Nat -> List Addr) (i : Nat) (l : List Addr) : Nat -> List Addr := fun j => if j = i then l else A j
theorem aF {i : Nat} {l : List Addr} : aL A i l i = l := by unfold aL; rw [if_pos rfl]
theorem aS {i j : Nat} {l : List Addr} (h : j ≠ i) : aL A i l j = A j := by unfold aL; rw [if_neg h]
theorem ij {i : Nat} {l : List Addr} {H2 : Hp} (S : aW K F H vs ρ A) (k : ∀ b o, H b = some o -> y9 o = false -> b ∉ A i -> H2 b = some o) (hl : ∀ a ∈ l, a ∈ A i \/ H a = none) (fr : Bool) : Carry K H (zn F (az A) fr) H2 (zn F (az (aL A i l)) fr) := by
 have notI : ∀ {a : Addr} {o : HO}, H a = some o -> (∀ xs : MO, o ≠ xs.ho) -> a ∉ A i := fun {a o} e n z => by
  obtain ⟨xs, e'⟩ := S.lst i a z;rw [e] at e';exact n xs (Option.some.inj e')
 refine ⟨fun a xs e z => ?_, fun m => ⟨?_, fun a xs e => ?_⟩, fun a xs e => ?_⟩
 . have key : ¬ az A a -> H2 a = some xs.ho /\ ¬ az (aL A i l) a := fun n => ⟨k a _ e xs.nt fun z => n ⟨i, z⟩, fun ⟨k', hk⟩ => by
    by_cases q2 : k' = i
    . rw [q2, aF] at hk;rcases hl a hk with z | z
      . exact n ⟨i, z⟩
      . rw [e] at z; cases z
    . rw [aS q2] at hk;exact n ⟨k', hk⟩⟩
   unfold zn at z ⊢;cases fr
   . exact ⟨(key z.2).1, z.1, (key z.2).2⟩
   . exact ⟨(key z.2).1, z.1, (key z.2).2⟩
 . unfold zn at m ⊢;cases fr
   . exact m
   . exact m
 . rcases e with ⟨o, e⟩ | e
   . exact .inl ⟨o, k a _ e rfl (notI e fun xs z => xs.Eb z.symm)⟩
   . exact .inr e
 . exact k a _ e rfl (notI e fun xs z => xs.vj z.symm)
theorem aW.re {i : Nat} {v : V} {sl : Slot} {l : List Addr} {H2 : Hp} (S : aW K F H vs ρ A) (hi : i < ρ.length) (hiv : i < vs.length) (sm : ao F.H H2) (k : ∀ b o, H b = some o -> y9 o = false -> b ∉ A i -> H2 b = some o) (nd : l.Nodup)
 (hl : ∀ a ∈ l, (a ∈ A i \/ H a = none) /\ ∃ xs : MO, H2 a = some xs.ho) (h : et K F H2 (az (aL A i l)) l v sl) : aW K F H2 (vs.set i (some v)) (ρ.set i (some sl)) (aL A i l) := by
 have disj : ∀ j a, j ≠ i -> a ∈ A j -> a ∉ l := fun j a hj ha hal => by
  rcases (hl a hal).1 with z | z
  . exact hj (S.one j i a ha z)
  . obtain ⟨xs, e⟩ := S.lst j a ha; rw [z] at e; cases e
 refine ⟨sm, S.opn, fun j => ?_, fun j k' a hj hk => ?_, fun j a ha => ?_, fun j a ha => ?_, fun j sl' e => ?_⟩
 . by_cases q : j = i
   . rw [q, aF]; exact nd
   . rw [aS q]; exact S.nd j
 . by_cases q : j = i
   . by_cases q2 : k' = i
     . rw [q, q2]
     . rw [q, aF] at hj; rw [aS q2] at hk;exact absurd hj (disj k' a q2 hk)
   . rw [aS q] at hj;by_cases q2 : k' = i
     . rw [q2, aF] at hk;exact absurd hk (disj j a q hj)
     . rw [aS q2] at hk;exact S.one j k' a hj hk
 . by_cases q : j = i
   . rw [q, aF] at ha;rcases (hl a ha).1 with z | z
     . exact S.new i a z
     . exact S.same.free z
   . rw [aS q] at ha; exact S.new j a ha
 . by_cases q : j = i
   . rw [q, aF] at ha; exact (hl a ha).2
   . rw [aS q] at ha;obtain ⟨xs, e⟩ := S.lst j a ha;exact ⟨xs, k a _ e xs.nt fun z => q (S.one j i a ha z)⟩
 . by_cases q : j = i
   . subst q;rw [List.getElem?_set_self hi] at e;cases e;exact ⟨v, by rw [List.getElem?_set_self hiv], by rw [aF]; exact h⟩
   . rw [List.getElem?_set_ne (Ne.symm q)] at e;obtain ⟨w, a, b⟩ := S.at' j sl' e;refine ⟨w, by rw [List.getElem?_set_ne (Ne.symm q)]; exact a, ?_⟩;rw [aS q];exact b.carry (fun a xs ha e => k a _ e xs.nt fun z => q (S.one j i a ha z)) fun fr => ij S k (fun a ha => (hl a ha).1) fr
theorem aW.put {i : Nat} {v : V} {sl : Slot} {l : List Addr} {H2 : Hp} (S : aW K F H vs ρ A) (hi : i < ρ.length) (hiv : i < vs.length) (s : ao H H2) (nd : l.Nodup) (hl : ∀ a ∈ l, H a = none /\ ∃ xs : MO, H2 a = some xs.ho)
 (h : et K F H2 (az (aL A i l)) l v sl) : aW K F H2 (vs.set i (some v)) (ρ.set i (some sl)) (aL A i l) := S.re hi hiv (S.same.trans s) (fun b o e n _ => s.get b o e n) nd (fun a ha => ⟨.inr (hl a ha).1, (hl a ha).2⟩) h
theorem oe {i : Nat} : Carry K H (zn F (az A) fr) H (zn F (az (aL A i [])) fr) := by
 have n : ∀ {P : Prop} {a : Addr}, P /\ ¬ az A a -> P /\ ¬ az (aL A i []) a := fun {P a} z => ⟨z.1, fun ⟨k, hk⟩ => by
  by_cases q : k = i
  . rw [q, aF] at hk; simp at hk
  . rw [aS q] at hk; exact z.2 ⟨k, hk⟩⟩
 refine .of (ao.refl _) (fun a xs e z => ?_) fun m => ?_
 . unfold zn at z ⊢;cases fr
   . exact n z
   . exact n z
 . unfold zn at m ⊢;cases fr
   . exact m
   . exact m
end
structure ft where
 nx : bX -> Prop
 rt : D -> Prop
 bk : bX -> Prop := fun _ => False
 ct : bX -> Prop := fun _ => False
 rtT : D -> Prop := fun _ => False
 rtM : bX -> D -> Prop := fun _ _ => False
 rtS : bX -> (Nat -> List Addr) -> Hp -> V -> Prop := fun _ _ _ _ => False
def mM (K : Frag) (F : Fn) (hv : St) (hρ : bX) (N : bX -> Prop) (σ : St) (H : Hp) : Prop := ∃ ρ A, σ.length = ρ.length /\ aW K F H (σ ++ hv) (ρ ++ hρ) A /\ N ρ
structure Fits (K : Frag) (F : Fn) (hv : St) (hρ : bX) (Q : ft) (Q' : Ends) : Prop where
 hl : hv.length = hρ.length
 nx : ∀ σ H, mM K F hv hρ Q.nx σ H -> Q'.nx σ H
 bk : ∀ σ H, mM K F hv hρ Q.bk σ H -> Q'.bk σ H
 ct : ∀ σ H, mM K F hv hρ Q.ct σ H -> Q'.ct σ H
 rt : ∀ v d H, ao F.H H -> In K H (out F.m F.Z F.H) d v -> Q.rt d -> Q'.rt v H
 rtT : ∀ v d H as, ao F.H H -> Tr K H d v as -> as.Nodup -> (∀ a ∈ as, F.H a = none) -> Q.rtT d -> Q'.rt v H
 rtM : ∀ σ H ρ A v d as, σ.length = ρ.length -> aW K F H (σ ++ hv) (ρ ++ hρ) A -> Tr K H d v as -> as.Nodup -> (∀ a ∈ as, F.H a = none) -> (∀ i a, a ∈ A i -> a ∉ as) -> Q.rtM ρ d -> Q'.rt v H
 rtS : ∀ σ H ρ A v, σ.length = ρ.length -> aW K F H (σ ++ hv) (ρ ++ hρ) A -> Q.rtS ρ A H v -> Q'.rt v H
def tS (K : Frag) (F : Fn) (ρ : bX) (Q : ft) : TS := fun Q' σ H => ∃ hv hρ A, σ.length = ρ.length /\ aW K F H (σ ++ hv) (ρ ++ hρ) A /\ Fits K F hv hρ Q Q'
def SD (X : Cx) (F : Fn) (st : List Stmt) (ρ : bX) (Q : ft) : Prop := lJ X st (tS X.K F ρ Q)
def Ge (X : Cx) (F : Fn) (st : Stmt) (ρ : bX) (Q : ft) : Prop := PS X st (tS X.K F ρ Q)
theorem PS.mono {X : Cx} {st : Stmt} {t t' : TS} (h : PS X st t) (k : ∀ Q σ H, t' Q σ H -> t Q σ H) : PS X st t' := fun pins s σ H Q I q => h pins s σ H Q I (k Q σ H q)
theorem lJ.mono {X : Cx} {st : List Stmt} {t t' : TS} (h : lJ X st t) (k : ∀ Q σ H, t' Q σ H -> t Q σ H) : lJ X st t' := fun pins s σ H Q I q => h pins s σ H Q I (k Q σ H q)
section
variable {X : Cx} {F : Fn} {ρ : bX} {Q : ft} {st : Stmt} {rest body orelse : List Stmt} {e a c : Expr} {d : D} {pos p : Pos} {i : Nat} {x : Str} {fr m1 : Bool}
theorem Fits.step {K : Frag} {hv : St} {hρ : bX} {Q' : Ends} {N : bX -> Prop} {n : St -> Hp -> Prop} (f : Fits K F hv hρ Q Q') (h : ∀ σ H, mM K F hv hρ N σ H -> n σ H) : Fits K F hv hρ { Q with nx := N } { Q' with nx := n } := ⟨f.hl, h, f.bk, f.ct, f.rt, f.rtT, f.rtM, f.rtS⟩
theorem aG (h : Q.nx ρ) : SD X F [] ρ Q := lJ.mono uF fun Q' σ H z0 => d8 z0 fun hv hρ A hl S f => f.nx σ H ⟨ρ, A, hl, S, h⟩
theorem fV {N : bX -> Prop} (h1 : Ge X F st ρ { Q with nx := N }) (h2 : ∀ ρ', N ρ' -> SD X F rest ρ' Q) : SD X F (st :: rest) ρ Q :=
 lJ.mono (wR (u := fun Q' σ H => ∃ ρ', N ρ' /\ tS X.K F ρ' Q Q' σ H) h1 fun pins s σ H Q' I ⟨ρ', n, t⟩ => h2 ρ' n pins s σ H Q' I t) fun Q' σ H ⟨hv, hρ, A, hl, S, f⟩ =>
  ⟨hv, hρ, A, hl, S, f.step fun σ' H' ⟨ρ', A', hl', S', n⟩ => ⟨ρ', n, hv, hρ, A', hl', S', f⟩⟩
theorem aM {ρ' : bX} (h1 : Ge X F st ρ { Q with nx := fun r => r = ρ' }) (h2 : SD X F rest ρ' Q) : SD X F (st :: rest) ρ Q := fV h1 fun r e => by subst e; exact h2
theorem aH {α : Type} {l r : List α} {i : Nat} {v : α} (h : i < l.length) : (l ++ r).set i v = l.set i v ++ r := by
 rw [List.set_append_left _ _ h]
theorem um {K : Frag} {hv : St} {hρ : bX} {σ : St} {H H1 : Hp} {A : Nat -> List Addr} {v : V} (hl : σ.length = ρ.length) (S : aW K F H (σ ++ hv) (ρ ++ hρ) A) (hi : i < ρ.length) (s : ao H H1) (h : In K H1 (zn F (az A) fr) d v) :
 aW K F H1 (σ.set i (some v) ++ hv) (ρ.set i (some (.pl fr d)) ++ hρ) (aL A i []) := by
 rw [<- aH (by omega), <- aH hi];exact S.put (by rw [List.length_append]; omega) (by rw [List.length_append]; omega) s List.nodup_nil (fun a ha => by simp at ha) (In.carry oe h)
theorem kX {K : Frag} {hv : St} {hρ : bX} {σ : St} {H H1 : Hp} {A : Nat -> List Addr} {v : V} (hl : σ.length = ρ.length) (S : aW K F H (σ ++ hv) (ρ ++ hρ) A) (hi : i < ρ.length) (s : ao H H1) (h : In K H1 (zn F (az A) fr) d v) :
 mM K F hv hρ (fun r => r = ρ.set i (some (.pl fr d))) (σ.set i (some v)) H1 := ⟨_, aL A i [], by simp [hl], um hl S hi s h, rfl⟩
theorem eD (i : Nat) {x : Str} {d : D} (he : E X true (view true false ρ) e d) (hr : SD X F rest (ρ.set i (some (.pl true d))) Q) (hN : X.N.Nodup) (hi : X.N[i]? = some x := by rfl)
 (hx : Loc X.env.scope x := by first | exact Or.inl rfl | exact Or.inr rfl) (hρ : i < ρ.length := by exact of_decide_eq_true rfl) (hs : swapsWith e (some (.Name x p)) pos.line X.env = pure false := by rfl) (hf : HfX X x := by first | exact .inl rfl | exact .inr rfl) :
 SD X F (.Assign [.Name x p] e pos :: rest) ρ Q :=
 aM (PS.mono (gi hN hi hx he hs hf) fun Q' σ H z0 => d8 z0 fun hv hρ' A hl S f => ⟨_, ar S true false, S.env hl true false, fun v H1 s1 i1 => f.nx _ H1 (kX hl S hρ s1 (In.up (cN S true) i1))⟩) hr
theorem dq (i : Nat) {x : Str} {d : D} (he : E X m1 (view true false ρ) e d) (fl : d.flat = true) (hr : SD X F rest (ρ.set i (some (.pl true d))) Q) (hN : X.N.Nodup) (hi : X.N[i]? = some x := by rfl)
 (hx : Loc X.env.scope x := by first | exact Or.inl rfl | exact Or.inr rfl) (hρ : i < ρ.length := by exact of_decide_eq_true rfl) (hs : swapsWith e (some (.Name x p)) pos.line X.env = pure false := by rfl) (hf : HfX X x := by first | exact .inl rfl | exact .inr rfl) :
 SD X F (.Assign [.Name x p] e pos :: rest) ρ Q := eD i (he.flat fl) hr hN hi hx hρ hs hf
theorem bg (fr : Bool) {d : D} (he : E X m1 (view true fr ρ) e d) (h : Q.rt d) (hm : F.m = true -> fr = true \/ m1 = true := by intro h; first | exact .inl rfl | exact .inr rfl | cases h) : SD X F (.Return (some e) pos :: rest) ρ Q :=
 fV (N := fun _ => False) (PS.mono (pO he) fun Q' σ H z0 => d8 z0 fun hv hρ A hl S f => ⟨_, ar S true fr, S.env hl true fr, fun v H1 s1 i1 => f.rt v d H1 (S.same.trans s1) (by
  have key : (F.m = true -> In X.K H1 (nw F.H) d v) /\ In X.K H1 F.Z d v := by
   cases m1 with
   | true =>
    have i2 : In X.K H1 (nw F.H) d v := In.later (m := true) (Z := F.Z) S.same i1;exact ⟨fun _ => i2, i2.up S.opn⟩
   | false =>
    cases fr with
    | true =>
     have i2 : In X.K H1 (nw F.H) d v := i1;exact ⟨fun _ => i2, i2.up S.opn⟩
    | false =>
     have i2 : In X.K H1 F.Z d v := i1;exact ⟨fun h => (hm h).elim (fun z => (nomatch z)) (fun z => (nomatch z)), i2⟩
  cases hmm : F.m with
  | false => exact key.2
  | true => exact key.1 hmm) h⟩) fun _ n => n.elim
theorem ed {b : Bool} (hc : T X (view true false ρ) c b) (h1 : b = true -> SD X F body ρ { Q with nx := fun r => SD X F rest r Q }) (h2 : b = false -> SD X F orelse ρ { Q with nx := fun r => SD X F rest r Q }) : SD X F (.If c body orelse pos :: rest) ρ Q := by
 refine fV (N := fun r => SD X F rest r Q) ?_ fun _ h => h
 cases b with
 | true =>
  exact PS.mono (lZ hc (h1 rfl) (cY (sts := orelse))) fun Q' σ H z0 => d8 z0 fun hv hρ A hl S f => ⟨_, ar S true false, S.env hl true false, fun H1 s1 => by
   refine qT ?_; exact ⟨hv, hρ, A, hl, S.grow s1, f⟩⟩
 | false =>
  exact PS.mono (lZ hc (cY (sts := body)) (h2 rfl)) fun Q' σ H z0 => d8 z0 fun hv hρ A hl S f => ⟨_, ar S true false, S.env hl true false, fun H1 s1 => by
   refine mG ?_; exact ⟨hv, hρ, A, hl, S.grow s1, f⟩⟩
theorem xb (ρ1 : bX) {b : Bool} (hc : T X (view true false ρ) c b) (h1 : b = true -> SD X F body ρ { Q with nx := fun r => r = ρ1 }) (h2 : b = false -> SD X F orelse ρ { Q with nx := fun r => r = ρ1 }) (h3 : SD X F rest ρ1 Q) : SD X F (.If c body orelse pos :: rest) ρ Q := by
 refine aM (ρ' := ρ1) ?_ h3
 cases b with
 | true =>
  exact PS.mono (lZ hc (h1 rfl) (cY (sts := orelse))) fun Q' σ H z0 => d8 z0 fun hv hρ A hl S f => ⟨_, ar S true false, S.env hl true false, fun H1 s1 => by
   refine qT ?_; exact ⟨hv, hρ, A, hl, S.grow s1, f⟩⟩
 | false =>
  exact PS.mono (lZ hc (cY (sts := body)) (h2 rfl)) fun Q' σ H z0 => d8 z0 fun hv hρ A hl S f => ⟨_, ar S true false, S.env hl true false, fun H1 s1 => by
   refine mG ?_; exact ⟨hv, hρ, A, hl, S.grow s1, f⟩⟩
theorem uM (he : E X m1 (view true false ρ) e d) (hr : SD X F rest ρ Q) (hs : swapsWith e none pos.line X.env = pure false := by rfl) : SD X F (.Expr e pos :: rest) ρ Q :=
 aM (PS.mono (bU he hs) fun Q' σ H z0 => d8 z0 fun hv hρ A hl S f => ⟨_, ar S true false, S.env hl true false, fun v H1 s1 i1 => f.nx _ H1 ⟨ρ, A, hl, S.grow s1, rfl⟩⟩) hr
def Cy (fr : Bool) (cG : List D) : bX := cG.map fun d => some (.pl fr d)
theorem aW.hide {K : Frag} {H : Hp} {σ hv : St} {r hρ : bX} {A : Nat -> List Addr} {cG : List D} {vs : List V} (S : aW K F H (σ ++ hv) (r ++ hρ) A) (h1 : σ.length = r.length) (h2 : hv.length = hρ.length) (iz : aC K H (zn F (az A) fr) cG vs) :
 aW K F H (σ ++ (hv ++ vs.map some)) (r ++ (hρ ++ Cy fr cG)) A := by
 refine ⟨S.same, S.opn, S.nd, S.one, S.new, S.lst, fun i sl e => ?_⟩;rw [<- List.append_assoc] at e ⊢;by_cases hi : i < (r ++ hρ).length
 . rw [getElem?_append_left hi] at e;rw [getElem?_append_left (by rw [List.length_append] at hi ⊢; omega)];exact S.at' i sl e
 . rw [getElem?_append_right (by omega)] at e;rw [getElem?_append_right (by rw [List.length_append] at hi ⊢; omega)];have hle : (σ ++ hv).length = (r ++ hρ).length := by rw [List.length_append, List.length_append]; omega
   rw [hle];unfold Cy at e;rw [getElem?_map] at e
   cases q : cG[i - (r ++ hρ).length]? with
   | none => rw [q] at e; cases e
   | some d =>
    rw [q] at e;have e' : some (Slot.pl fr d) = some sl := by simpa using e
    cases e';obtain ⟨v, a, b⟩ := iz.get q;exact ⟨v, by rw [getElem?_map, a]; rfl, b⟩
theorem aW.cG {K : Frag} {H : Hp} {σ hv : St} {r hρ : bX} {A : Nat -> List Addr} {cG : List D} {vs : List V} (S : aW K F H (σ ++ (hv ++ vs.map some)) (r ++ (hρ ++ Cy fr cG)) A) (h1 : σ.length = r.length) (h2 : hv.length = hρ.length) (hsv : cG.length = vs.length) :
 aC K H (zn F (az A) fr) cG vs := by
 refine aC.of_get hsv fun i d v e1 e2 => ?_;have hle : (σ ++ hv).length = (r ++ hρ).length := by rw [List.length_append, List.length_append]; omega
 obtain ⟨w, a, b⟩ := S.at' ((r ++ hρ).length + i) (.pl fr d) (by
  rw [<- List.append_assoc, getElem?_append_right (by omega), Nat.add_sub_cancel_left];unfold Cy;rw [getElem?_map, e1]; rfl)
 rw [<- List.append_assoc, getElem?_append_right (by omega), hle, Nat.add_sub_cancel_left, getElem?_map, e2] at a;cases a;exact b
theorem aW.om {K : Frag} {H : Hp} {σ hv e1 : St} {r hρ e2 : bX} {A : Nat -> List Addr} (S : aW K F H (σ ++ (hv ++ e1)) (r ++ (hρ ++ e2)) A) (h1 : σ.length = r.length) (h2 : hv.length = hρ.length) : aW K F H (σ ++ hv) (r ++ hρ) A := by
 refine ⟨S.same, S.opn, S.nd, S.one, S.new, S.lst, fun i sl e => ?_⟩;have hi : i < (r ++ hρ).length := (List.getElem?_eq_some_iff.mp e).1;obtain ⟨v, a, b⟩ := S.at' i sl (by rw [<- List.append_assoc, getElem?_append_left hi]; exact e);rw [<- List.append_assoc, getElem?_append_left (by rw [List.length_append] at hi ⊢; omega)] at a;exact ⟨v, a, b⟩
end
def De (K : Frag) (m : Bool) (G : List D -> D -> Prop) : Sp := fun vs H Q _ => ∃ (Z : ax) (ds : List D) (d : D), Z.Open H /\ aC K H Z ds vs /\ G ds d /\ ∀ v H', ao H H' -> In K H' (out m Z H) d v -> Q v H'
structure Def (P : Program) (w : World) (K : Frag) (mg : GN) (base : Heap) (k : Nat) (x : Str) (m : Bool) (G : List D -> D -> Prop) : Prop where
 ex : ∃ f fd ps, bR P w K mg base fS k f fd ps (De K m G) /\ mg x = some (.ref f) /\ keepIn K (.ref f) = true /\ Binds K fd ps []
section
variable {X : Cx} {ρ : List (Option D)} {m : Bool} {e : Expr} {es : List Expr} {ds : List D} {d : D} {pos p : Pos} {k : Nat} {x : Str} {G : List D -> D -> Prop}
theorem bf (Df : Def X.prog X.w X.K X.mg X.base k x m G) (hr : bo k X.A) (ha : EA X ρ (e :: es) ds) (h : G ds d) (hg : Gl X x := by rfl) (hdb : NdX x := by decide)
 (he : starEach (e :: es) X.env = (false, eval e X.env) :: starEach es X.env := by rfl) (hpl : (backTo pos (starEach es X.env)).any (·.1) = false := by rfl) : E X m ρ (.Call (.Name x p) (e :: es) [] pos) d := by
 obtain ⟨f, fd, ps, a, b, c, dd⟩ := Df.ex;exact PE.mono (oO a hr hg b c dd .nil jF ha hdb he hpl) fun σ H Q z0 => aU z0 fun Z oz en k => ⟨Z, oz, en, fun vs H1 s1 i1 => by
  show De X.K m G (vs ++ []) H1 Q E0;rw [append_nil];exact ⟨Z, ds, d, oz.same s1, i1, h, fun v H' s' i => k v H' (s1.trans s') (i.later s1)⟩⟩
end
def gZ (N : GV) (ds : List D) : bX := ds.map (fun d => some (.pl false d)) ++ List.replicate (N.length - ds.length) none
theorem ra {K : Frag} {Z : ax} {H : Hp} {m : Bool} {N : GV} {ds : List D} {vs : List V} (oz : Z.Open H) (h : aC K H Z ds vs) : aW K ⟨m, Z, H⟩ H (L2.start N vs ++ []) (gZ N ds ++ []) (fun _ => []) := by
 refine ⟨ao.refl H, oz, fun _ => List.nodup_nil, fun i j a ha => by simp at ha, fun i a ha => by simp at ha, fun i a ha => by simp at ha, fun i sl e => ?_⟩;rw [append_nil] at e ⊢;unfold gZ at e;unfold L2.start;by_cases hi : i < ds.length
 . rw [getElem?_append_left (by simpa using hi), getElem?_map] at e;have hd : ds[i]? = some ds[i] := by simp [hi]
   rw [hd] at e;have e' : some (Slot.pl false ds[i]) = some sl := by simpa using e
   cases e';obtain ⟨v, a, b⟩ := h.get hd;have hv : i < vs.length := (List.getElem?_eq_some_iff.mp a).1;refine ⟨v, by rw [getElem?_append_left (by simpa using hv), getElem?_map, a]; rfl, ?_⟩;exact In.carry (Z' := ⟨Z.m, fun a => Z.S a /\ ¬ az (fun _ => []) a⟩) (Carry.of (ao.refl H) (fun a xs e z => ⟨z, fun ⟨j, hj⟩ => by simp at hj⟩) fun m => m) b
 . rw [getElem?_append_right (by simpa using hi), List.getElem?_replicate] at e;split at e <;> cases e
section
variable {P : Program} {w : World} {K : Frag} {mg : GN} {base : Heap}
theorem Gh {x qual : Str} {st : Stmt} {f : Addr} {fd : FuncData} {N ps : GV} {k : Nat} {m : Bool} {G : List D -> D -> Prop} (Fx : fo K x qual st f fd) (S : aD N ps (af st))
 (hlen : ∀ ds d, G ds d -> ds.length = ps.length)
 (body : ∀ (cdv : Value) (A : Around) (outer : List Env) (s : Shared) (H : Hp) (E : XK) (Z : ax) (ds : List D) (d : D), bo k (A.deeper (envOfC qual (af st) s.heap.objs.size f cdv)) -> G ds d ->
  SD (h9 fS P w K mg base N qual (af st) f cdv A outer s H E).uj ⟨m, Z, H⟩ (aY st) (gZ N ds) { nx := fun _ => d = .non, rt := fun d' => d' = d }) : bR P w K mg base fS (k + 1) f fd ps (De K m G) := by
 refine Fx.ok S (fun vs H Q E ⟨Z, ds, d, oz, i, g, kk⟩ => ?_) (fun cdv A outer s H vs Q E hr ⟨Z, ds, d, oz, i, g, kk⟩ => ?_)
 . rw [<- i.length]; exact hlen ds d g
 . refine ⟨_, body cdv A outer s H E Z ds d hr g, [], [], fun _ => [], ?_, ra oz i, ⟨rfl, fun σ H' ⟨r, A', hl, S', e⟩ => ?_, fun σ H' ⟨r, A', hl, S', e⟩ => e.elim, fun σ H' ⟨r, A', hl, S', e⟩ => e.elim, fun v d' H' s' i' e => ?_, fun _ _ _ _ _ _ _ _ e => e.elim, fun _ _ _ _ _ _ _ _ _ _ _ _ _ e => e.elim, fun _ _ _ _ _ _ _ e => e.elim⟩⟩
   . have := i.length;simp [L2.start, gZ]; omega
   . subst e;exact kk .non H' S'.same (ba.mpr rfl)
   . subst e;exact kk v H' s' i'
theorem cP {x qual : Str} {st : Stmt} {f : Addr} {fd : FuncData} {N ps : GV} {k : Nat} {m : Bool} {G : List D -> D -> Prop} (Fx : fo K x qual st f fd) (S : aD N ps (af st)) (hmg : mg x = some (.ref f)) (hb : Binds K fd ps [])
 (hlen : ∀ ds d, G ds d -> ds.length = ps.length)
 (body : ∀ (cdv : Value) (A : Around) (outer : List Env) (s : Shared) (H : Hp) (E : XK) (Z : ax) (ds : List D) (d : D), bo k (A.deeper (envOfC qual (af st) s.heap.objs.size f cdv)) -> G ds d ->
  SD (h9 fS P w K mg base N qual (af st) f cdv A outer s H E).uj ⟨m, Z, H⟩ (aY st) (gZ N ds) { nx := fun _ => d = .non, rt := fun d' => d' = d }) : Def P w K mg base (k + 1) x m G := ⟨f, fd, ps, Gh Fx S hlen body, hmg, Fx.kp, hb⟩
def CH (ds : List D) (d : D) : Prop := ∃ ns : List Int, ns.length <= 63 /\ ds = [.lst (ns.map D.int)] /\ d = .bl true
def qC (K : Frag) : Sp := fun vs H Q _ => ∃ (a : Addr) (ns : List Int), vs = [.ref a] /\ eP K H a (ns.map V.int) /\ ns.length <= 63 /\ TabsOk H /\ ∀ H', Q (.bl true) H'
theorem wZ {H : Hp} {vs : List V} {Q : VK} {E : XK} (h : qC K vs H Q E) : De K false CH vs H Q E := by
 obtain ⟨a, ns, rfl, hS, hl, tb, q⟩ := h;refine ⟨BU, [.lst (ns.map D.int)], .bl true, vK tb, aC.one (ah.mpr ⟨a, _, rfl, ?_, rg ns⟩), ⟨ns, hl, rfl, rfl⟩, fun v H' s i => ?_⟩
 . rcases hS with (h | h) | h
   . exact .inl ⟨h, trivial⟩
   . exact .inr ⟨rfl, .inl h⟩
   . exact .inr ⟨rfl, .inr h⟩
 . rw [bp.mp i]; exact q H'
theorem CZ {k : Nat} {f : Addr} {fd : FuncData} {ps : GV} (h : bR P w K mg base fS k f fd ps (De K false CH)) : bR P w K mg base fS k f fd ps (qC K) := h.imp fun _ _ _ _ q => wZ q
end
section
variable {X : Cx} {F : Fn} {ρ : bX} {Q : ft} {rest : List Stmt} {e : Expr} {d : D} {pos p : Pos} {x : Str} {fr m1 : Bool} {ds : List D} {dss : List (List D)}
theorem eL {a : Addr} : [a].Nodup := by simp
theorem jd (i : Nat) {x : Str} {ds : List D} (he : E X true (view true false ρ) e (.lst ds)) (fl : aV ds = true) (hr : SD X F rest (ρ.set i (some (.ow true ds))) Q) (hN : X.N.Nodup) (hi : X.N[i]? = some x := by rfl)
 (hx : Loc X.env.scope x := by first | exact Or.inl rfl | exact Or.inr rfl) (hρ : i < ρ.length := by exact of_decide_eq_true rfl) (hs : swapsWith e (some (.Name x p)) pos.line X.env = pure false := by rfl) (hf : HfX X x := by first | exact .inl rfl | exact .inr rfl) :
 SD X F (.Assign [.Name x p] e pos :: rest) ρ Q :=
 aM (PS.mono (gi hN hi hx he hs hf) fun Q' σ H z0 => d8 z0 fun hv hρ' A hl S f => ⟨_, ar S true false, S.env hl true false, fun v H1 s1 i1 => by
  obtain ⟨l, xs, rfl, at', j⟩ := ah.mp i1;obtain ⟨e1, e2⟩ : H1 l = some (.lst xs) /\ H l = none := by
   rcases at' with z | z
   . exact z
   . exact absurd z.1 (by simp [out, nw])
  refine f.nx _ H1 ⟨_, aL A i [l], by simp [hl], ?_, rfl⟩;rw [<- aH (by omega), <- aH hρ];exact S.put (by rw [List.length_append]; omega) (by rw [List.length_append]; omega) s1 eL (fun a ha => by
   have : a = l := by simpa using ha
   subst this;exact ⟨e2, .l xs, e1⟩) ⟨l, xs, rfl, rfl, e1, j.cT fl⟩⟩) hr
theorem AF (i : Nat) {x : Str} (he : E X true (view true false ρ) e (.lst [])) (hr : SD X F rest (ρ.set i (some (.p6 true []))) Q) (hN : X.N.Nodup) (hi : X.N[i]? = some x := by rfl)
 (hx : Loc X.env.scope x := by first | exact Or.inl rfl | exact Or.inr rfl) (hρ : i < ρ.length := by exact of_decide_eq_true rfl) (hs : swapsWith e (some (.Name x p)) pos.line X.env = pure false := by rfl) (hf : HfX X x := by first | exact .inl rfl | exact .inr rfl) :
 SD X F (.Assign [.Name x p] e pos :: rest) ρ Q :=
 aM (PS.mono (gi hN hi hx he hs hf) fun Q' σ H z0 => d8 z0 fun hv hρ' A hl S f => ⟨_, ar S true false, S.env hl true false, fun v H1 s1 i1 => by
  obtain ⟨l, xs, rfl, at', j⟩ := ah.mp i1;cases ay.mp j;obtain ⟨e1, e2⟩ : H1 l = some (.lst []) /\ H l = none := by
   rcases at' with z | z
   . exact z
   . exact absurd z.1 (by simp [out, nw])
  refine f.nx _ H1 ⟨_, aL A i [l], by simp [hl], ?_, rfl⟩;rw [<- aH (by omega), <- aH hρ];exact S.put (by rw [List.length_append]; omega) (by rw [List.length_append]; omega) s1 eL (fun a ha => by
   have : a = l := by simpa using ha
   subst this;exact ⟨e2, .l _, e1⟩) ⟨l, [], rfl, rfl, e1, .nil⟩⟩) hr
theorem xY (i : Nat) {x : Str} (he : E X true (view true false ρ) e (.lst [.lst []])) (hr : SD X F rest (ρ.set i (some (.p6 true [[]]))) Q) (hN : X.N.Nodup) (hi : X.N[i]? = some x := by rfl)
 (hx : Loc X.env.scope x := by first | exact Or.inl rfl | exact Or.inr rfl) (hρ : i < ρ.length := by exact of_decide_eq_true rfl) (hs : swapsWith e (some (.Name x p)) pos.line X.env = pure false := by rfl) (hf : HfX X x := by first | exact .inl rfl | exact .inr rfl) :
 SD X F (.Assign [.Name x p] e pos :: rest) ρ Q :=
 aM (PS.mono (gi hN hi hx he hs hf) fun Q' σ H z0 => d8 z0 fun hv hρ' A hl S f => ⟨_, ar S true false, S.env hl true false, fun v H1 s1 i1 => by
  obtain ⟨l, xs, rfl, at', j⟩ := ah.mp i1;obtain ⟨w, r, rfl, iw, jr⟩ := ag.mp j;cases ay.mp jr;obtain ⟨a, ys, rfl, at2, j2⟩ := ah.mp iw;cases ay.mp j2;obtain ⟨e1, e2⟩ : H1 l = some (.lst [.ref a]) /\ H l = none := by
   rcases at' with z | z
   . exact z
   . exact absurd z.1 (by simp [out, nw])
  obtain ⟨e3, e4⟩ : H1 a = some (.lst []) /\ H a = none := by
   rcases at2 with z | z
   . exact z
   . exact absurd z.1 (by simp [out, nw])
  have nla : l ≠ a := dF e1 e3 (by intro z; cases z);refine f.nx _ H1 ⟨_, aL A i [l, a], by simp [hl], ?_, rfl⟩;rw [<- aH (by omega), <- aH hρ];exact S.put (by rw [List.length_append]; omega) (by rw [List.length_append]; omega) s1 (by simp [nla]) (fun b hb => by
   rcases mem_cons.mp hb with rfl | hb
   . exact ⟨e2, .l _, e1⟩
   . have : b = a := by simpa using hb
     subst this;exact ⟨e4, .l _, e3⟩) ⟨l, [a], rfl, rfl, e1, .cons ⟨[], e3, ay.mpr rfl⟩ .nil⟩⟩) hr
theorem bG {α : Type} {l : List α} {i : Nat} {v : α} (h : l[i]? = some v) : l.set i v = l := by
 obtain ⟨hi, e⟩ := List.getElem?_eq_some_iff.mp h;rw [<- e, List.set_getElem_self]
theorem aW.ow {K : Frag} {H : Hp} {σ hv : St} {hρ : bX} {A : Nat -> List Addr} {i : Nat} (S : aW K F H (σ ++ hv) (ρ ++ hρ) A) (hl : σ.length = ρ.length) (h : ρ[i]? = some (some (.ow fr ds))) :
 ∃ l xs, σ[i]? = some (some (.ref l)) /\ A i = [l] /\ H l = some (.lst xs) /\ aC K H (zn F (az A) fr) ds xs := by
 have hi : i < ρ.length := (List.getElem?_eq_some_iff.mp h).1;obtain ⟨v, a, l, xs, e1, rfl, e2, j⟩ := S.at' i _ (by rw [getElem?_append_left hi]; exact h);rw [getElem?_append_left (by omega)] at a;exact ⟨l, xs, a, e1, e2, j⟩
theorem rV {K : Frag} {hv : St} {hρ : bX} {σ : St} {H : Hp} {A : Nat -> List Addr} {i : Nat} {l : Addr} {xs ys : List V} {es : List D} (hl : σ.length = ρ.length) (S : aW K F H (σ ++ hv) (ρ ++ hρ) A) (h : σ[i]? = some (some (.ref l))) (hA : A i = [l]) (hx : H l = some (.lst xs))
 (j : aC K H (zn F (az A) fr) es ys) : mM K F hv hρ (fun r => r = ρ.set i (some (.ow fr es))) σ (upd H l (.lst ys)) := by
 have hi : i < σ.length := (List.getElem?_eq_some_iff.mp h).1;refine ⟨_, aL A i [l], by simp [hl], ?_, rfl⟩;have key := S.re (i := i) (v := .ref l) (sl := .ow fr es) (l := [l]) (H2 := upd H l (.lst ys)) (by rw [List.length_append]; omega) (by rw [List.length_append]; omega) (S.same.write (S.new i l (by rw [hA]; simp)) hx) (fun b o e _ hb => ?_) eL (fun a ha => ?_) ⟨l, ys, rfl, rfl, ae, ?_⟩
 . rw [bG (by rw [getElem?_append_left hi]; exact h), aH (by omega)] at key;exact key
 . rw [hA] at hb;have : b ≠ l := by simpa using hb
   rw [aa this]; exact e
 . have : a = l := by simpa using ha
   subst this;exact ⟨.inl (by rw [hA]; simp), .l ys, ae⟩
 . have eqA : aL A i [l] = A := by
    funext k;by_cases q : k = i
    . rw [q, aF, hA]
    . rw [aS q]
   rw [eqA];refine j.carry (.write hx ?_);unfold zn;have o : az A l := ⟨i, by rw [hA]; simp⟩
   cases fr
   . exact fun z => z.2 o
   . exact fun z => z.2 o
theorem wc (i : Nat) {x : Str} {ap cp : Pos} {ds : List D} (fr : Bool) {d : D} (h : ρ[i]? = some (some (.ow fr ds)) := by rfl) (he : E X m1 (view false fr ρ) e d) (hz : ds.length < 1000) (hr : SD X F rest (ρ.set i (some (.ow fr (ds ++ [d])))) Q)
 (hN : X.N[i]? = some x := by rfl) (hv : kb X.env.scope x := by first | exact Or.inl rfl | exact Or.inr (Or.inl rfl) | exact Or.inr (Or.inr rfl)) (hd : NdX x := by decide) (hcd : NcX x := by decide)
 (hbase : attributeBase (.Name x p) "append" X.env (eval (.Name x p) X.env) = eval (.Name x p) X.env := by rfl) (hline : (ap.endLine == cp.line) = true := by rfl)
 (hs : starEach [e] X.env = [(false, eval e X.env)] := by rfl) (hsw : swapsWith (.Call (.Attribute (.Name x p) "append" ap) [e] [] cp) none pos.line X.env = pure false := by rfl) :
 SD X F (.Expr (.Call (.Attribute (.Name x p) "append" ap) [e] [] cp) pos :: rest) ρ Q := by
 refine aM (PS.mono (bU (fW PySem.F.plainAttrs_list PySem.F.slot_list_append PySem.F.type_list_append bP (bx hN hv hd hcd) (aJ he bc (by rw [hs]; rfl)) hbase (by rw [hs]; rfl) hline (by rw [hs]; rfl) rfl) hsw) ?_) hr;rintro Q' σ H ⟨hv, hρ, A, hl, S, f⟩;obtain ⟨l, xs, e1, e2, e3, j⟩ := S.ow hl h;refine ⟨.ref l, e1, .inl ⟨rfl, xs, eP.of e3⟩, _, ar S false fr, S.env hl false fr, fun v H1 s1 i1 => ?_⟩;have i2 : In X.K H1 (zn F (az A) fr) d v := i1.plain (ar S false fr);refine ⟨l, xs, v, rfl, rfl, s1.at e3, by rw [<- j.length]; exact aR (by omega), f.nx _ _ (rV hl (S.grow s1) e1 e2 (s1.at e3) ((j.same s1).append (aC.one i2)))⟩
theorem d7 (i : Nat) {x : Str} {ap cp : Pos} {ds : List D} (fr : Bool) {d : D} (h : ρ[i]? = some (some (.ow fr ds)) := by rfl) (he : E X m1 (view true false ρ) e d) (fl : d.flat = true) (hz : ds.length < 1000) (hr : SD X F rest (ρ.set i (some (.ow fr (ds ++ [d])))) Q)
 (hN : X.N[i]? = some x := by rfl) (hv : kb X.env.scope x := by first | exact Or.inl rfl | exact Or.inr (Or.inl rfl) | exact Or.inr (Or.inr rfl)) (hd : NdX x := by decide) (hcd : NcX x := by decide)
 (hbase : attributeBase (.Name x p) "append" X.env (eval (.Name x p) X.env) = eval (.Name x p) X.env := by rfl) (hline : (ap.endLine == cp.line) = true := by rfl)
 (hs : starEach [e] X.env = [(false, eval e X.env)] := by rfl) (hsw : swapsWith (.Call (.Attribute (.Name x p) "append" ap) [e] [] cp) none pos.line X.env = pure false := by rfl) :
 SD X F (.Expr (.Call (.Attribute (.Name x p) "append" ap) [e] [] cp) pos :: rest) ρ Q := by
 refine aM (PS.mono (bU (fW PySem.F.plainAttrs_list PySem.F.slot_list_append PySem.F.type_list_append bP (bx hN hv hd hcd) (aJ he bc (by rw [hs]; rfl)) hbase (by rw [hs]; rfl) hline (by rw [hs]; rfl) rfl) hsw) ?_) hr;rintro Q' σ H ⟨hv, hρ, A, hl, S, f⟩;obtain ⟨l, xs, e1, e2, e3, j⟩ := S.ow hl h;refine ⟨.ref l, e1, .inl ⟨rfl, xs, eP.of e3⟩, _, ar S true false, S.env hl true false, fun v H1 s1 i1 => ?_⟩;refine ⟨l, xs, v, rfl, rfl, s1.at e3, by rw [<- j.length]; exact aR (by omega), f.nx _ _ (rV hl (S.grow s1) e1 e2 (s1.at e3) ((j.same s1).append (aC.one (i1.cT fl))))⟩
theorem yr (i : Nat) {st : List Stmt} {ds : List D} (h : ρ[i]? = some (some (.ow true ds)) := by rfl) (hr : SD X F st (ρ.set i (some (.pl true (.lst ds)))) Q) : SD X F st ρ Q := lJ.mono hr fun Q' σ H z0 => d8 z0 fun hv hρ A hl S f => by
 obtain ⟨l, xs, e1, e2, e3, j⟩ := S.ow hl h;have hi : i < σ.length := (List.getElem?_eq_some_iff.mp e1).1;refine ⟨hv, hρ, aL A i [], by simp [hl], ?_, f⟩;have key := S.re (i := i) (v := .ref l) (sl := .pl true (.lst ds)) (l := []) (H2 := H) (by rw [List.length_append]; omega) (by rw [List.length_append]; omega) S.same (fun b o e _ hb => e) List.nodup_nil (fun a ha => by simp at ha) (ah.mpr ⟨l, xs, rfl, .inl ⟨e3, ?_⟩, ?_⟩)
 . rw [bG (by rw [getElem?_append_left hi]; exact e1), aH (by omega)] at key;exact key
 . refine ⟨S.new i l (by rw [e2]; simp), fun ⟨k, hk⟩ => ?_⟩;by_cases q : k = i
   . rw [q, aF] at hk; simp at hk
   . rw [aS q] at hk; exact q (S.one k i l hk (by rw [e2]; simp))
 . exact j.carry oe
end
theorem se {zs : GV} : ∀ {us : GO}, Vals (zs.map V.str) us -> StrsAre us zs := by
 induction zs with
 | nil => intro us r; rw [map_nil] at r; cases r; exact .nil
 | cons n ns ih =>
  intro us r;rw [map_cons] at r
  cases r with
  | cons r1 r2 =>
   obtain ⟨t, e⟩ := r1;subst e;exact .cons n t (ih r2)
theorem ig : ∀ (l : List (Str × Tok)), Vals ((l.map (·.1)).map V.str) (strValues l)
 | [] => .nil
 | (x, t) :: l => .cons ⟨t, rfl⟩ (ig l)
section
variable {X : Cx}
theorem A9 : CK X "str.join" (fun x xs H Q => ∃ sep l zs, x = .str sep /\ xs = [.ref l] /\ eP X.K H l (zs.map V.str) /\ sep.length <= 16 /\ (zs.map (·.length)).sum + zs.length <= 1048576 /\ Q (.str (Txt.join sep zs)) H) := by
 intro pins s σ H x xs v us Q I rx rs h;obtain ⟨sep, l, zs, rfl, rfl, hl, h1, h2, q⟩ := h;obtain ⟨t, rfl⟩ := rx;obtain ⟨u, rfl, ru⟩ := Vals.one rs;cases ru;obtain ⟨its, r, pl, hz⟩ := I.list hl;exact join_listW pl.isList (by simpa using se r) h1 h2 fun t' k => ⟨.str (Txt.join sep zs), H, I.tok _, ⟨_, rfl⟩, q⟩
theorem yb : CK X "str.lower" (fun x xs H Q => ∃ z, x = .str z /\ xs = [] /\ z.length <= 5592405 /\ Q (.str (Txt.lower z)) H) := by
 intro pins s σ H x xs v us Q I rx rs h;obtain ⟨z, rfl, rfl, h1, q⟩ := h;obtain ⟨t, rfl⟩ := rx;cases Vals.zero rs;exact SCL.lower h1 fun _ => ⟨.str (Txt.lower z), H, I.tok _, ⟨_, rfl⟩, q⟩
theorem xm : CK X "str.upper" (fun x xs H Q => ∃ z, x = .str z /\ xs = [] /\ z.length <= 5592405 /\ Q (.str (Txt.upper z)) H) := by
 intro pins s σ H x xs v us Q I rx rs h;obtain ⟨z, rfl, rfl, h1, q⟩ := h;obtain ⟨t, rfl⟩ := rx;cases Vals.zero rs;exact SCL.upper h1 fun _ => ⟨.str (Txt.upper z), H, I.tok _, ⟨_, rfl⟩, q⟩
theorem kx {pins : GR} {σ : St} {H : Hp} {s : Shared} (I : Inv X pins σ H s) {l : List (Str × Tok)} {k : Nat} (hz : l.length <= sizeLine) :
 Inv X pins σ (upd H s.heap.objs.size (.lst ((l.map (·.1)).map V.str))) { s with heap := s.heap.push { cls := .type "list", data := .seq (strValues l).toArray }, toks := k } :=
 I.laid (fun b u e => get?_push_of_some _ e) (Nat.le_refl _) ⟨by simpa using hz, strValues l, 0, ig l, get?_push_size _ rfl⟩
theorem vX : CK X "str.split" (fun x xs H Q => ∃ z, x = .str z /\ xs = [] /\ z.length <= sizeLine /\ (Builtin.Str.spaceWords z (z.length + 1)).length <= sizeLine /\ ∀ p, H p = none -> Q (.ref p) (upd H p (.lst ((Txt.words z).map V.str)))) := by
 intro pins s σ H x xs v us Q I rx rs h;obtain ⟨z, rfl, rfl, h1, h2, q⟩ := h;obtain ⟨t, rfl⟩ := rx;cases Vals.zero rs;have fr := I.hok.fresh (Nat.le_refl _);refine call_meets F.slot_str_split (typeIs_str _ _ _) F.entry_str_split (F.args_str_split_1 _) (meets_str_split_space z t h1 h2) ?_;cases hw : Builtin.Str.spaceWords z (z.length + 1) == [(0, z.length)]
 . simp only [Bool.false_eq_true, if_false];rw [strsFrom_eq];have e : (numbered s.toks (wordsOf z)).map (·.1) = Txt.words z := (numbered_texts _ _).trans (if_neg (ne_true_of_eq_false hw)).symm;have hl : (numbered s.toks (wordsOf z)).length <= sizeLine := by
    have : (numbered s.toks (wordsOf z)).length = ((numbered s.toks (wordsOf z)).map (·.1)).length := by simp
    rw [this, numbered_texts];simpa [wordsOf] using h2
   refine ⟨.ref s.heap.objs.size, _, kx I hl, rfl, ?_⟩;rw [e];exact q _ fr
 . simp only [if_true];have e : [(z, t)].map (·.1) = Txt.words z := (if_pos hw).symm;refine ⟨.ref s.heap.objs.size, _, kx I (l := [(z, t)]) (k := s.toks) (by simp; exact Nat.le_of_lt (aR (by decide))), rfl, ?_⟩;rw [e];exact q _ fr
theorem vR : CK X "str.split" (fun x xs H Q => ∃ z y, x = .str z /\ xs = [.str y] /\ (y.length == 0) = false /\ z.length <= sizeLine /\ (Builtin.Str.partsBetween z (Builtin.Str.occurrences z y 0 z.length (z.length + 1)) y.length).length <= sizeLine /\
 ∀ p, H p = none -> Q (.ref p) (upd H p (.lst ((Txt.split z y).map V.str)))) := by
 intro pins s σ H x xs v us Q I rx rs h;obtain ⟨z, y, rfl, rfl, hy, h1, h2, q⟩ := h;obtain ⟨t, rfl⟩ := rx;obtain ⟨u', rfl, ru⟩ := Vals.one rs;obtain ⟨u, rfl⟩ := ru;have fr := I.hok.fresh (Nat.le_refl _);have one : ∀ k, Txt.split z y = [z] -> EP X pins σ Q (.ref s.heap.objs.size) { s with heap := s.heap.push { cls := .type "list", data := .seq (strValues [(z, t)]).toArray }, toks := k } := fun k e => by
  refine ⟨.ref s.heap.objs.size, _, kx I (l := [(z, t)]) (k := k) (by simp; exact Nat.le_of_lt (aR (by decide))), rfl, ?_⟩;have e' : [(z, t)].map (·.1) = Txt.split z y := e.symm;rw [e'];exact q _ fr
 cases h3 : (decide (z.length < y.length) || decide (Builtin.Str.strKind z < Builtin.Str.strKind y))
 . cases hf : (Builtin.Str.occurrences z y 0 z.length (z.length + 1)).isEmpty
   . refine call_meets F.slot_str_split (typeIs_str _ _ _) F.entry_str_split (F.args_str_split_2 _ _) (meets_str_split_sep z y t u h3 hy hf h1 h2) ?_;show wants _ _ _ { s with toks := _, heap := s.heap.push { cls := .type "list", data := .seq (strsFrom s.toks (Builtin.Str.partsBetween z (Builtin.Str.occurrences z y 0 z.length (z.length + 1)) y.length)).toArray } };rw [strsFrom_eq];have e : (numbered s.toks (Builtin.Str.partsBetween z (Builtin.Str.occurrences z y 0 z.length (z.length + 1)) y.length)).map (·.1) = Txt.split z y := (numbered_texts _ _).trans ((if_neg (ne_true_of_eq_false h3)).trans (if_neg (ne_true_of_eq_false hf))).symm;have hl : (numbered s.toks (Builtin.Str.partsBetween z (Builtin.Str.occurrences z y 0 z.length (z.length + 1)) y.length)).length <= sizeLine := by
      have : ∀ l : List (Str × Tok), l.length = (l.map (·.1)).length := fun l => by simp
      rw [this, numbered_texts];exact h2
     refine ⟨.ref s.heap.objs.size, _, kx I hl, rfl, ?_⟩;rw [e];exact q _ fr
   . exact call_meets F.slot_str_split (typeIs_str _ _ _) F.entry_str_split (F.args_str_split_2 _ _) (meets_str_split_not_found z y t u h3 hy hf)
      (one s.toks ((if_neg (ne_true_of_eq_false h3)).trans (if_pos hf)))
 . exact call_meets F.slot_str_split (typeIs_str _ _ _) F.entry_str_split (F.args_str_split_2 _ _) (meets_str_split_cannot_occur z y t u h3) (one s.toks (if_pos h3))
theorem CS : EF X (fun x lo hi H Q => ∃ z, x = .str z /\ z.length <= sizeLine /\ Q (.str (Txt.slice z lo hi)) H) := by
 intro pins s σ H x v vl vu lo hi sl Q I rx hs pl pu h;obtain ⟨z, rfl, hz, q⟩ := h;obtain ⟨t, rfl⟩ := rx;refine ⟨"str", _, F.slot_str_getitem.lookup, typeIs_str _ _ _, ?_⟩;have fin : ∀ t' k, EP X pins σ Q (.str (Txt.slice z lo hi) t') { s with toks := k } := fun t' k => ⟨.str (Txt.slice z lo hi), H, I.tok k, ⟨_, rfl⟩, q⟩
 have key : ∀ (l u : Option (Int × Tok)), vl = partValue l -> vu = partValue u -> l.map (·.1) = lo -> u.map (·.1) = hi -> wpAny (model X.prog X.w) X.A (getItem (.str z t) (.ref sl)) (EP X pins σ Q) X.xe s := fun l u e1 e2 e3 e4 => by
  subst e1 e2 e3 e4;exact wpAny_getItem_str_slice (l := l) (u := u) (st := none) hs rfl (post_val_or_str ⟨Nat.le_trans (Txt.slice_le z _ _) hz, fun t' k => fin t' k⟩)
 cases pl with
 | none =>
  cases pu with
  | none => exact key none none rfl rfl rfl rfl
  | int j tj => exact key none (some (j, tj)) rfl rfl rfl rfl
 | int i ti =>
  cases pu with
  | none => exact key (some (i, ti)) none rfl rfl rfl rfl
  | int j tj => exact key (some (i, ti)) (some (j, tj)) rfl rfl rfl rfl
inductive pj (K : Frag) (H : Hp) : V -> String -> Bool -> Prop where
 | bb (b : Bool) : pj K H (.bl b) "bool" true
 | bi (b : Bool) : pj K H (.bl b) "int" true
 | ii (i : Int) : pj K H (.int i) "int" true
 | ib (i : Int) : pj K H (.int i) "bool" false
 | ss (x : Str) : pj K H (.str x) "str" true
 | ll {a : Addr} {xs : List V} (h : eP K H a xs) : pj K H (.ref a) "list" true
 | tt {a : Addr} {xs : List V} (h : rH K H a xs) : pj K H (.ref a) "tuple" true
theorem qu : jO X (.builtin "isinstance") (fun xs H Q => ∃ x T b, xs = [x, .ty T] /\ pj X.K H x T b /\ Q (.bl b) H) := by
 intro pins s σ H xs us Q I r h;obtain ⟨x, T, b, rfl, hi, q⟩ := h;obtain ⟨u, w', rfl, ru, rw'⟩ := vals2 r;cases rw';have fin : ∀ k, EP X pins σ Q (.bool b) { s with toks := k } := fun k => ⟨.bl b, H, I.tok k, rfl, q⟩
 cases hi with
 | bb => cases ru; exact IsiPair.bool_bool (fin s.toks)
 | bi => cases ru; exact IsiPair.bool_int (fin s.toks)
 | ii => obtain ⟨t, rfl⟩ := ru; exact IsiPair.int_int (fin s.toks)
 | ib => obtain ⟨t, rfl⟩ := ru; exact IsiPair.int_bool (fin _)
 | ss => obtain ⟨t, rfl⟩ := ru; exact IsiPair.str_str (fin s.toks)
 | ll h =>
  cases ru;obtain ⟨its, _, ⟨o, n, e, c, _⟩, _⟩ := I.list h;exact IsiPair.list_list e c (fin s.toks)
 | tt h =>
  cases ru;obtain ⟨its, _, ⟨o, e, c, _⟩, _⟩ := I.tuple h;exact IsiPair.tuple_tuple e c (fin s.toks)
theorem xU : jO X (.builtin "all") (fun xs H Q => X.A.handled = none /\ ∃ (l : Addr) (bs : List Bool), xs = [.ref l] /\ eP X.K H l (bs.map V.bl) /\ Q (.bl (bs.all id)) H) := by
 intro pins s σ H xs us Q I r h;obtain ⟨hh, l, bs, rfl, hl, q⟩ := h;obtain ⟨u, rfl, ru⟩ := vals1 r;cases ru;obtain ⟨its, rv, pl, hz⟩ := I.list hl;have hget : ∀ (i : Nat) (v : Value), its.toArray[i]? = some v -> v = Value.bool (bs.getD i false) := fun i v e => by
  have e' : its[i]? = some v := by simpa using e
  have hi : i < its.length := (List.getElem?_eq_some_iff.mp e').1;have hlen := rv.length;simp at hlen;obtain ⟨w', h1, h2⟩ := rv.get (i := i) (x := .bl bs[i]) (by simp);rw [e'] at h1;cases h1;have h2 : v = .bool bs[i] := h2;have hb : i < bs.length := by omega
  rw [h2];simp [hb]
 refine call_all_walk (wpAny_pyIter_list pl.isList ?_);obtain ⟨o, n, ho, hc, hd, hs⟩ := id pl;refine ⟨s.heap.objs.size, _, _, _, _, _, fun i => bs.getD i false, rfl, Walks.list (A := X.A.in1) hh s.heap.objs.size l (Nat.ne_of_lt (lt_size ho)) its.toArray, ⟨⟨_, get?_push_size _ rfl, rfl, rfl⟩, ⟨o, get?_push_of_some _ ho, hc, n, hs⟩⟩, ?_, fun h' tk hk => ?_⟩
 . intro i v s' Q' E' hP hQ;rw [hget i v hP];exact wpAny_truthy_bool hQ
 . refine ⟨.bl (bs.all id), H, I.kept (h' := h') (t' := tk) (fun b ob e => hk b ob (by simp; exact Nat.ne_of_lt (lt_size e)) (get?_push_of_some _ e)), ?_, q⟩;show Value.bool _ = Value.bool _;congr 1;have hlen := rv.length;simp at hlen;rw [size_toArray, <- hlen];rw [Bool.eq_iff_iff, List.all_eq_true, List.all_eq_true];constructor
   . intro hq b hb;obtain ⟨i, hi, e⟩ := List.mem_iff_getElem.mp hb;have := hq i (by simpa using hi);simp [hi, e] at this;exact this
   . intro hq i hi;have hi' : i < bs.length := by simpa using hi
     have := hq bs[i] (getElem_mem hi');simp [hi'];exact this
end
section
variable {X : Cx} {ρ : List (Option D)} {m m1 m2 : Bool} {a e o : Expr} {d : D} {pos p ap cp : Pos} {ds : List D}
theorem rS {sep : Str} {zs : GV} (ho : E X m1 ρ o (.str sep)) (ha : E X m2 ρ a (.lst (zs.map D.str))) (h1 : sep.length <= 16) (h2 : (zs.map (·.length)).sum + zs.length <= 1048576)
 (hbase : attributeBase o "join" X.env (eval o X.env) = eval o X.env := by rfl) (hline : (ap.endLine == cp.line) = true := by rfl) (hs : starEach [a] X.env = [(false, eval a X.env)] := by rfl) : E X true ρ (.Call (.Attribute o "join" ap) [a] [] cp) (.str (Txt.join sep zs)) :=
 PE.mono (fW F.plainAttrs_str F.slot_str_join F.type_str_join A9 ho (aJ ha bc (by rw [hs]; rfl)) hbase (by rw [hs]; rfl) hline (by rw [hs]; rfl) rfl) fun σ H Q z0 => aU z0 fun Z oz en k => ⟨Z, oz, en, fun x H1 s1 i1 => by
  cases in_str.mp (i1.plain oz);refine ⟨rfl, Z, oz.same s1, en.same s1, fun y H2 s2 i2 => ?_⟩;obtain ⟨l, xs, rfl, at', j⟩ := ah.mp (i2.plain (oz.same s1));rw [iI j] at at';exact ⟨sep, l, zs, rfl, rfl, at'.sq, h1, h2, k _ H2 (s1.trans s2) (in_str.mpr rfl)⟩⟩
theorem zA {z : Str} (ho : E X m1 ρ o (.str z)) (h1 : z.length <= 5592405) (hbase : attributeBase o "lower" X.env (eval o X.env) = eval o X.env := by rfl) (hline : (ap.endLine == cp.line) = true := by rfl) : E X true ρ (.Call (.Attribute o "lower" ap) [] [] cp) (.str (Txt.lower z)) :=
 PE.mono (og F.plainAttrs_str F.slot_str_lower F.type_str_lower yb ho hbase hline) fun σ H Q z0 => aU z0 fun Z oz en k => ⟨Z, oz, en, fun x H1 s1 i1 => by
  cases in_str.mp (i1.plain oz);exact ⟨rfl, z, rfl, rfl, h1, k _ H1 s1 (in_str.mpr rfl)⟩⟩
theorem A7 {z : Str} (ho : E X m1 ρ o (.str z)) (h1 : z.length <= 5592405) (hbase : attributeBase o "upper" X.env (eval o X.env) = eval o X.env := by rfl) (hline : (ap.endLine == cp.line) = true := by rfl) : E X true ρ (.Call (.Attribute o "upper" ap) [] [] cp) (.str (Txt.upper z)) :=
 PE.mono (og F.plainAttrs_str F.slot_str_upper F.type_str_upper xm ho hbase hline) fun σ H Q z0 => aU z0 fun Z oz en k => ⟨Z, oz, en, fun x H1 s1 i1 => by
  cases in_str.mp (i1.plain oz);exact ⟨rfl, z, rfl, rfl, h1, k _ H1 s1 (in_str.mpr rfl)⟩⟩
theorem Dv {z : Str} {lo hi : Option Expr} {l u : Option Int} {p2 : Pos} (ha : E X m1 ρ a (.str z)) (hl : EO X ρ lo l) (hu : EO X ρ hi u) (hz : z.length <= sizeLine) : E X true ρ (.Subscript a (.Slice lo hi none p2) pos) (.str (Txt.slice z l u)) :=
 PE.mono (lK CS ha hl hu) fun σ H Q z0 => aU z0 fun Z oz en k => ⟨Z, oz, en, fun x H1 s1 i1 => ⟨Z, oz.same s1, en.same s1, fun H2 s2 => ⟨Z, oz.same (s1.trans s2), en.same (s1.trans s2), fun H3 s3 =>
  ⟨z, in_str.mp (i1.plain oz), hz, k _ H3 ((s1.trans s2).trans s3) (in_str.mpr rfl)⟩⟩⟩⟩
theorem xD {z : Str} (ho : E X m1 ρ o (.str z)) (h1 : z.length <= sizeLine) (h2 : (Builtin.Str.spaceWords z (z.length + 1)).length <= sizeLine) (hbase : attributeBase o "split" X.env (eval o X.env) = eval o X.env := by rfl) (hline : (ap.endLine == cp.line) = true := by rfl) :
 E X true ρ (.Call (.Attribute o "split" ap) [] [] cp) (.lst ((Txt.words z).map D.str)) :=
 E.mode (PE.mono (og F.plainAttrs_str F.slot_str_split F.type_str_split vX ho hbase hline) fun σ H Q z0 => aU z0 fun Z oz en k => ⟨Z, oz, en, fun x H1 s1 i1 => by
  cases in_str.mp (i1.plain oz);exact ⟨rfl, z, rfl, rfl, h1, h2, fun p hp => k _ _ (s1.trans (aB hp)) (ah.mpr ⟨p, _, rfl, .inl ⟨ae, s1.free hp⟩, kW _⟩)⟩⟩)
theorem wC {z y : Str} (ho : E X m1 ρ o (.str z)) (ha : E X m2 ρ a (.str y)) (hy : (y.length == 0) = false) (h1 : z.length <= sizeLine) (h2 : (Builtin.Str.partsBetween z (Builtin.Str.occurrences z y 0 z.length (z.length + 1)) y.length).length <= sizeLine)
 (hbase : attributeBase o "split" X.env (eval o X.env) = eval o X.env := by rfl) (hline : (ap.endLine == cp.line) = true := by rfl) (hs : starEach [a] X.env = [(false, eval a X.env)] := by rfl) :
 E X true ρ (.Call (.Attribute o "split" ap) [a] [] cp) (.lst ((Txt.split z y).map D.str)) :=
 E.mode (PE.mono (fW F.plainAttrs_str F.slot_str_split F.type_str_split vR ho (aJ ha bc (by rw [hs]; rfl)) hbase (by rw [hs]; rfl) hline (by rw [hs]; rfl) rfl) fun σ H Q z0 => aU z0 fun Z oz en k => ⟨Z, oz, en, fun x H1 s1 i1 => by
  cases in_str.mp (i1.plain oz);refine ⟨rfl, Z, oz.same s1, en.same s1, fun w H2 s2 i2 => ?_⟩;cases in_str.mp (i2.plain (oz.same s1));exact ⟨z, y, rfl, rfl, hy, h1, h2, fun p hp => k _ _ ((s1.trans s2).trans (aB hp)) (ah.mpr ⟨p, _, rfl, .inl ⟨ae, (s1.trans s2).free hp⟩, kW _⟩)⟩⟩)
theorem kS (ha : E X m1 ρ a (.lst ds)) (hm : X.mg "len" = none) (hg : Gl X "len" := by rfl) (hs : starEach [a] X.env = [(false, eval a X.env)] := by rfl) : E X true ρ (.Call (.Name "len" p) [a] [] pos) (.int ds.length) :=
 PE.mono (fC pG hg hm PySem.boot_len (aJ ha bc (by rw [hs]; rfl)) (by decide) (by decide) (by rw [hs]; rfl) rfl) fun σ H Q z0 => aU z0 fun Z oz en k => ⟨Z, oz, en, fun x H1 s1 i1 => by
  obtain ⟨l, xs, rfl, at', j⟩ := ah.mp (i1.plain oz);exact ⟨l, xs, rfl, .inl at'.sq, k _ H1 s1 (av.mpr (by rw [j.length]))⟩⟩
theorem xE {z : Str} (ha : E X m1 ρ a (.str z)) (hz : z.length <= sizeLine) (hm : X.mg "len" = none) (hg : Gl X "len" := by rfl) (hs : starEach [a] X.env = [(false, eval a X.env)] := by rfl) : E X true ρ (.Call (.Name "len" p) [a] [] pos) (.int z.length) :=
 PE.mono (fC ou hg hm PySem.boot_len (aJ ha bc (by rw [hs]; rfl)) (by decide) (by decide) (by rw [hs]; rfl) rfl) fun σ H Q z0 => aU z0 fun Z oz en k => ⟨Z, oz, en, fun x H1 s1 i1 => by
  cases in_str.mp (i1.plain oz);exact ⟨z, rfl, hz, k _ H1 s1 (av.mpr rfl)⟩⟩
def CO : D -> String -> Option Bool
 | .bl _, "bool" => some true
 | .bl _, "int" => some true
 | .int _, "int" => some true
 | .int _, "bool" => some false
 | .str _, "str" => some true
 | .lst _, "list" => some true
 | .tup _, "tuple" => some true
 | _, _ => none
theorem Aw {K : Frag} {H : Hp} {Z : ax} {v : V} {ty : String} {b : Bool} (i : In K H Z d v) (h : CO d ty = some b) : pj K H v ty b := by
 unfold CO at h;split at h <;> first
  | (cases h; done)
  | (cases h; rw [bp.mp i]; exact .bb _)
  | (cases h; rw [bp.mp i]; exact .bi _)
  | (cases h; rw [av.mp i]; exact .ii _)
  | (cases h; rw [av.mp i]; exact .ib _)
  | (cases h; rw [in_str.mp i]; exact .ss _)
  | (cases h; obtain ⟨a, xs, rfl, at', _⟩ := ah.mp i; exact .ll at'.sq)
  | (cases h; obtain ⟨a, xs, rfl, at', _⟩ := aK i; exact .tt at')
theorem nH {ty : String} {tn : Str} {p2 : Pos} {b : Bool} (ha : E X m1 ρ a d) (h : CO d ty = some b) (hv : bootBuiltins tn = some (.type ty)) (hm : X.mg "isinstance" = none) (hm2 : X.mg tn = none) (hg : Gl X "isinstance" := by rfl) (hg2 : Gl X tn := by rfl)
 (hs : starEach [a, .Name tn p2] X.env = [(false, eval a X.env), (false, eval (.Name tn p2) X.env)] := by rfl) (hs2 : starEach [.Name tn p2] X.env = [(false, eval (.Name tn p2) X.env)] := by rfl) (hn : tn ≠ "__name__" := by decide) (hdb : NdX tn := by decide) :
 E X true ρ (.Call (.Name "isinstance" p) [a, .Name tn p2] [] pos) (.bl b) :=
 PE.mono (fC qu hg hm boot_isinstance (aJ ha (aJ (Ao (v := .ty ty) hg2 hm2 hv rfl hn hdb) bc (by rw [hs2]; rfl)) (by rw [hs, hs2])) (by decide) (by decide) (by rw [hs, hs2]) (by rw [hs2]; rfl)) fun σ H Q z0 => aU z0 fun Z oz en k => ⟨Z, oz, en, fun x H1 s1 i1 =>
  ⟨x, ty, b, rfl, Aw (i1.plain oz) h, k _ H1 s1 (bp.mpr rfl)⟩⟩
theorem jS {K : Frag} {H : Hp} {Z : ax} : ∀ {bs : List Bool} {vs : List V}, aC K H Z (bs.map D.bl) vs -> vs = bs.map V.bl
 | [], _, h => ay.mp h
 | n :: ns, _, h => by
  obtain ⟨v, r, rfl, a, j⟩ := ag.mp h;rw [bp.mp a, jS j]; rfl
theorem Br {bs : List Bool} (ha : E X m1 ρ a (.lst (bs.map D.bl))) (hh : X.A.handled = none) (hm : X.mg "all" = none) (hg : Gl X "all" := by rfl) (hs : starEach [a] X.env = [(false, eval a X.env)] := by rfl) : E X true ρ (.Call (.Name "all" p) [a] [] pos) (.bl (bs.all id)) :=
 PE.mono (fC xU hg hm boot_all (aJ ha bc (by rw [hs]; rfl)) (by decide) (by decide) (by rw [hs]; rfl) rfl) fun σ H Q z0 => aU z0 fun Z oz en k => ⟨Z, oz, en, fun x H1 s1 i1 => by
  obtain ⟨l, xs, rfl, at', j⟩ := ah.mp (i1.plain oz);rw [jS j] at at';exact ⟨hh, l, bs, rfl, at'.sq, k _ H1 s1 (bp.mpr rfl)⟩⟩
theorem zg (ha : E X m1 ρ a (.lst ds)) (hm : X.mg "list" = none) (hmm : m = true -> m1 = true \/ aV ds = true := by intro h; first | exact .inl h | cases h) (hg : Gl X "list" := by rfl) (hs : starEach [a] X.env = [(false, eval a X.env)] := by rfl) : E X m ρ (.Call (.Name "list" p) [a] [] pos) (.lst ds) :=
 PE.mono (vD pX hg hm boot_list (aJ ha bc (by rw [hs]; rfl)) (by decide) (by decide) (by rw [hs]; rfl) rfl) fun σ H Q z0 => aU z0 fun Z oz en k => ⟨Z, oz, en, fun x H1 s1 i1 => by
  obtain ⟨l, xs, rfl, at', j⟩ := ah.mp i1;refine ⟨l, xs, rfl, .inl at'.sq, fun q hq => k (.ref q) _ (s1.trans (aB hq)) (ah.mpr ⟨q, xs, rfl, .inl ⟨ae, ?_⟩, ?_⟩)⟩
  . cases m
    . exact oz q (s1.free hq)
    . exact s1.free hq
  . have jc := j.same (aB (o := .lst xs) hq);cases m
    . cases m1
      . exact jc
      . exact jc.up oz
    . rcases hmm rfl with h | h
      . subst h; exact jc
      . exact jc.cT h⟩
end
def Ed : Key -> D -> Bool
 | .inl a, .int b => a == b
 | .inl a, .bl b => a == (if b then 1 else 0)
 | .inr a, .str b => a == b
 | _, _ => false
def jX : List Key -> List D -> Bool
 | [], [] => true
 | k :: ks, d :: ds => Ed k d && jX ks ds
 | _, _ => false
mutual
def aP : D -> D -> Bool
 | .non, .non => true
 | .bl a, .bl b => a == b
 | .bl a, .int b => (if a then 1 else 0) == b
 | .int a, .bl b => a == (if b then 1 else 0)
 | .int a, .int b => a == b
 | .str a, .str b => a == b
 | .lst a, .lst b => cX a b
 | .tup a, .tup b => cX a b
 | .tup a, .ktup ks => cX a (ks.map kD)
 | .dct _, .dct _ => true
 | .agg _ _, .agg _ _ => true
 | .ktup ks, .tup b => jX ks b
 | .ktup ks, .ktup ks' => jX ks (ks'.map kD)
 | _, _ => false
def cX : List D -> List D -> Bool
 | [], [] => true
 | a :: as, b :: bs => aP a b && cX as bs
 | _, _ => false
end
mutual
def D.dep : D -> Nat
 | .lst ds => b0 ds + 1
 | .tup ds => b0 ds + 1
 | .dct _ => 100000
 | .agg _ _ => 100000
 | .ktup _ => 1
 | _ => 0
def b0 : List D -> Nat
 | [] => 0
 | d :: ds => max d.dep (b0 ds)
end
theorem eQ : ∀ {ds : List D} {d : D}, d ∈ ds -> d.dep <= b0 ds
 | [], _, h => by simp at h
 | e :: ds, d, h => by
  unfold b0;rcases mem_cons.mp h with rfl | h
  . exact Nat.le_max_left _ _
  . exact Nat.le_trans (eQ h) (Nat.le_max_right _ _)
theorem i7 : ∀ ks : List Key, jX ks (ks.map kD) = true
 | [] => rfl
 | .inl a :: ks => by simp [jX, Ed, kD, i7 ks]
 | .inr a :: ks => by simp [jX, Ed, kD, i7 ks]
mutual
theorem bw : ∀ d : D, aP d d = true
 | .non => by simp [aP]
 | .bl _ => by simp [aP]
 | .int _ => by simp [aP]
 | .str _ => by simp [aP]
 | .lst ds => by simp [aP, iT ds]
 | .tup ds => by simp [aP, iT ds]
 | .dct _ => by simp [aP]
 | .agg _ _ => by simp [aP]
 | .ktup ks => by simp only [aP]; exact i7 ks
theorem iT : ∀ ds : List D, cX ds ds = true
 | [] => by simp [cX]
 | d :: ds => by simp [cX, bw d, iT ds]
end
theorem bC : ∀ (ds es : List D), ((List.range (min ds.length es.length)).all (fun j => aP (ds.getD j .non) (es.getD j .non)) && ds.length == es.length) = cX ds es
 | [], [] => by simp [cX]
 | [], _ :: _ => by simp [cX]
 | _ :: _, [] => by simp [cX]
 | a :: as, b :: bs => by
  have ih := bC as bs;rw [cX, <- ih];have hm : min (a :: as).length (b :: bs).length = min as.length bs.length + 1 := by simp <;> omega
  rw [hm, List.range_succ_eq_map, List.all_cons, List.all_map];simp [Function.comp_def, Bool.and_assoc]
def Told {α : Type} [DecidableEq α] (f : α -> D) : Prop := ∀ a b, aP (f a) (f b) = decide (a = b)
section
variable {α β : Type} [DecidableEq α] [DecidableEq β] {f : α -> D} {g : β -> D}
theorem yQ : Told D.str := fun a b => by simp only [aP]; by_cases h : a = b <;> simp [h]
theorem qO (h : Told f) : ∀ (as bs : List α), cX (as.map f) (bs.map f) = decide (as = bs)
 | [], [] => by simp [cX]
 | [], _ :: _ => by simp [cX]
 | _ :: _, [] => by simp [cX]
 | a :: as, b :: bs => by
  simp only [map_cons, cX];rw [h a b, qO h as bs];by_cases h1 : a = b <;> by_cases h2 : as = bs <;> simp [h1, h2]
theorem uX (h : Told f) : Told (fun l : List α => D.lst (l.map f)) := fun a b => by simp only [aP]; exact qO h a b
end
section
variable {X : Cx} {pins : GR} {σ : St} {H : Hp} {s : Shared} {Z Z' : ax}
theorem fU {a : Addr} {o : DO} (I : Inv X pins σ H s) (h : H a = some o.ho) : DEq.eh s.heap a := by
 cases o with
 | k kvs =>
  obtain ⟨_, _, vs, _, ⟨cls, dd, data, sl⟩, es, ep, h1, h2, h3, _⟩ := tM I.hok h;have hc : cls = .type "dict" := h2.1;have hd : data = .dict es ep := h3;subst hc hd;exact ⟨dd, es, ep, sl, h1⟩
 | t kvs =>
  obtain ⟨_, _, vs, _, ⟨cls, dd, data, sl⟩, es, ep, h1, h2, h3, _⟩ := Bs I.hok h;have hc : cls = .type "dict" := h2.1;have hd : data = .dict es ep := h3;subst hc hd;exact ⟨dd, es, ep, sl, h1⟩
 | f b kvs =>
  obtain ⟨_, _, vs, _, ⟨cls, dd, data, sl⟩, es, ep, h1, h2, h3, _⟩ := iB I.hok (.inr ⟨b, h⟩);have hc : cls = .type "dict" := h2.1;have hd : data = .dict es ep := h3;subst hc hd;exact ⟨dd, es, ep, sl, h1⟩
theorem m4 {a : Addr} {ks : List Key} (I : Inv X pins σ H s) (h : vG X.K a ks) : H a = none := by
 obtain ⟨o, _, _, hk, _⟩ := h;exact (I.bs a o (I.mod.kin a o hk)).2
theorem mq {a : Addr} {xs : List V} {o : DO} (I : Inv X pins σ H s) (h : eP X.K H a xs) (h' : H a = some o.ho) : False := by
 obtain ⟨_, _, ⟨ob, n, e, c, _⟩, _⟩ := I.list h;obtain ⟨dd, es, ep, sl, e'⟩ := fU I h';rw [e] at e';cases e';exact absurd c (by simp)
theorem eF {a : Addr} {xs ys : List V} (I : Inv X pins σ H s) (h : eP X.K H a xs) (h' : rH X.K H a ys) : False := by
 obtain ⟨_, _, ⟨o, n, e, c, _⟩, _⟩ := I.list h;obtain ⟨_, _, ⟨o', e', c', _⟩, _⟩ := I.tuple h';rw [e] at e'; cases e';rw [c] at c';exact absurd c' (by decide)
mutual
theorem In.inj (I : Inv X pins σ H s) : ∀ {d d' : D} {v : V}, In X.K H Z d v -> In X.K H Z' d' v -> d = d'
 | .non, d', v, h, h' => by
  rw [ba.mp h] at h'
  cases d' with
  | non => rfl
  | bl b => cases bp.mp h'
  | int b => cases av.mp h'
  | str b => cases in_str.mp h'
  | lst b => obtain ⟨_, _, e, _⟩ := ah.mp h'; cases e
  | tup b => obtain ⟨_, _, e, _⟩ := aK h'; cases e
  | dct b => obtain ⟨_, e, _⟩ := aZ.mp h'; cases e
  | ktup b => obtain ⟨_, e, _⟩ := aX.mp h'; cases e
  | agg s b => exact absurd h' bB
 | .bl x, d', v, h, h' => by
  rw [bp.mp h] at h'
  cases d' with
  | non => cases ba.mp h'
  | bl b => cases bp.mp h'; rfl
  | int b => cases av.mp h'
  | str b => cases in_str.mp h'
  | lst b => obtain ⟨_, _, e, _⟩ := ah.mp h'; cases e
  | tup b => obtain ⟨_, _, e, _⟩ := aK h'; cases e
  | dct b => obtain ⟨_, e, _⟩ := aZ.mp h'; cases e
  | ktup b => obtain ⟨_, e, _⟩ := aX.mp h'; cases e
  | agg s b => exact absurd h' bB
 | .int x, d', v, h, h' => by
  rw [av.mp h] at h'
  cases d' with
  | non => cases ba.mp h'
  | bl b => cases bp.mp h'
  | int b => cases av.mp h'; rfl
  | str b => cases in_str.mp h'
  | lst b => obtain ⟨_, _, e, _⟩ := ah.mp h'; cases e
  | tup b => obtain ⟨_, _, e, _⟩ := aK h'; cases e
  | dct b => obtain ⟨_, e, _⟩ := aZ.mp h'; cases e
  | ktup b => obtain ⟨_, e, _⟩ := aX.mp h'; cases e
  | agg s b => exact absurd h' bB
 | .str x, d', v, h, h' => by
  rw [in_str.mp h] at h'
  cases d' with
  | non => cases ba.mp h'
  | bl b => cases bp.mp h'
  | int b => cases av.mp h'
  | str b => cases in_str.mp h'; rfl
  | lst b => obtain ⟨_, _, e, _⟩ := ah.mp h'; cases e
  | tup b => obtain ⟨_, _, e, _⟩ := aK h'; cases e
  | dct b => obtain ⟨_, e, _⟩ := aZ.mp h'; cases e
  | ktup b => obtain ⟨_, e, _⟩ := aX.mp h'; cases e
  | agg s b => exact absurd h' bB
 | .lst ds, d', v, h, h' => by
  obtain ⟨a, xs, rfl, l, j⟩ := ah.mp h
  cases d' with
  | non => cases ba.mp h'
  | bl b => cases bp.mp h'
  | int b => cases av.mp h'
  | str b => cases in_str.mp h'
  | lst es =>
   obtain ⟨_, ys, e, l', j'⟩ := ah.mp h';cases e;have := I.lR l.sq l'.sq;subst this;rw [aC.inj I j j']
  | tup es =>
   obtain ⟨_, ys, e, l', j'⟩ := aK h';cases e;exact (eF I l.sq l').elim
  | dct o =>
   obtain ⟨_, e, l', _⟩ := aZ.mp h';cases e;exact (mq I l.sq l').elim
  | agg s b => exact absurd h' bB
  | ktup ks =>
   obtain ⟨_, e, l'⟩ := aX.mp h';cases e;exact (eF I l.sq l'.sq).elim
 | .tup ds, d', v, h, h' => by
  obtain ⟨a, xs, rfl, l, j⟩ := aK h
  cases d' with
  | non => cases ba.mp h'
  | bl b => cases bp.mp h'
  | int b => cases av.mp h'
  | str b => cases in_str.mp h'
  | lst es =>
   obtain ⟨_, ys, e, l', j'⟩ := ah.mp h';cases e;exact (eF I l'.sq l).elim
  | tup es =>
   obtain ⟨_, ys, e, l', j'⟩ := aK h';cases e;have := I.nD l l';subst this;rw [aC.inj I j j']
  | dct o =>
   obtain ⟨_, e, l', _⟩ := aZ.mp h';cases e;obtain ⟨_, _, e, l, _⟩ := bh.mp h;cases e;rw [l] at l';exact ((MO.d o).vj (Option.some.inj l').symm).elim
  | agg s b => exact absurd h' bB
  | ktup ks =>
   obtain ⟨_, e, l'⟩ := aX.mp h';cases e;obtain ⟨_, _, e, l, _⟩ := bh.mp h;cases e;rw [m4 I l'] at l;cases l
 | .ktup ks, d', v, h, h' => by
  obtain ⟨a, rfl, l⟩ := aX.mp h
  cases d' with
  | non => cases ba.mp h'
  | bl b => cases bp.mp h'
  | int b => cases av.mp h'
  | str b => cases in_str.mp h'
  | lst es =>
   obtain ⟨_, ys, e, l', _⟩ := ah.mp h';cases e;exact (eF I l'.sq l.sq).elim
  | tup es =>
   obtain ⟨_, ys, e, l', _⟩ := bh.mp h';cases e;rw [m4 I l] at l';cases l'
  | dct o =>
   obtain ⟨_, e, l', _⟩ := aZ.mp h';cases e;rw [m4 I l] at l';cases l'
  | agg s b => exact absurd h' bB
  | ktup ks' =>
   obtain ⟨_, e, l'⟩ := aX.mp h';cases e;rw [uf (I.nD (l.sq (H := H)) (l'.sq (H := H)))]
 | .agg s b, d', v, h, h' => absurd h bB
 | .dct o, d', v, h, h' => by
  obtain ⟨a, rfl, l, _⟩ := aZ.mp h
  cases d' with
  | non => cases ba.mp h'
  | bl b => cases bp.mp h'
  | int b => cases av.mp h'
  | str b => cases in_str.mp h'
  | lst es =>
   obtain ⟨_, ys, e, l', _⟩ := ah.mp h';cases e;exact (mq I l'.sq l).elim
  | tup es =>
   obtain ⟨_, ys, e, l', _⟩ := bh.mp h';cases e;rw [l'] at l;exact ((MO.d o).vj (Option.some.inj l).symm).elim
  | dct o' =>
   obtain ⟨_, e, l', _⟩ := aZ.mp h';cases e;rw [l] at l';rw [DO.inj (Option.some.inj l')]
  | agg s b => exact absurd h' bB
  | ktup ks =>
   obtain ⟨_, e, l'⟩ := aX.mp h';cases e;rw [m4 I l'] at l;cases l
theorem aC.inj (I : Inv X pins σ H s) : ∀ {ds ds' : List D} {vs : List V}, aC X.K H Z ds vs -> aC X.K H Z' ds' vs -> ds = ds'
 | [], ds', _, h, h' => by
  rw [ay.mp h] at h'
  cases ds' with
  | nil => rfl
  | cons d ds => obtain ⟨_, _, e, _⟩ := ag.mp h'; cases e
 | d :: ds, ds', _, h, h' => by
  obtain ⟨v, r, rfl, i, j⟩ := ag.mp h
  cases ds' with
  | nil => cases ay.mp h'
  | cons d' ds' =>
   obtain ⟨v', r', e, i', j'⟩ := ag.mp h';cases e;rw [In.inj I i i', aC.inj I j j']
end
theorem ka : ∀ (ks : List Key) (ds : List D), jX ks ds = cX (ks.map kD) ds
 | [], [] => by simp [jX, cX]
 | [], _ :: _ => by simp [jX, cX]
 | _ :: _, [] => by simp [jX, cX]
 | .inl a :: ks, d :: ds => by
  simp only [jX, map_cons, cX, kD];rw [ka ks ds];cases d <;> simp [Ed, aP]
 | .inr a :: ks, d :: ds => by
  simp only [jX, map_cons, cX, kD];rw [ka ks ds];cases d <;> simp [Ed, aP]
theorem oF : ∀ ks : List Key, b0 (ks.map kD) = 0
 | [] => by simp [b0]
 | .inl a :: ks => by simp [b0, kD, D.dep, oF ks]
 | .inr a :: ks => by simp [b0, kD, D.dep, oF ks]
open PySem.SeqAt in
theorem kY (I : Inv X pins σ H s) : ∀ (n : Nat) {A : Around} {d d' : D} {v v' : V} {u u' : Value}, In X.K H Z d v -> In X.K H Z' d' v' -> RelV v u -> RelV v' u' -> d.dep <= n -> A.units + n < cLine -> EqAt A s u u' (aP d d') := by
 intro n
 induction n with
 | zero =>
  intro A d d' v v' u u' i i' r r' hd hu;have hu0 : A.units < cLine := by omega
  have key : ∀ {x : V}, Dt x = true -> v = x -> (∀ y, In X.K H Z' d' y -> RelV y u' -> EqAt A s u u' (aP d d')) -> EqAt A s u u' (aP d d') := fun _ _ h => h v' i' r'
  cases d with
  | lst ds => unfold D.dep at hd; omega
  | tup ds => unfold D.dep at hd; omega
  | dct o => unfold D.dep at hd; omega
  | ktup o => unfold D.dep at hd; omega
  | agg s o => unfold D.dep at hd; omega
  | non =>
   cases ba.mp i; cases r
   cases d' with
   | non => cases ba.mp i'; cases r'; simp only [aP]; exact EqAt.same _
   | bl b => cases bp.mp i'; cases r'; simp only [aP]; exact EqAt.none_bool b
   | int b => cases av.mp i'; obtain ⟨t, rfl⟩ := r'; simp only [aP]; exact EqAt.none_int b t
   | str b => cases in_str.mp i'; obtain ⟨t, rfl⟩ := r'; simp only [aP]; exact EqAt.none_str b t
   | lst b => obtain ⟨a, xs, rfl, l, j⟩ := ah.mp i'; cases r'; obtain ⟨its, _, pl, _⟩ := I.list l.sq; simp only [aP]; exact EqAt.none_list pl.isList hu0
   | tup b => obtain ⟨a, xs, rfl, l, j⟩ := aK i'; cases r'; obtain ⟨its, _, pl, _⟩ := I.tuple l; simp only [aP]; exact EqAt.none_tuple pl hu0
   | dct b => obtain ⟨a, rfl, l, _⟩ := aZ.mp i'; cases r'; simp only [aP]; exact DEq.AG (fU I l) hu0
   | agg s b => exact absurd i' bB
   | ktup b => obtain ⟨a, rfl, l⟩ := aX.mp i'; cases r'; obtain ⟨its, _, pl, _⟩ := I.tuple (l.sq (H := H)); simp only [aP]; exact EqAt.none_tuple pl hu0
  | bl x =>
   cases bp.mp i; cases r
   cases d' with
   | non => cases ba.mp i'; cases r'; simp only [aP]; exact EqAt.bool_none x
   | bl b => cases bp.mp i'; cases r'; simp only [aP]; exact EqAt.bool_bool x b
   | int b => cases av.mp i'; obtain ⟨t, rfl⟩ := r'; simp only [aP]; exact EqAt.bool_int x b t
   | str b => cases in_str.mp i'; obtain ⟨t, rfl⟩ := r'; simp only [aP]; exact EqAt.bool_str x b t
   | lst b => obtain ⟨a, xs, rfl, l, j⟩ := ah.mp i'; cases r'; obtain ⟨its, _, pl, _⟩ := I.list l.sq; simp only [aP]; exact EqAt.bool_list x pl.isList hu0
   | tup b => obtain ⟨a, xs, rfl, l, j⟩ := aK i'; cases r'; obtain ⟨its, _, pl, _⟩ := I.tuple l; simp only [aP]; exact EqAt.bool_tuple x pl hu0
   | dct b => obtain ⟨a, rfl, l, _⟩ := aZ.mp i'; cases r'; simp only [aP]; exact DEq.Af x (fU I l) hu0
   | agg s b => exact absurd i' bB
   | ktup b => obtain ⟨a, rfl, l⟩ := aX.mp i'; cases r'; obtain ⟨its, _, pl, _⟩ := I.tuple (l.sq (H := H)); simp only [aP]; exact EqAt.bool_tuple x pl hu0
  | int x =>
   cases av.mp i; obtain ⟨t0, rfl⟩ := r
   cases d' with
   | non => cases ba.mp i'; cases r'; simp only [aP]; exact EqAt.int_none x t0
   | bl b => cases bp.mp i'; cases r'; simp only [aP]; exact EqAt.int_bool x t0 b
   | int b => cases av.mp i'; obtain ⟨t, rfl⟩ := r'; simp only [aP]; exact EqAt.int_int x t0 b t
   | str b => cases in_str.mp i'; obtain ⟨t, rfl⟩ := r'; simp only [aP]; exact EqAt.int_str x t0 b t
   | lst b => obtain ⟨a, xs, rfl, l, j⟩ := ah.mp i'; cases r'; obtain ⟨its, _, pl, _⟩ := I.list l.sq; simp only [aP]; exact EqAt.int_list x t0 pl.isList hu0
   | tup b => obtain ⟨a, xs, rfl, l, j⟩ := aK i'; cases r'; obtain ⟨its, _, pl, _⟩ := I.tuple l; simp only [aP]; exact EqAt.int_tuple x t0 pl hu0
   | dct b => obtain ⟨a, rfl, l, _⟩ := aZ.mp i'; cases r'; simp only [aP]; exact DEq.Cn x t0 (fU I l) hu0
   | agg s b => exact absurd i' bB
   | ktup b => obtain ⟨a, rfl, l⟩ := aX.mp i'; cases r'; obtain ⟨its, _, pl, _⟩ := I.tuple (l.sq (H := H)); simp only [aP]; exact EqAt.int_tuple x t0 pl hu0
  | str x =>
   cases in_str.mp i; obtain ⟨t0, rfl⟩ := r
   cases d' with
   | non => cases ba.mp i'; cases r'; simp only [aP]; exact EqAt.str_none x t0
   | bl b => cases bp.mp i'; cases r'; simp only [aP]; exact EqAt.str_bool x t0 b
   | int b => cases av.mp i'; obtain ⟨t, rfl⟩ := r'; simp only [aP]; exact EqAt.str_int x t0 b t
   | str b => cases in_str.mp i'; obtain ⟨t, rfl⟩ := r'; simp only [aP]; exact EqAt.str_str x t0 b t
   | lst b => obtain ⟨a, xs, rfl, l, j⟩ := ah.mp i'; cases r'; obtain ⟨its, _, pl, _⟩ := I.list l.sq; simp only [aP]; exact EqAt.str_list x t0 pl.isList hu0
   | tup b => obtain ⟨a, xs, rfl, l, j⟩ := aK i'; cases r'; obtain ⟨its, _, pl, _⟩ := I.tuple l; simp only [aP]; exact EqAt.str_tuple x t0 pl hu0
   | dct b => obtain ⟨a, rfl, l, _⟩ := aZ.mp i'; cases r'; simp only [aP]; exact DEq.Cc x t0 (fU I l) hu0
   | agg s b => exact absurd i' bB
   | ktup b => obtain ⟨a, rfl, l⟩ := aX.mp i'; cases r'; obtain ⟨its, _, pl, _⟩ := I.tuple (l.sq (H := H)); simp only [aP]; exact EqAt.str_tuple x t0 pl hu0
 | succ n ih =>
  intro A d d' v v' u u' i i' r r' hd hu;have hu0 : A.units < cLine := by omega
  have hu1 : A.in1.units + n < cLine := by show A.units + 1 + n < cLine; omega
  have small : d.dep <= n -> EqAt A s u u' (aP d d') := fun h => ih i i' r r' h (by omega)
  -- the items, one by one
  have items : ∀ {ds es : List D} {xs ys : List V} {its its2 : GO}, b0 ds <= n -> aC X.K H Z ds xs -> aC X.K H Z' es ys -> Vals xs its -> Vals ys its2 -> ∀ j (h1 : j < its.toArray.size) (h2 : j < its2.toArray.size),
   EqAt A.in1 s its.toArray[j] its2.toArray[j] (aP (ds.getD j .non) (es.getD j .non)) := fun {ds es xs ys its its2} hdn jx jy rx ry j h1 h2 => by
   have z1 := jx.length; have z2 := jy.length; have z3 := rx.length; have z4 := ry.length;simp at h1 h2;have hj1 : j < ds.length := by omega
   have hj2 : j < es.length := by omega
   obtain ⟨x, ex, ix⟩ := jx.get (i := j) (d := ds[j]) (by simp [hj1]);obtain ⟨y, ey, iy⟩ := jy.get (i := j) (d := es[j]) (by simp [hj2]);obtain ⟨w1, f1, q1⟩ := rx.get ex;obtain ⟨w2, f2, q2⟩ := ry.get ey;have g1 : its.toArray[j] = w1 := by
    have := (List.getElem?_eq_some_iff.mp f1).2;simpa using this
   have g2 : its2.toArray[j] = w2 := by
    have := (List.getElem?_eq_some_iff.mp f2).2;simpa using this
   rw [g1, g2];have e1 : ds.getD j .non = ds[j] := by simp [hj1]
   have e2 : es.getD j .non = es[j] := by simp [hj2]
   rw [e1, e2];exact ih ix iy q1 q2 (Nat.le_trans (eQ (getElem_mem hj1)) hdn) hu1
  cases d with
  | non => exact small (by simp [D.dep])
  | bl x => exact small (by simp [D.dep])
  | int x => exact small (by simp [D.dep])
  | str x => exact small (by simp [D.dep])
  | dct o => exact absurd hu (by unfold D.dep at hd; have : cLine = 9900 := rfl; omega)
  | agg s b => exact absurd i bB
  | ktup ks0 =>
   obtain ⟨a, rfl, l⟩ := aX.mp i;cases r;obtain ⟨its, rx, pl, _⟩ := I.tuple (l.sq (H := H));have j : aC X.K H Z (ks0.map kD) (ks0.map kV) := oh ks0;have hdn : b0 (ks0.map kD) <= n := by rw [oF]; exact Nat.zero_le _
   cases d' with
   | non => cases ba.mp i'; cases r'; simp only [aP]; exact EqAt.tuple_none pl hu0
   | bl b => cases bp.mp i'; cases r'; simp only [aP]; exact EqAt.tuple_bool b pl hu0
   | int b => cases av.mp i'; obtain ⟨t, rfl⟩ := r'; simp only [aP]; exact EqAt.tuple_int b t pl hu0
   | str b => cases in_str.mp i'; obtain ⟨t, rfl⟩ := r'; simp only [aP]; exact EqAt.tuple_str b t pl hu0
   | lst es => obtain ⟨a', ys, rfl, l', j'⟩ := ah.mp i'; cases r'; obtain ⟨its2, _, pl2, _⟩ := I.list l'.sq; simp only [aP]; exact EqAt.tuple_list pl pl2.isList hu0
   | dct b => obtain ⟨a', rfl, l', _⟩ := aZ.mp i'; cases r'; simp only [aP]; exact DEq.qq pl (fU I l') hu0
   | agg s b => exact absurd i' bB
   | ktup ks =>
    obtain ⟨a', rfl, l'⟩ := aX.mp i';cases r';obtain ⟨its2, ry, pl2, _⟩ := I.tuple (l'.sq (H := H));by_cases haa : a = a'
    . subst haa;have e : D.ktup ks0 = D.ktup ks := In.inj I i i';rw [e, bw];exact EqAt.same _
    have j' : aC X.K H Z' (ks.map kD) (ks.map kV) := oh ks;refine EqAt.of_refs haa ?_;have z1 := j.length; have z2 := j'.length; have z3 := rx.length; have z4 := ry.length;simp only [aP];rw [ka, <- bC];have := RcAt.tuples (e := fun k => aP ((ks0.map kD).getD k .non) ((ks.map kD).getD k .non)) pl pl2 hu0 (items hdn j j' rx ry);have e1 : its.toArray.size = (ks0.map kD).length := by simp at z1 z3 ⊢; omega
    have e2 : its2.toArray.size = (ks.map kD).length := by simp at z2 z4 ⊢; omega
    rw [e1, e2] at this;exact this
   | tup es =>
    obtain ⟨a', ys, rfl, l', j'⟩ := aK i';cases r';obtain ⟨its2, ry, pl2, _⟩ := I.tuple l';have haa : a ≠ a' := fun z => by
     subst z;obtain ⟨_, _, e, lt, _⟩ := bh.mp i';cases e;rw [m4 I l] at lt;cases lt
    refine EqAt.of_refs haa ?_;have z1 := j.length; have z2 := j'.length; have z3 := rx.length; have z4 := ry.length;simp only [aP];rw [ka, <- bC];have := RcAt.tuples (e := fun k => aP ((ks0.map kD).getD k .non) (es.getD k .non)) pl pl2 hu0 (items hdn j j' rx ry);have e1 : its.toArray.size = (ks0.map kD).length := by simp at z1 z3 ⊢; omega
    have e2 : its2.toArray.size = es.length := by simp at z2 z4 ⊢; omega
    rw [e1, e2] at this;exact this
  | lst ds =>
   have hdn : b0 ds <= n := by unfold D.dep at hd; omega
   obtain ⟨a, xs, rfl, l, j⟩ := ah.mp i;cases r;obtain ⟨its, rx, pl, _⟩ := I.list l.sq
   cases d' with
   | non => cases ba.mp i'; cases r'; simp only [aP]; exact EqAt.list_none pl.isList hu0
   | bl b => cases bp.mp i'; cases r'; simp only [aP]; exact EqAt.list_bool b pl.isList hu0
   | int b => cases av.mp i'; obtain ⟨t, rfl⟩ := r'; simp only [aP]; exact EqAt.list_int b t pl.isList hu0
   | str b => cases in_str.mp i'; obtain ⟨t, rfl⟩ := r'; simp only [aP]; exact EqAt.list_str b t pl.isList hu0
   | tup es => obtain ⟨a', ys, rfl, l', j'⟩ := aK i'; cases r'; obtain ⟨its2, _, pl2, _⟩ := I.tuple l'; simp only [aP]; exact EqAt.list_tuple pl.isList pl2 hu0
   | dct b => obtain ⟨a', rfl, l', _⟩ := aZ.mp i'; cases r'; simp only [aP]; exact DEq.z6 pl.isList (fU I l') hu0
   | agg s b => exact absurd i' bB
   | ktup b => obtain ⟨a', rfl, l'⟩ := aX.mp i'; cases r'; obtain ⟨its2, _, pl2, _⟩ := I.tuple (l'.sq (H := H)); simp only [aP]; exact EqAt.list_tuple pl.isList pl2 hu0
   | lst es =>
    obtain ⟨a', ys, rfl, l', j'⟩ := ah.mp i';cases r';obtain ⟨its2, ry, pl2, _⟩ := I.list l'.sq;by_cases haa : a = a'
    . subst haa;have e : D.lst ds = D.lst es := In.inj I i i';rw [e, bw];exact EqAt.same _
    . refine EqAt.of_refs haa ?_;have z1 := j.length; have z2 := j'.length; have z3 := rx.length; have z4 := ry.length;simp only [aP];rw [<- bC];by_cases hsz : its.toArray.size = its2.toArray.size
      . have := RcAt.lists (e := fun k => aP (ds.getD k .non) (es.getD k .non)) pl.isList pl2.isList hsz hu0 (items hdn j j' rx ry);have e1 : its.toArray.size = min ds.length es.length := by simp at hsz ⊢; omega
        have e2 : (ds.length == es.length) = true := by simp at hsz ⊢; omega
        rw [e1] at this;rw [e2, Bool.and_true];exact this
      . have e2 : (ds.length == es.length) = false := by simp at hsz ⊢; omega
        rw [e2, Bool.and_false];exact RcAt.lists_lengths pl.isList pl2.isList (by simpa using hsz) hu0
  | tup ds =>
   have hdn : b0 ds <= n := by unfold D.dep at hd; omega
   obtain ⟨a, xs, rfl, l, j⟩ := aK i;cases r;obtain ⟨its, rx, pl, _⟩ := I.tuple l
   cases d' with
   | non => cases ba.mp i'; cases r'; simp only [aP]; exact EqAt.tuple_none pl hu0
   | bl b => cases bp.mp i'; cases r'; simp only [aP]; exact EqAt.tuple_bool b pl hu0
   | int b => cases av.mp i'; obtain ⟨t, rfl⟩ := r'; simp only [aP]; exact EqAt.tuple_int b t pl hu0
   | str b => cases in_str.mp i'; obtain ⟨t, rfl⟩ := r'; simp only [aP]; exact EqAt.tuple_str b t pl hu0
   | lst es => obtain ⟨a', ys, rfl, l', j'⟩ := ah.mp i'; cases r'; obtain ⟨its2, _, pl2, _⟩ := I.list l'.sq; simp only [aP]; exact EqAt.tuple_list pl pl2.isList hu0
   | dct b => obtain ⟨a', rfl, l', _⟩ := aZ.mp i'; cases r'; simp only [aP]; exact DEq.qq pl (fU I l') hu0
   | agg s b => exact absurd i' bB
   | ktup ks =>
    obtain ⟨a', rfl, l'⟩ := aX.mp i';cases r';obtain ⟨its2, ry, pl2, _⟩ := I.tuple (l'.sq (H := H));have j' : aC X.K H Z' (ks.map kD) (ks.map kV) := oh ks;have haa : a ≠ a' := fun z => by
     subst z;obtain ⟨_, _, e, lt, _⟩ := bh.mp i;cases e;rw [m4 I l'] at lt;cases lt
    refine EqAt.of_refs haa ?_;have z1 := j.length; have z2 := j'.length; have z3 := rx.length; have z4 := ry.length;simp only [aP];rw [<- bC];have := RcAt.tuples (e := fun k => aP (ds.getD k .non) ((ks.map kD).getD k .non)) pl pl2 hu0 (items hdn j j' rx ry);have e1 : its.toArray.size = ds.length := by simp; omega
    have e2 : its2.toArray.size = (ks.map kD).length := by simp at z2 z4 ⊢; omega
    rw [e1, e2] at this;exact this
   | tup es =>
    obtain ⟨a', ys, rfl, l', j'⟩ := aK i';cases r';obtain ⟨its2, ry, pl2, _⟩ := I.tuple l';by_cases haa : a = a'
    . subst haa;have e : D.tup ds = D.tup es := In.inj I i i';rw [e, bw];exact EqAt.same _
    . refine EqAt.of_refs haa ?_;have z1 := j.length; have z2 := j'.length; have z3 := rx.length; have z4 := ry.length;simp only [aP];rw [<- bC];have := RcAt.tuples (e := fun k => aP (ds.getD k .non) (es.getD k .non)) pl pl2 hu0 (items hdn j j' rx ry);have e1 : its.toArray.size = ds.length := by simp; omega
      have e2 : its2.toArray.size = es.length := by simp; omega
      rw [e1, e2] at this;exact this
end
section
variable {X : Cx}
open PySem.SeqAt
def pairD : D -> D -> Bool
 | .lst _, .lst _ => true
 | .tup _, .tup _ => true
 | _, _ => false
theorem B0 : kQ X (compareOp .Eq) (fun x y H Q => ∃ d d' Z Z', In X.K H Z d x /\ In X.K H Z' d' y /\ pairD d d' = true /\ X.A.units + d.dep < cLine /\ Q (.bl (aP d d')) H) := by
 intro pins s σ H x y v u Q I rx ry h;obtain ⟨d, d', Z, Z', i, i', hp, hu, q⟩ := h;have fin : EP X pins σ Q (.bool (aP d d')) s := ⟨.bl (aP d d'), H, I, rfl, q⟩
 have hu0 : X.A.units < cLine := by omega
 have items : ∀ {ds es : List D} {xs ys : List V} {its its2 : GO}, b0 ds < d.dep -> aC X.K H Z ds xs -> aC X.K H Z' es ys -> Vals xs its -> Vals ys its2 -> ∀ j (h1 : j < its.toArray.size) (h2 : j < its2.toArray.size),
  EqAt X.A.in1 s its.toArray[j] its2.toArray[j] (aP (ds.getD j .non) (es.getD j .non)) := fun {ds es xs ys its its2} hdn jx jy rx ry j h1 h2 => by
  have z1 := jx.length; have z2 := jy.length; have z3 := rx.length; have z4 := ry.length;simp at h1 h2;have hj1 : j < ds.length := by omega
  have hj2 : j < es.length := by omega
  obtain ⟨x, ex, ix⟩ := jx.get (i := j) (d := ds[j]) (by simp [hj1]);obtain ⟨y, ey, iy⟩ := jy.get (i := j) (d := es[j]) (by simp [hj2]);obtain ⟨w1, f1, q1⟩ := rx.get ex;obtain ⟨w2, f2, q2⟩ := ry.get ey;have g1 : its.toArray[j] = w1 := by
   have := (List.getElem?_eq_some_iff.mp f1).2;simpa using this
  have g2 : its2.toArray[j] = w2 := by
   have := (List.getElem?_eq_some_iff.mp f2).2;simpa using this
  rw [g1, g2];have e1 : ds.getD j .non = ds[j] := by simp [hj1]
  have e2 : es.getD j .non = es[j] := by simp [hj2]
  rw [e1, e2];exact kY I (d.dep - 1) ix iy q1 q2 (by have := eQ (getElem_mem hj1); omega) (by show X.A.units + 1 + (d.dep - 1) < cLine; omega)
 unfold pairD at hp;split at hp
 . rename_i ds es;obtain ⟨a, xs, rfl, l, j⟩ := ah.mp i;obtain ⟨a', ys, rfl, l', j'⟩ := ah.mp i';cases rx; cases ry;obtain ⟨its, rx, pl, _⟩ := I.list l.sq;obtain ⟨its2, ry, pl2, _⟩ := I.list l'.sq;have z1 := j.length; have z2 := j'.length; have z3 := rx.length; have z4 := ry.length;simp only [aP] at fin;rw [<- bC] at fin;by_cases hsz : its.toArray.size = its2.toArray.size
   . have e1 : its.toArray.size = min ds.length es.length := by simp at hsz ⊢; omega
     have e2 : (ds.length == es.length) = true := by simp at hsz ⊢; omega
     rw [e2, Bool.and_true, <- e1] at fin;exact eq_listAt (e := fun k => aP (ds.getD k .non) (es.getD k .non)) pl.isList pl2.isList hsz hu0 (items (by simp [D.dep]) j j' rx ry) fin
   . have e2 : (ds.length == es.length) = false := by simp at hsz ⊢; omega
     rw [e2, Bool.and_false] at fin;exact eq_list_lengthsAt pl.isList pl2.isList (by simpa using hsz) hu0 fin
 . rename_i ds es;obtain ⟨a, xs, rfl, l, j⟩ := aK i;obtain ⟨a', ys, rfl, l', j'⟩ := aK i';cases rx; cases ry;obtain ⟨its, rx, pl, _⟩ := I.tuple l;obtain ⟨its2, ry, pl2, _⟩ := I.tuple l';have z1 := j.length; have z2 := j'.length; have z3 := rx.length; have z4 := ry.length;simp only [aP] at fin;rw [<- bC] at fin;have e1 : its.toArray.size = ds.length := by simp; omega
   have e2 : its2.toArray.size = es.length := by simp; omega
   rw [<- e1, <- e2] at fin;exact eq_tupleAt (e := fun k => aP (ds.getD k .non) (es.getD k .non)) pl pl2 hu0 (items (by simp [D.dep]) j j' rx ry) fin
 . cases hp
theorem BW : kQ X (compareOp .NotEq) (fun x y H Q => ∃ d d' Z Z', In X.K H Z d x /\ In X.K H Z' d' y /\ pairD d d' = true /\ X.A.units + d.dep < cLine /\ Q (.bl (!aP d d')) H) := by
 intro pins s σ H x y v u Q I rx ry h;obtain ⟨d, d', Z, Z', i, i', hp, hu, q⟩ := h;have fin : EP X pins σ Q (.bool (!aP d d')) s := ⟨.bl (!aP d d'), H, I, rfl, q⟩
 have hu0 : X.A.units < cLine := by omega
 have items : ∀ {ds es : List D} {xs ys : List V} {its its2 : GO}, b0 ds < d.dep -> aC X.K H Z ds xs -> aC X.K H Z' es ys -> Vals xs its -> Vals ys its2 -> ∀ j (h1 : j < its.toArray.size) (h2 : j < its2.toArray.size),
  EqAt X.A.in1 s its.toArray[j] its2.toArray[j] (aP (ds.getD j .non) (es.getD j .non)) := fun {ds es xs ys its its2} hdn jx jy rx ry j h1 h2 => by
  have z1 := jx.length; have z2 := jy.length; have z3 := rx.length; have z4 := ry.length;simp at h1 h2;have hj1 : j < ds.length := by omega
  have hj2 : j < es.length := by omega
  obtain ⟨x, ex, ix⟩ := jx.get (i := j) (d := ds[j]) (by simp [hj1]);obtain ⟨y, ey, iy⟩ := jy.get (i := j) (d := es[j]) (by simp [hj2]);obtain ⟨w1, f1, q1⟩ := rx.get ex;obtain ⟨w2, f2, q2⟩ := ry.get ey;have g1 : its.toArray[j] = w1 := by
   have := (List.getElem?_eq_some_iff.mp f1).2;simpa using this
  have g2 : its2.toArray[j] = w2 := by
   have := (List.getElem?_eq_some_iff.mp f2).2;simpa using this
  rw [g1, g2];have e1 : ds.getD j .non = ds[j] := by simp [hj1]
  have e2 : es.getD j .non = es[j] := by simp [hj2]
  rw [e1, e2];exact kY I (d.dep - 1) ix iy q1 q2 (by have := eQ (getElem_mem hj1); omega) (by show X.A.units + 1 + (d.dep - 1) < cLine; omega)
 unfold pairD at hp;split at hp
 . rename_i ds es;obtain ⟨a, xs, rfl, l, j⟩ := ah.mp i;obtain ⟨a', ys, rfl, l', j'⟩ := ah.mp i';cases rx; cases ry;obtain ⟨its, rx, pl, _⟩ := I.list l.sq;obtain ⟨its2, ry, pl2, _⟩ := I.list l'.sq;have z1 := j.length; have z2 := j'.length; have z3 := rx.length; have z4 := ry.length;simp only [aP] at fin;rw [<- bC] at fin;by_cases hsz : its.toArray.size = its2.toArray.size
   . have e1 : its.toArray.size = min ds.length es.length := by simp at hsz ⊢; omega
     have e2 : (ds.length == es.length) = true := by simp at hsz ⊢; omega
     rw [e2, Bool.and_true, <- e1] at fin;exact RcNeAt.lists (e := fun k => aP (ds.getD k .non) (es.getD k .non)) pl.isList pl2.isList hsz hu0 (items (by simp [D.dep]) j j' rx ry) _ _ _ _ fin
   . have e2 : (ds.length == es.length) = false := by simp at hsz ⊢; omega
     rw [e2, Bool.and_false] at fin;exact RcNeAt.lists_lengths pl.isList pl2.isList (by simpa using hsz) hu0 _ _ _ _ fin
 . rename_i ds es;obtain ⟨a, xs, rfl, l, j⟩ := aK i;obtain ⟨a', ys, rfl, l', j'⟩ := aK i';cases rx; cases ry;obtain ⟨its, rx, pl, _⟩ := I.tuple l;obtain ⟨its2, ry, pl2, _⟩ := I.tuple l';have z1 := j.length; have z2 := j'.length; have z3 := rx.length; have z4 := ry.length;simp only [aP] at fin;rw [<- bC] at fin;have e1 : its.toArray.size = ds.length := by simp; omega
   have e2 : its2.toArray.size = es.length := by simp; omega
   rw [<- e1, <- e2] at fin;exact RcNeAt.tuples (e := fun k => aP (ds.getD k .non) (es.getD k .non)) pl pl2 hu0 (items (by simp [D.dep]) j j' rx ry) _ _ _ _ fin
 . cases hp
end
section
variable {X : Cx} {ρ : List (Option D)} {m1 m2 : Bool} {a b : Expr} {d d' : D} {pos : Pos}
theorem Be (ha : E X m1 ρ a d) (hb : E X m2 ρ b d') (hp : pairD d d' = true) (hu : X.A.units + d.dep < cLine) : E X true ρ (.Compare a [.Eq] [b] pos) (.bl (aP d d')) :=
 Es B0 ha hb (fun x y H Z Q _ i1 i2 k => ⟨d, d', Z, Z, i1, i2, hp, hu, k _ _ (ao.refl H) (bp.mpr rfl)⟩) (jk _)
theorem nI (ha : E X m1 ρ a d) (hb : E X m2 ρ b d') (hp : pairD d d' = true) (hu : X.A.units + d.dep < cLine) : T X ρ (.Compare a [.NotEq] [b] pos) (!aP d d') :=
 nO BW ha hb (fun x y H Z Q _ i1 i2 k => ⟨d, d', Z, Z, i1, i2, hp, hu, k _ (ao.refl H)⟩) (jk _)
end
section
variable {X : Cx} {F : Fn} {ρ : bX} {Q : ft} {rest : List Stmt} {e : Expr} {d : D} {pos p : Pos} {x : Str} {fr m1 : Bool} {ds : List D} {dss : List (List D)}
theorem kO (i : Nat) {x : Str} {d : D} (he : EC X true (view true false ρ) e d) (hr : SD X F rest (ρ.set i (some (.pl true d))) Q) (hN : X.N.Nodup) (hi : X.N[i]? = some x := by rfl)
 (hx : Loc X.env.scope x := by first | exact Or.inl rfl | exact Or.inr rfl) (hρ : i < ρ.length := by exact of_decide_eq_true rfl) (hs : swapsWith e (some (.Name x p)) pos.line X.env = pure true := by rfl) (hf : HfX X x := by first | exact .inl rfl | exact .inr rfl) :
 SD X F (.Assign [.Name x p] e pos :: rest) ρ Q :=
 aM (PS.mono (he.s x i pos p hN hi hx hs hf) fun Q' σ H z0 => d8 z0 fun hv hρ' A hl S f => ⟨_, ar S true false, S.env hl true false, fun v H1 s1 i1 => f.nx _ H1 (kX hl S hρ s1 (In.up (cN S true) i1))⟩) hr
theorem aW.p6 {K : Frag} {H : Hp} {σ hv : St} {hρ : bX} {A : Nat -> List Addr} {i : Nat} (S : aW K F H (σ ++ hv) (ρ ++ hρ) A) (hl : σ.length = ρ.length) (h : ρ[i]? = some (some (.p6 fr dss))) :
 ∃ l as, σ[i]? = some (some (.ref l)) /\ A i = l :: as /\ H l = some (.lst (as.map V.ref)) /\ bS K H (zn F (az A) fr) dss as := by
 have hi : i < ρ.length := (List.getElem?_eq_some_iff.mp h).1;obtain ⟨v, a, l, as, e1, rfl, e2, j⟩ := S.at' i _ (by rw [getElem?_append_left hi]; exact h);rw [getElem?_append_left (by omega)] at a;exact ⟨l, as, a, e1, e2, j⟩
theorem bS.length {K : Frag} {H : Hp} {Z : ax} {as : List Addr} (h : bS K H Z dss as) : dss.length = as.length := Paired.length h
theorem bS.snoc {K : Frag} {H : Hp} {Z : ax} {as : List Addr} {ds : List D} {a : Addr} {xs : List V} (h : bS K H Z dss as) (e : H a = some (.lst xs)) (i : aC K H Z ds xs) : bS K H Z (dss ++ [ds]) (as ++ [a]) := Paired.snoc h ⟨xs, e, i⟩
theorem bS.yG {K : Frag} {H : Hp} {Z : ax} : ∀ {dss : List (List D)} {as : List Addr} {ds : List D}, bS K H Z (dss ++ [ds]) as -> ∃ bs a xs, as = bs ++ [a] /\ bS K H Z dss bs /\ H a = some (.lst xs) /\ aC K H Z ds xs
 | [], as, ds, h => by
  cases h with
  | cons r t => cases t; obtain ⟨xs, e, i⟩ := r; exact ⟨[], _, xs, rfl, .nil, e, i⟩
 | d :: dss, as, ds, h => by
  cases h with
  | cons r t =>
   obtain ⟨bs, a, xs, rfl, h1, e, i⟩ := bS.yG t;exact ⟨_ :: bs, a, xs, rfl, .cons r h1, e, i⟩
theorem qZ (i : Nat) {x : Str} {ap cp : Pos} {dss : List (List D)} (fr : Bool) (h : ρ[i]? = some (some (.p6 fr dss)) := by rfl) (he : E X true (view true false ρ) e (.lst [])) (hz : dss.length < 1000) (hr : SD X F rest (ρ.set i (some (.p6 fr (dss ++ [[]])))) Q)
 (hN : X.N[i]? = some x := by rfl) (hv : kb X.env.scope x := by first | exact Or.inl rfl | exact Or.inr (Or.inl rfl) | exact Or.inr (Or.inr rfl)) (hd : NdX x := by decide) (hcd : NcX x := by decide)
 (hbase : attributeBase (.Name x p) "append" X.env (eval (.Name x p) X.env) = eval (.Name x p) X.env := by rfl) (hline : (ap.endLine == cp.line) = true := by rfl)
 (hs : starEach [e] X.env = [(false, eval e X.env)] := by rfl) (hsw : swapsWith (.Call (.Attribute (.Name x p) "append" ap) [e] [] cp) none pos.line X.env = pure false := by rfl) :
 SD X F (.Expr (.Call (.Attribute (.Name x p) "append" ap) [e] [] cp) pos :: rest) ρ Q := by
 refine aM (PS.mono (bU (fW PySem.F.plainAttrs_list PySem.F.slot_list_append PySem.F.type_list_append bP (bx hN hv hd hcd) (aJ he bc (by rw [hs]; rfl)) hbase (by rw [hs]; rfl) hline (by rw [hs]; rfl) rfl) hsw) ?_) hr;rintro Q' σ H ⟨hv, hρ, A, hl, S, f⟩;obtain ⟨l, as, e1, e2, e3, j⟩ := S.p6 hl h;have hi : i < σ.length := (List.getElem?_eq_some_iff.mp e1).1;refine ⟨.ref l, e1, .inl ⟨rfl, _, eP.of e3⟩, _, ar S true false, S.env hl true false, fun v H1 s1 i1 => ?_⟩;obtain ⟨a, ys, rfl, at', jn⟩ := ah.mp i1;cases ay.mp jn;obtain ⟨ea, en⟩ : H1 a = some (.lst []) /\ H a = none := by
  rcases at' with z | z
  . exact z
  . exact absurd z.1 (by simp [out, nw])
 have hlen : (as.map V.ref).length < sizeLine := by rw [length_map, <- j.length]; exact aR (by omega)
 refine ⟨l, _, .ref a, rfl, rfl, s1.at e3, hlen, f.nx _ _ ?_⟩;have hal : a ≠ l := by rintro rfl; rw [e3] at en; cases en
 have haA : ∀ j, a ∉ A j := fun j hj => by obtain ⟨xs, e⟩ := S.lst j a hj; rw [en] at e; cases e
 have hnd := S.nd i;rw [e2] at hnd;have hl0 : l ∉ as := (nodup_cons.mp hnd).1;have kk : ∀ b o, H b = some o -> y9 o = false -> b ∉ A i -> (upd H1 l (.lst (as.map V.ref ++ [.ref a]))) b = some o := fun b o e n hb => by
  rw [e2] at hb;have : b ≠ l := fun z => hb (by simp [z]);rw [aa this]; exact s1.get b o e n
 have mine : ∀ b ∈ l :: (as ++ [a]), b ∈ A i \/ H b = none := fun b hb => by
  rcases mem_cons.mp hb with z | hb
  . exact .inl (by rw [e2, z]; simp)
  . rcases mem_append.mp hb with hb | hb
    . exact .inl (by rw [e2]; simp [hb])
    . have : b = a := by simpa using hb
      exact .inr (by rw [this]; exact en)
 refine ⟨_, aL A i (l :: (as ++ [a])), by simp [hl], ?_, rfl⟩;have key := S.re (i := i) (v := .ref l) (sl := .p6 fr (dss ++ [[]])) (l := l :: (as ++ [a])) (H2 := upd H1 l (.lst (as.map V.ref ++ [.ref a]))) (by rw [List.length_append]; omega) (by rw [List.length_append]; omega) ((S.same.trans s1).write (S.new i l (by rw [e2]; simp)) (s1.at e3)) kk ?_ (fun b hb => ⟨mine b hb, ?_⟩) ⟨l, as ++ [a], rfl, rfl, ?_, ?_⟩
 . rw [bG (by rw [getElem?_append_left hi]; exact e1), aH (by omega)] at key;exact key
 . have n1 : a ∉ l :: as := by rw [<- e2]; exact haA i
   rw [<- cons_append];exact List.nodup_append.mpr ⟨hnd, by simp, fun b hb c hc => by
    have : c = a := by simpa using hc
    subst this;rintro rfl;exact n1 hb⟩
 . rcases mem_cons.mp hb with z | hb
   . exact ⟨.l _, by rw [z, ae]; rfl⟩
   . rcases mem_append.mp hb with hb | hb
     . have : b ≠ l := fun z => hl0 (z ▸ hb);obtain ⟨xs, e⟩ := S.lst i b (by rw [e2]; simp [hb]);exact ⟨xs, by rw [aa this]; exact s1.at e xs.nt⟩
     . have : b = a := by simpa using hb
       rw [this, aa hal];exact ⟨.l _, ea⟩
 . rw [ae, map_append]; rfl
 . refine bS.snoc (xs := []) (j.carry (fun b xs hb e => ?_) (ij S kk mine fr)) (by rw [aa hal]; exact ea) (ay.mpr rfl);have : b ≠ l := by rintro rfl; exact hl0 hb
   rw [aa this]; exact s1.at e
theorem sN (i : Nat) {x : Str} {ap cp sp : Pos} {ix : Expr} {mi : Bool} {dss : List (List D)} {ds : List D} (fr : Bool) {d : D} (h : ρ[i]? = some (some (.p6 fr (dss ++ [ds]))) := by rfl) (hix : E X mi (view true false ρ) ix (.int (-1))) (he : E X m1 (view true false ρ) e d) (fl : d.flat = true) (hz : ds.length < 1000)
 (hr : SD X F rest (ρ.set i (some (.p6 fr (dss ++ [ds ++ [d]])))) Q)
 (hN : X.N[i]? = some x := by rfl) (hv : kb X.env.scope x := by first | exact Or.inl rfl | exact Or.inr (Or.inl rfl) | exact Or.inr (Or.inr rfl)) (hd : NdX x := by decide) (hcd : NcX x := by decide)
 (hpi : hU ix := by intro _ _; rfl) (hbase : attributeBase (.Subscript (.Name x p) ix sp) "append" X.env (eval (.Subscript (.Name x p) ix sp) X.env) = eval (.Subscript (.Name x p) ix sp) X.env := by rfl)
 (hline : (ap.endLine == cp.line) = true := by rfl)
 (hs : starEach [e] X.env = [(false, eval e X.env)] := by rfl) (hsw : swapsWith (.Call (.Attribute (.Subscript (.Name x p) ix sp) "append" ap) [e] [] cp) none pos.line X.env = pure false := by rfl) :
 SD X F (.Expr (.Call (.Attribute (.Subscript (.Name x p) ix sp) "append" ap) [e] [] cp) pos :: rest) ρ Q := by
 refine aM (PS.mono (bU (fW PySem.F.plainAttrs_list PySem.F.slot_list_append PySem.F.type_list_append bP (uE ux (bx hN hv hd hcd) hix hpi) (aJ he bc (by rw [hs]; rfl)) hbase (by rw [hs]; rfl) hline (by rw [hs]; rfl) rfl) hsw) ?_) hr;rintro Q' σ H ⟨hv, hρ, A, hl, S, f⟩;obtain ⟨l, as, e1, e2, e3, j⟩ := S.p6 hl h;have hi : i < σ.length := (List.getElem?_eq_some_iff.mp e1).1;obtain ⟨bs, a, xs, rfl, j1, ea, ja⟩ := j.yG;have hnd := S.nd i;rw [e2] at hnd;have hal : a ≠ l := fun z => (nodup_cons.mp hnd).1 (by simp [z]);have hab : a ∉ bs := fun z => by
  have := (List.nodup_append.mp (nodup_cons.mp hnd).2).2.2 a z a (by simp);exact this rfl
 refine ⟨.ref l, e1, _, ar S true false, S.env hl true false, fun y H1 s1 i1 => ⟨l, _, -1, .ref a, rfl, av.mp (i1.plain (ar S true false)), eP.of (s1.at e3), ?_, .inl ⟨rfl, xs, eP.of (s1.at ea)⟩, _, (ar S true false).same s1, (S.env hl true false).same s1, fun w H2 s2 i2 => ?_⟩⟩
 . rw [map_append]; exact xf _ _
 . have s12 := s1.trans s2;have S2 := S.grow s12;have hlen : xs.length < sizeLine := by rw [<- ja.length]; exact aR (by omega)
   refine ⟨a, xs, w, rfl, rfl, s12.at ea, hlen, f.nx _ _ ?_⟩;have aA : a ∈ A i := by rw [e2]; simp
   have kk : ∀ b o, H2 b = some o -> y9 o = false -> b ∉ A i -> (upd H2 a (.lst (xs ++ [w]))) b = some o := fun b o e n hb => by
    have : b ≠ a := fun z => hb (z ▸ aA);rw [aa this]; exact e
   have mine : ∀ b ∈ l :: (bs ++ [a]), b ∈ A i \/ H2 b = none := fun b hb => .inl (by rw [e2]; exact hb);refine ⟨_, aL A i (l :: (bs ++ [a])), by simp [hl], ?_, rfl⟩;have key := S2.re (i := i) (v := .ref l) (sl := .p6 fr (dss ++ [ds ++ [d]])) (l := l :: (bs ++ [a])) (H2 := upd H2 a (.lst (xs ++ [w]))) (by rw [List.length_append]; omega) (by rw [List.length_append]; omega) (S2.same.write (S2.new i a aA) (s12.at ea)) kk hnd (fun b hb => ⟨mine b hb, ?_⟩) ⟨l, bs ++ [a], rfl, rfl, ?_, ?_⟩
   . rw [bG (by rw [getElem?_append_left hi]; exact e1), aH (by omega)] at key;exact key
   . by_cases z : b = a
     . exact ⟨.l _, by rw [z, ae]; rfl⟩
     . rw [aa z];exact S2.lst i b (by rw [e2]; exact hb)
   . rw [aa (Ne.symm hal)]; exact s12.at e3
   . have c := ij S2 kk mine fr;have sqt : ∀ b (ys : List V), H2 b = some (.tup ys) -> (upd H2 a (.lst (xs ++ [w]))) b = some (.tup ys) := c.t;have j1' : bS X.K H2 (zn F (az A) fr) dss bs := j1.carry (fun b ys hb e => s12.at e) (Carry.same s12);refine bS.snoc (j1'.carry (fun b ys hb e => ?_) c) ae (aC.append ((ja.same s12).carry c) (aC.one (In.flat sqt fl i2)));have : b ≠ a := fun z => hab (z ▸ hb);rw [aa this]; exact e
end
section
variable {X : Cx} {pins : GR} {σ : St} {H H' : Hp} {s : Shared} {h' : Heap}
theorem ua {t' : Nat} {ch : List Addr} (I : Inv X pins σ H s) (k : ∀ b o, b ∉ ch -> s.heap.get? b = some o -> h'.get? b = some o) (hf : ∀ b ∈ ch, gW X pins H b) : Inv X pins σ H { s with heap := h', toks := t' } := by
 have nit : ∀ b u, H b = some u -> b ∉ ch := fun b u e z => by rw [(hf b z).1] at e; cases e
 refine I.step (g' := s.gens) (d' := s.drawn) (ch := ch) (fun b hb => ⟨(hf b hb).2.2.2.1, (hf b hb).2.1, (hf b hb).2.2.2.2.1, (hf b hb).2.2.2.2.2⟩) (fun b o _ _ hc e _ => k b o hc e) (fun b o _ _ hc e _ => ⟨o.slots, k b o hc e⟩) (fun _ _ _ _ n => n)
  (fun b o hc e => ⟨o, k b o hc e⟩) (fun _ _ e => e) (fun _ _ _ e => e) (fun b ps e => ⟨#[], by rw [e]; simp⟩) (fun m hm => ?_) (fun b u e => ?_) I.bare
 . obtain ⟨o, es, ep, ho, r⟩ := hm;exact ⟨o, es, ep, k _ o (fun z => (hf _ z).2.1 rfl) ho, r⟩
 . refine (I.hok b u e).jw (fun c v hc q => k c v ?_ q) (fun _ q => q) fun _ _ q => q;rcases hc with z | z
   . rw [z]; exact nit b u e
   . exact nit c _ z
theorem Er {a : Addr} {o : HO} (I : Inv X pins σ H s) (f : gW X pins H a) (ha : X.s₀.heap.objs.size <= a) (new : bz X.prog X.w (upd H a o) s.heap a o) : Inv X pins σ (upd H a o) s := by
 have hn := f.1;have ne0 : ∀ b ob, X.s₀.heap.get? b = some ob -> b ≠ a := fun b ob e => Nat.ne_of_lt (Nat.lt_of_lt_of_le (lt_size e) ha);refine ⟨I.ok, I.os, I.bare, ⟨I.base.keep, I.base.slot, fun b ob e n hx => ?_, I.base.there, fun b xs e => ?_, fun b ob u e => ?_, fun b ps e => ?_⟩, I.loc, I.cell, ?_, fun x c e => ?_, fun p hp => ?_, fun b u e => ?_, I.len⟩
 . rw [aa (ne0 b ob e)]; exact I.base.free b ob e n hx
 . have := I.base.tups b xs e;rw [aa (aq this hn)]; exact this
 . have := I.base.frzs b ob u e;rw [aa (aq this hn)]; exact this
 . obtain ⟨m, e1⟩ := I.base.tbls b ps e;exact ⟨m, by rw [aa (aq e1 hn)]; exact e1⟩
 . rw [aa (Ne.symm f.2.1)]; exact I.free
 . rw [aa (f.2.2.2.2.1 x c e)]; exact I.freeC x c e
 . obtain ⟨h1, h2, h3, h4, h5⟩ := I.pin p hp;exact ⟨h1, by rw [aa (f.2.2.2.2.2 p hp)]; exact h2, h3, h4, h5⟩
 . by_cases hb : b = a
   . subst hb; rw [ae] at e; cases e; exact new
   . rw [aa hb] at e;exact (I.hok b u e).jw (fun c v _ q => q) (fun c q => by rw [aa (aq q hn)]; exact q) fun c xs q => by rw [aa (aq q hn)]; exact q
end
def FT (K : Frag) (a : Addr) : It :=
 ⟨fun i H => ∃ xs x, eP K H a xs /\ xs[i]? = some x, fun i H y H' => ∃ p x, H p = none /\ y = .ref p /\ (∀ xs, eP K H a xs -> xs[i]? = some x) /\ H' = upd H p (.tup [.int i, x]), fun i H => ∃ xs, eP K H a xs /\ xs.length <= i⟩
theorem wk {P : Program} {w : World} {K : Frag} {es : List Expr} {kt : Nat} {pt : Pos} (a e it : Addr) (hne : e ≠ it) : Turn P w K (.Tuple es kt pt) (FT K a) [e, it] e (fun i h => (∃ old, IsEnum h e it (i : Nat) old) /\ h.IsListIter it a i) where
 mem := by simp
 obj := fun i h st b hb => by
  obtain ⟨⟨old, he⟩, o, e1, c, d⟩ := st;rcases mem_cons.mp hb with rfl | hb
  . exact ⟨_, he, fun v z => by
     have z' : Data.fields _ = Data.cell v := z;cases z'⟩
  . have e2 : b = it := by simpa using hb
    subst e2;exact ⟨o, e1, fun v z => by rw [d] at z; cases z⟩
 keep := fun i h h' st k => by
  obtain ⟨⟨old, he⟩, hit⟩ := st;exact ⟨⟨old, k e (by simp) _ he⟩, hit.at fun o q => k it (by simp) o q⟩
 item := by
  intro X hP hw hK hc i pins s σ H E I hf st hg;subst hP hw hK;obtain ⟨⟨old, he⟩, hit⟩ := st;obtain ⟨xs, x, hq, hx⟩ := hg;obtain ⟨its, rv, p, hz⟩ := I.list hq;obtain ⟨u, hu, ru⟩ := rv.get hx;refine wpAny_pyNext_enum_item he hit p.isList (x := u) (by simpa using hu) hne fun h1 he1 hit1 ht1 hz1 hk1 => ?_;refine ⟨_, rfl, wpAny_letOwnedTupleGo_enum (s := { s with heap := h1, toks := s.toks + 1 }) he1 fun h2 he2 sb2 => ?_⟩;have hlt : e < s.heap.objs.size := lt_size he;have kk : ∀ b o, b ∉ [e, it] -> s.heap.get? b = some o -> h2.get? b = some o := fun b o hb q => by
   have b1 : b ≠ e := fun z => hb (by simp [z]);have b2 : b ≠ it := fun z => hb (by simp [z]);exact (sb2.2 b b1).trans (hk1 b o b1 b2 q)
  have I2 : Inv X pins σ H { s with heap := h2, toks := s.toks + 1 } := ua I kk hf;have fresh := I.hok.fresh (Nat.le_refl s.heap.objs.size);have tup : h2.get? s.heap.objs.size = some { cls := .type "tuple", data := .seq #[.int i s.toks, u] } := (sb2.2 _ (Nat.ne_of_gt hlt)).trans ht1;have I3 := Er (o := .tup [.int (i : Nat), x]) I2 (I.ro (Nat.le_refl _) fresh) (Nat.le_trans I.sz (Nat.le_refl _)) ⟨by show 2 <= sizeLine; exact Nat.le_of_lt (aR (by decide)), [.int i s.toks, u], .cons ⟨_, rfl⟩ (.cons ru .nil), ⟨_, tup, rfl, _, rfl⟩⟩;refine ⟨.ref s.heap.objs.size, _, I3, rfl, ⟨s.heap.objs.size, x, fresh, rfl, fun ys hy => by rw [I.lR hy hq]; exact hx, rfl⟩, ⟨⟨u, ?_⟩, ?_⟩, fun b hb => ?_⟩
  . have : ((i : Int) + 1) = ((i + 1 : Nat) : Int) := by omega
    rw [<- this]; exact he2
  . obtain ⟨o, q, c, d⟩ := hit1;exact ⟨o, (sb2.2 it (Ne.symm hne)).trans q, c, d⟩
  . have hb' : b < s.heap.objs.size := by
     rcases mem_cons.mp hb with rfl | hb
     . exact hlt
     . have e2 : b = it := by simpa using hb
       subst e2;obtain ⟨o, q, _⟩ := hit;exact lt_size q
    rw [aa (Nat.ne_of_lt hb')]; exact (hf b hb).1
 done := by
  intro X hP hw hK hc i pins s σ H E I hf st hg;subst hP hw hK;obtain ⟨⟨old, he⟩, hit⟩ := st;obtain ⟨xs, hq, hx⟩ := hg;obtain ⟨its, rv, p, hz⟩ := I.list hq;have hl := rv.length;exact wpAny_pyNext_enum_end (I.ok.hd hc) he hit p.isList (by simp; omega) fun h' eb => ⟨rfl, ua (t' := s.toks) (ch := [it]) I (fun b o hb q => eb b o (by simpa using hb) q) fun b hb => hf b (by
   have : b = it := by simpa using hb
   simp [this])⟩
 self := fun _ _ _ _ _ st h => by
  obtain ⟨⟨old, he⟩, _⟩ := st;exact wpAny_pyIter_enum he h
section
variable {X : Cx} {ρ : List (Option D)} {m m1 m2 : Bool} {es : List Expr} {kt : Nat} {pt p pos : Pos} {a b : Expr} {ds es' : List D}
def DA (K : Frag) (ta : TA) : TI := fun σ H R => ta σ H fun vs H1 => ∃ l, vs = [.ref l] /\ (∃ xs, eP K H1 l xs) /\ R (FT K l) H1
theorem uc {ta : TA} (hg : Gl X "enumerate") (hm : X.mg "enumerate" = none) (ha : PA X [a] ta) (hs : starEach [a] X.env = [(false, eval a X.env)] := by rfl) : PI X (.Tuple es kt pt) (.Call (.Name "enumerate" p) [a] [] pos) (DA X.K ta) := by
 intro pins s σ H R I h;refine Call_ (iX I hg hm boot_enumerate (PyProof.Rows.callWith_type1 (cg (ha pos pins s σ H _ I h) fun us s1 ⟨vs, H1, I1, r1, q1⟩ => ?_) hs rfl));obtain ⟨l, e, ⟨xs, hq⟩, q⟩ := q1;subst e;obtain ⟨u, rfl, ru⟩ := vals1 r1;cases ru;obtain ⟨its, rv, pl, hz⟩ := I1.list hq;refine call_enumerate_list pl.isList fun h' he hit hz' hk => ?_;have I2 : Inv X pins σ H1 { s1 with heap := h' } := I1.kept (t' := s1.toks) hk;refine wpAny_pyIter_enum (s := { s1 with heap := h' }) he ⟨s1.heap.objs.size + 1, [s1.heap.objs.size + 1, s1.heap.objs.size], _, _, H1, rfl, I2, wk l _ _ (Nat.succ_ne_self _), ⟨⟨_, he⟩, hit⟩, fun b hb => ?_, q⟩;rcases mem_cons.mp hb with rfl | hb
 . exact I1.ro (Nat.le_succ _) (I1.hok.fresh (Nat.le_succ _))
 . have e : b = s1.heap.objs.size := by simpa using hb
   subst e;exact I1.ro (Nat.le_refl _) (I1.hok.fresh (Nat.le_refl _))
def iC (ds : List D) : List D := (List.range ds.length).map fun i => D.tup [.int (i : Nat), ds.getD i .non]
theorem d4 {i : Nat} {d : D} (h : (iC ds)[i]? = some d) : ∃ d', ds[i]? = some d' /\ d = .tup [.int (i : Nat), d'] := by
 unfold iC at h;rw [getElem?_map] at h;by_cases hi : i < ds.length
 . rw [List.getElem?_range hi] at h;refine ⟨ds[i], by simp [hi], ?_⟩;have := Option.some.inj h;rw [<- this]; simp [hi]
 . rw [List.getElem?_eq_none (by simpa using hi)] at h;cases h
theorem eW : (iC ds).length = ds.length := by simp [iC]
theorem tN (h : E X m ρ a (.lst ds)) (hm : X.mg "enumerate" = none) (hg : Gl X "enumerate" := by rfl) (hs : starEach [a] X.env = [(false, eval a X.env)] := by rfl) :
 IT X (.Tuple es kt pt) m ρ (.Call (.Name "enumerate" p) [a] [] pos) (iC ds) := PI.mono (uc hg hm (aJ h bc (by rw [hs]; rfl)) hs) fun σ H R z0 => aU z0 fun Z oz en k => ⟨Z, oz, en, fun v H1 s1 i1 => by
 obtain ⟨l, xs, rfl, at', j⟩ := ah.mp i1;refine ⟨l, rfl, ⟨xs, at'.sq⟩, k _ H1 [.ref l] [.lst ds] s1 (aC.one i1) ⟨fun Z2 H2 o2 j2 i d e => ?_, fun Z2 H2 o2 j2 => ?_⟩⟩
 . obtain ⟨d', e', rfl⟩ := d4 e;obtain ⟨w, r, e1, j3, j4⟩ := ag.mp j2;cases e1;obtain ⟨a', ys, e2, l2, j5⟩ := ah.mp j3;cases e2;obtain ⟨v, e3, iv⟩ := j5.get e';refine ⟨⟨ys, v, l2.sq, e3⟩, fun x H3 ⟨q, y, hq, ex, hy, eH⟩ => ?_⟩;subst ex eH;have := hy ys l2.sq;rw [e3] at this;cases this;exact ⟨aB hq, bh.mpr ⟨q, _, rfl, ae, ag.mpr ⟨_, _, rfl, av.mpr rfl, aC.one (iv.same (aB hq))⟩⟩⟩
 . obtain ⟨w, r, e1, j3, j4⟩ := ag.mp j2;cases e1;obtain ⟨a', ys, e2, l2, j5⟩ := ah.mp j3;cases e2;exact ⟨ys, l2.sq, by rw [eW]; exact Nat.le_of_eq j5.length.symm⟩⟩
end
theorem zK {α : Type} {l : List α} {a b : Option Int} {x : α} (h : x ∈ cut l a b) : x ∈ l := List.mem_of_mem_drop (List.mem_of_mem_take h)
theorem pf {n : Nat} (h : n <= 1000) : n <= sizeLine := Nat.le_of_lt (aR h)
theorem kN {α : Type} (xs : List α) (k : Nat) : cut xs (some (k : Int)) none = xs.drop k := by
 unfold cut;rw [HT.zj, HT.yt];by_cases h : k <= xs.length
 . rw [Nat.min_eq_left h];exact List.take_of_length_le (by simp)
 . have h' : xs.length <= k := by omega
   rw [Nat.min_eq_right h', List.drop_of_length_le h', List.drop_length];simp
theorem v3 {ds : List D} {a b : Option Int} (h : aV ds = true) : aV (cut ds a b) = true := dZ fun d hd => e8 h d (zK hd)
theorem kc {α : Type} {xs : List α} {i : Int} {a : α} (h0 : 0 <= i) (h : xs[i.toNat]? = some a) : jB xs i = some a := by
 obtain ⟨k, rfl⟩ := Int.eq_ofNat_of_zero_le h0;exact cB (by simpa using h)
mutual
def Gr (g : List D -> List D) : D -> D -> Prop
 | .lst ds, d' => ∃ es, sY g ds es /\ (d' = .lst es \/ d' = .lst (g es))
 | .tup ds, d' => ∃ es, sY g ds es /\ d' = .tup es
 | .non, d' => d' = .non
 | .bl b, d' => d' = .bl b
 | .int i, d' => d' = .int i
 | .str x, d' => d' = .str x
 | .dct o, d' => d' = .dct o
 | .ktup ks, d' => d' = .ktup ks
 | .agg s ds, d' => d' = .agg s ds
def sY (g : List D -> List D) : List D -> List D -> Prop
 | [], es => es = []
 | d :: ds, es => ∃ e r, es = e :: r /\ Gr g d e /\ sY g ds r
end
theorem rM {g : List D -> List D} {ds : List D} {d' : D} : Gr g (.lst ds) d' ↔ ∃ es, sY g ds es /\ (d' = .lst es \/ d' = .lst (g es)) := by
 constructor
 . intro h; unfold Gr at h; exact h
 . intro h; unfold Gr; exact h
theorem Ce {g : List D -> List D} {ds : List D} {d' : D} : Gr g (.tup ds) d' ↔ ∃ es, sY g ds es /\ d' = .tup es := by
 constructor
 . intro h; unfold Gr at h; exact h
 . intro h; unfold Gr; exact h
theorem oX {g : List D -> List D} {es : List D} : sY g [] es ↔ es = [] := by unfold sY; exact Iff.rfl
theorem lh {g : List D -> List D} {d : D} {ds es : List D} : sY g (d :: ds) es ↔ ∃ e r, es = e :: r /\ Gr g d e /\ sY g ds r := by
 constructor
 . intro h; unfold sY at h; exact h
 . intro h; unfold sY; exact h
section
variable {K : Frag} {H H2 : Hp} {Z Z2 : ax} {g : List D -> List D} {l : Addr} {ys : List V}
mutual
theorem In.gr (hm : Z.m = true) (hm2 : Z2.m = true) (hS : ∀ a, Z.S a -> Z2.S a) (nl : ∀ o : DO, H l ≠ some o.ho) (k : ∀ a (xs : MO), H a = some xs.ho -> a ≠ l -> H2 a = some xs.ho) (kl : ∀ xs es, H l = some (.lst xs) -> aC K H2 Z2 es xs -> H2 l = some (.lst ys) /\ aC K H2 Z2 (g es) ys) (kt : ∀ a (xs : List V), H a = some (.tup xs) -> H2 a = some (.tup xs)) :
 ∀ {d : D} {v : V}, In K H Z d v -> ∃ d', Gr g d d' /\ In K H2 Z2 d' v
 | .non, v, h => ⟨.non, by unfold Gr; rfl, ba.mpr (ba.mp h)⟩
 | .bl b, v, h => ⟨.bl b, by unfold Gr; rfl, bp.mpr (bp.mp h)⟩
 | .int i, v, h => ⟨.int i, by unfold Gr; rfl, av.mpr (av.mp h)⟩
 | .str x, v, h => ⟨.str x, by unfold Gr; rfl, in_str.mpr (in_str.mp h)⟩
 | .agg s ds, v, h => absurd h bB
 | .ktup ks, v, h => ⟨.ktup ks, by unfold Gr; rfl, aX.mpr (aX.mp h)⟩
 | .dct o, v, h => by
  obtain ⟨a, rfl, l', z⟩ := aZ.mp h;exact ⟨.dct o, by unfold Gr; rfl, aZ.mpr ⟨a, rfl, k a (.d o) l' (fun q => nl o (q ▸ l')), hS a z⟩⟩
 | .lst ds, v, h => by
  obtain ⟨a, xs, rfl, at', j⟩ := ah.mp h;obtain ⟨e1, e2⟩ : H a = some (.lst xs) /\ Z.S a := by
   rcases at' with z | z
   . exact z
   . rw [hm] at z; exact absurd z.1 (by simp)
  obtain ⟨es, q1, q2⟩ := aC.gr hm hm2 hS nl k kl kt j;by_cases hal : a = l
  . subst hal;obtain ⟨q3, q4⟩ := kl xs es e1 q2;exact ⟨.lst (g es), rM.mpr ⟨es, q1, .inr rfl⟩, ah.mpr ⟨a, ys, rfl, .inl ⟨q3, hS a e2⟩, q4⟩⟩
  . exact ⟨.lst es, rM.mpr ⟨es, q1, .inl rfl⟩, ah.mpr ⟨a, xs, rfl, .inl ⟨k a (.l xs) e1 hal, hS a e2⟩, q2⟩⟩
 | .tup ds, v, h => by
  obtain ⟨a, xs, rfl, at', j⟩ := bh.mp h;obtain ⟨es, q1, q2⟩ := aC.gr hm hm2 hS nl k kl kt j;exact ⟨.tup es, Ce.mpr ⟨es, q1, rfl⟩, bh.mpr ⟨a, xs, rfl, kt a xs at', q2⟩⟩
theorem aC.gr (hm : Z.m = true) (hm2 : Z2.m = true) (hS : ∀ a, Z.S a -> Z2.S a) (nl : ∀ o : DO, H l ≠ some o.ho) (k : ∀ a (xs : MO), H a = some xs.ho -> a ≠ l -> H2 a = some xs.ho) (kl : ∀ xs es, H l = some (.lst xs) -> aC K H2 Z2 es xs -> H2 l = some (.lst ys) /\ aC K H2 Z2 (g es) ys) (kt : ∀ a (xs : List V), H a = some (.tup xs) -> H2 a = some (.tup xs)) :
 ∀ {ds : List D} {vs : List V}, aC K H Z ds vs -> ∃ es, sY g ds es /\ aC K H2 Z2 es vs
 | [], vs, h => ⟨[], oX.mpr rfl, ay.mpr (ay.mp h)⟩
 | d :: ds, vs, h => by
  obtain ⟨v, r, rfl, a, b⟩ := ag.mp h;obtain ⟨e, q1, q2⟩ := In.gr hm hm2 hS nl k kl kt a;obtain ⟨es, q3, q4⟩ := aC.gr hm hm2 hS nl k kl kt b;exact ⟨e :: es, lh.mpr ⟨e, es, rfl, q1, q3⟩, ag.mpr ⟨v, r, rfl, q2, q4⟩⟩
end
theorem ED (as : List Addr) : ∃ bs : List Addr, bs.Nodup /\ ∀ a, a ∈ bs ↔ a ∈ as := by
 induction as with
 | nil => exact ⟨[], List.nodup_nil, fun a => Iff.rfl⟩
 | cons c as ih =>
  obtain ⟨bs, h1, h2⟩ := ih;by_cases hc : c ∈ bs
  . exact ⟨bs, h1, fun a => by rw [h2, mem_cons]; exact ⟨.inr, fun z => z.elim (fun e => by rw [e]; exact (h2 c).mp hc) id⟩⟩
  . exact ⟨c :: bs, nodup_cons.mpr ⟨hc, h1⟩, fun a => by rw [mem_cons, mem_cons, h2]⟩
mutual
theorem In.collect (hm : Z.m = true) : ∀ {d : D} {v : V}, In K H Z d v -> ∃ as : List Addr, (∀ a ∈ as, Z.S a /\ ∃ xs : MO, H a = some xs.ho) /\ In K H ⟨true, fun a => a ∈ as⟩ d v
 | .non, v, h => ⟨[], by simp, ba.mpr (ba.mp h)⟩
 | .bl b, v, h => ⟨[], by simp, bp.mpr (bp.mp h)⟩
 | .int i, v, h => ⟨[], by simp, av.mpr (av.mp h)⟩
 | .str x, v, h => ⟨[], by simp, in_str.mpr (in_str.mp h)⟩
 | .agg s ds, v, h => absurd h bB
 | .ktup ks, v, h => ⟨[], by simp, aX.mpr (aX.mp h)⟩
 | .dct o, v, h => by
  obtain ⟨a, rfl, l, z⟩ := aZ.mp h;exact ⟨[a], fun b hb => by
   have : b = a := by simpa using hb
   subst this;exact ⟨z, .d o, l⟩, aZ.mpr ⟨a, rfl, l, by simp⟩⟩
 | .lst ds, v, h => by
  obtain ⟨a, xs, rfl, at', j⟩ := ah.mp h;obtain ⟨e1, e2⟩ : H a = some (.lst xs) /\ Z.S a := by
   rcases at' with z | z
   . exact z
   . rw [hm] at z; exact absurd z.1 (by simp)
  obtain ⟨as, q1, q2⟩ := aC.collect hm j;refine ⟨a :: as, fun b hb => ?_, ah.mpr ⟨a, xs, rfl, .inl ⟨e1, by simp⟩, q2.carry ⟨fun b ys e z => ⟨e, mem_cons_of_mem _ z⟩, fun m => Bool.noConfusion (show true = false from m), fun _ _ e => e⟩⟩⟩;rcases mem_cons.mp hb with rfl | hb
  . exact ⟨e2, .l xs, e1⟩
  . exact q1 b hb
 | .tup ds, v, h => by
  obtain ⟨a, xs, rfl, at', j⟩ := bh.mp h;obtain ⟨as, q1, q2⟩ := aC.collect hm j;exact ⟨as, q1, bh.mpr ⟨a, xs, rfl, at', q2⟩⟩
theorem aC.collect (hm : Z.m = true) : ∀ {ds : List D} {vs : List V}, aC K H Z ds vs -> ∃ as : List Addr, (∀ a ∈ as, Z.S a /\ ∃ xs : MO, H a = some xs.ho) /\ aC K H ⟨true, fun a => a ∈ as⟩ ds vs
 | [], vs, h => ⟨[], by simp, ay.mpr (ay.mp h)⟩
 | d :: ds, vs, h => by
  obtain ⟨v, r, rfl, a, b⟩ := ag.mp h;obtain ⟨as, q1, q2⟩ := In.collect hm a;obtain ⟨bs, q3, q4⟩ := aC.collect hm b;refine ⟨as ++ bs, fun c hc => ?_, ag.mpr ⟨v, r, rfl, q2.carry ⟨fun b ys e z => ⟨e, mem_append.mpr (.inl z)⟩, fun m => Bool.noConfusion (show true = false from m), fun _ _ e => e⟩, q4.carry ⟨fun b ys e z => ⟨e, mem_append.mpr (.inr z)⟩, fun m => Bool.noConfusion (show true = false from m), fun _ _ e => e⟩⟩⟩;rcases mem_append.mp hc with h | h
  . exact q1 c h
  . exact q3 c h
end
theorem In.DB {d : D} {v : V} {as bs : List Addr} (h : In K H ⟨true, fun a => a ∈ as⟩ d v) (s : ∀ a, a ∈ as -> a ∈ bs) : In K H ⟨true, fun a => a ∈ bs⟩ d v :=
 h.carry ⟨fun b ys e z => ⟨e, s b z⟩, fun m => Bool.noConfusion (show true = false from m), fun _ _ e => e⟩
end
section
variable {X : Cx} {F : Fn} {ρ : bX} {Q : ft} {rest : List Stmt} {e o : Expr} {d : D} {pos p sp ap cp : Pos} {x : Str} {fr m1 mi : Bool}
theorem Ez (i : Nat) {x : Str} {d : D} (he : E X true (view true false ρ) e d) (hr : SD X F rest (ρ.set i (some (.oa d))) Q) (hN : X.N.Nodup) (hi : X.N[i]? = some x := by rfl)
 (hx : Loc X.env.scope x := by first | exact Or.inl rfl | exact Or.inr rfl) (hρ : i < ρ.length := by exact of_decide_eq_true rfl) (hs : swapsWith e (some (.Name x p)) pos.line X.env = pure false := by rfl) (hf : HfX X x := by first | exact .inl rfl | exact .inr rfl) :
 SD X F (.Assign [.Name x p] e pos :: rest) ρ Q :=
 aM (PS.mono (gi hN hi hx he hs hf) fun Q' σ H z0 => d8 z0 fun hv hρ' A hl S f => ⟨_, ar S true false, S.env hl true false, fun v H1 s1 i1 => by
  obtain ⟨as, q1, q2⟩ := In.collect (Z := nw H) rfl i1;obtain ⟨bs, nd, hbs⟩ := ED as;refine f.nx _ H1 ⟨_, aL A i bs, by simp [hl], ?_, rfl⟩;rw [<- aH (by omega), <- aH hρ];exact S.put (by rw [List.length_append]; omega) (by rw [List.length_append]; omega) s1 nd (fun a ha => q1 a ((hbs a).mp ha)) (q2.DB fun a ha => (hbs a).mpr ha)⟩) hr
theorem zk (i : Nat) {st : List Stmt} {d : D} (h : ρ[i]? = some (some (.oa d)) := by rfl) (hr : SD X F st (ρ.set i (some (.sh fun d' => d' = d))) Q) : SD X F st ρ Q := lJ.mono hr fun Q' σ H z0 => d8 z0 fun hv hρ A hl S f => by
 have hi : i < ρ.length := (List.getElem?_eq_some_iff.mp h).1;refine ⟨hv, hρ, A, by simp [hl], ⟨S.same, S.opn, S.nd, S.one, S.new, S.lst, fun j sl e => ?_⟩, f⟩;by_cases hj : j = i
 . subst hj;rw [getElem?_append_left (by simpa using hi), List.getElem?_set_self hi] at e;cases e;obtain ⟨v, a, b⟩ := S.at' j (.oa d) (by rw [getElem?_append_left hi]; exact h);exact ⟨v, a, d, rfl, b⟩
 . refine S.at' j sl ?_;rw [<- e, <- aH hi, List.getElem?_set_ne (Ne.symm hj)]
def lW (i n : Nat) (d : D) : List (Option D) := (List.replicate n none).set i (some d)
theorem aW.sh {K : Frag} {H : Hp} {σ hv : St} {hρ : bX} {A : Nat -> List Addr} {i : Nat} {q : D -> Prop} (S : aW K F H (σ ++ hv) (ρ ++ hρ) A) (hl : σ.length = ρ.length) (h : ρ[i]? = some (some (.sh q))) :
 ∃ v d, σ[i]? = some (some v) /\ q d /\ In K H ⟨true, fun a => a ∈ A i⟩ d v := by
 have hi : i < ρ.length := (List.getElem?_eq_some_iff.mp h).1;obtain ⟨v, a, d, hq, j⟩ := S.at' i _ (by rw [getElem?_append_left hi]; exact h);rw [getElem?_append_left (by omega)] at a;exact ⟨v, d, a, hq, j⟩
def AD (A : Nat -> List Addr) (i : Nat) (H : Hp) : ax := ⟨true, fun a => a ∈ A i \/ H a = none⟩
theorem aW.E4 {K : Frag} {H : Hp} {σ : St} {A : Nat -> List Addr} {i : Nat} {v : V} {d : D} (hl : σ.length = ρ.length) (hv' : σ[i]? = some (some v)) (h : In K H ⟨true, fun a => a ∈ A i⟩ d v) :
 cy K H (AD A i H) σ (lW i ρ.length d) := fun j d' e => by
 unfold lW at e;by_cases hj : j = i
 . subst hj;have hi : j < ρ.length := by have := (List.getElem?_eq_some_iff.mp hv').1; omega
   rw [List.getElem?_set_self (by simpa using hi)] at e;cases e;exact ⟨v, hv', (h.carry ⟨fun b ys e z => ⟨e, Or.inl z⟩, fun m => Bool.noConfusion (show true = false from m), fun _ _ e => e⟩).top⟩
 . rw [List.getElem?_set_ne (Ne.symm hj)] at e;rw [List.getElem?_replicate] at e;split at e <;> cases e
theorem qQ (i : Nat) {q : D -> Prop} {dw : D} (h : ρ[i]? = some (some (.sh q)) := by rfl) (ho : ∀ d, q d -> ∃ ds, E X false (lW i ρ.length d) o (.lst ds) /\ ds.length < 1000) (he : E X true (view true false ρ) e dw)
 (hr : SD X F rest (ρ.set i (some (.sh fun d' => ∃ d, q d /\ Gr (· ++ [dw]) d d'))) Q)
 (hbase : attributeBase o "append" X.env (eval o X.env) = eval o X.env := by rfl) (hline : (ap.endLine == cp.line) = true := by rfl)
 (hs : starEach [e] X.env = [(false, eval e X.env)] := by rfl) (hsw : swapsWith (.Call (.Attribute o "append" ap) [e] [] cp) none pos.line X.env = pure false := by rfl) :
 SD X F (.Expr (.Call (.Attribute o "append" ap) [e] [] cp) pos :: rest) ρ Q := by
 have ho' : ∀ z : D × List D, (q z.1 /\ E X false (lW i ρ.length z.1) o (.lst z.2) /\ z.2.length < 1000) -> PE X o (tE X.K false (lW i ρ.length z.1) (.lst z.2)) := fun z hz => hz.2.1;have hO : PE X o (fun σ H Q => ∃ z : D × List D, (q z.1 /\ E X false (lW i ρ.length z.1) o (.lst z.2) /\ z.2.length < 1000) /\ tE X.K false (lW i ρ.length z.1) (.lst z.2) σ H Q) := fun pins s σ H Q I ⟨z, hz, t⟩ => ho' z hz pins s σ H Q I t;refine aM (PS.mono (bU (fW PySem.F.plainAttrs_list PySem.F.slot_list_append PySem.F.type_list_append bP hO (aJ he bc (by rw [hs]; rfl)) hbase (by rw [hs]; rfl) hline (by rw [hs]; rfl) rfl) hsw) ?_) hr;rintro Q' σ H ⟨hv, hρ, A, hl, S, f⟩;obtain ⟨v, d, e1, hq, j⟩ := S.sh hl h;obtain ⟨ds, h1, h2⟩ := ho d hq;have hi : i < σ.length := (List.getElem?_eq_some_iff.mp e1).1;refine ⟨(d, ds), ⟨hq, h1, h2⟩, AD A i H, ⟨fun a ha => .inr ha, S.same.tabs S.opn.tb⟩, aW.E4 hl e1 j, fun y H1 s1 i1 => ?_⟩;obtain ⟨l, xs, rfl, at', jl⟩ := ah.mp (show In X.K H1 (AD A i H) (.lst ds) y from i1);obtain ⟨g1, g2⟩ : H1 l = some (.lst xs) /\ (l ∈ A i \/ H l = none) := by
  rcases at' with z | z
  . exact z
  . exact absurd z.1 (by simp [AD])
 refine ⟨.inl ⟨rfl, xs, eP.of g1⟩, _, (ar S true false).same s1, (S.env hl true false).same s1, fun w H2 s2 i2 => ?_⟩;obtain ⟨as, q1, q2⟩ := In.collect (Z := nw H1) rfl i2;obtain ⟨bs, nd, hbs⟩ := ED (A i ++ as);have s12 := s1.trans s2;have S2 := S.grow s12;refine ⟨l, xs, w, rfl, rfl, s2.at g1, by rw [<- jl.length]; exact aR (by omega), f.nx _ _ ?_⟩;have lnot : ∀ b, b ∉ A i -> H b ≠ none -> b ≠ l := fun b hb hn z => by
  subst z;rcases g2 with z | z
  . exact hb z
  . exact hn z
 have kk : ∀ b o, H b = some o -> y9 o = false -> b ∉ A i -> (upd H2 l (.lst (xs ++ [w]))) b = some o := fun b o e n hb => by
  rw [aa (lnot b hb (by rw [e]; simp))]; exact s12.get b o e n
 refine ⟨_, aL A i bs, by simp [hl], ?_, rfl⟩;have new : ∀ a ∈ bs, a ∈ A i \/ H a = none := fun a ha => by
  rcases mem_append.mp ((hbs a).mp ha) with z | z
  . exact .inl z
  . exact .inr (s1.free (q1 a z).1)
 have key := S.re (i := i) (v := v) (sl := .sh fun d' => ∃ d, q d /\ Gr (· ++ [dw]) d d') (l := bs) (H2 := upd H2 l (.lst (xs ++ [w]))) (by rw [List.length_append]; omega) (by rw [List.length_append]; omega) ((S.same.trans s12).write (g2.elim (S.new i l) S.same.free) (s2.at g1)) kk nd (fun a ha => ⟨new a ha, ?_⟩) ?_
 . rw [bG (by rw [getElem?_append_left hi]; exact e1), aH (by omega)] at key;exact key
 . by_cases z : a = l
   . exact ⟨.l _, by rw [z, ae]; rfl⟩
   . rw [aa z];rcases mem_append.mp ((hbs a).mp ha) with z | z
     . obtain ⟨ys, e⟩ := S.lst i a z;exact ⟨ys, s12.at e ys.nt⟩
     . exact (q1 a z).2
 . have kt : ∀ a (zs : List V), H2 a = some (.tup zs) -> (upd H2 l (.lst (xs ++ [w]))) a = some (.tup zs) := fun a zs e => by rw [aa (dF e (s2.at g1) (by intro q; cases q))]; exact e
   have nl : ∀ o : DO, H2 l ≠ some o.ho := fun o z => by
    rw [s2.at g1] at z;exact o.Ds (Option.some.inj z).symm
   have gw : In X.K (upd H2 l (.lst (xs ++ [w]))) ⟨true, fun a => a ∈ bs⟩ dw w := by
    refine q2.carry ⟨fun b ys e z => ⟨?_, (hbs b).mpr (mem_append.mpr (.inr z))⟩, fun m => Bool.noConfusion (show true = false from m), kt⟩;have : b ≠ l := fun c => by
     subst c;have := (q1 b z).1;rw [show (nw H1).S b = (H1 b = none) from rfl, g1] at this;cases this
    rw [aa this]; exact e
   obtain ⟨d', r1, r2⟩ := In.gr (g := (· ++ [dw])) (l := l) (ys := xs ++ [w]) (H := H2) (H2 := upd H2 l (.lst (xs ++ [w]))) (Z := ⟨true, fun a => a ∈ A i⟩) (Z2 := ⟨true, fun a => a ∈ bs⟩) rfl rfl (fun a ha => (hbs a).mpr (mem_append.mpr (.inl ha)))
    nl (fun a zs e hn => by rw [aa hn]; exact e) (fun zs es e hi => by
     rw [s2.at g1] at e;cases e;exact ⟨ae, hi.append (aC.one gw)⟩) kt (j.same s12)
   exact ⟨d', ⟨d, hq, r1⟩, r2⟩
theorem pM (i : Nat) {x : Str} {q : D -> Prop} {dw : D} (h : ρ[i]? = some (some (.sh q)) := by rfl) (ho : ∀ d, q d -> ∃ ds, d = .lst ds /\ ds.length < 1000) (he : E X true (view true false ρ) e dw)
 (hr : SD X F rest (ρ.set i (some (.sh fun d' => ∃ ds es, q (.lst ds) /\ sY (· ++ [dw]) ds es /\ d' = .lst (es ++ [dw])))) Q)
 (hN : X.N[i]? = some x := by rfl) (hv : kb X.env.scope x := by first | exact Or.inl rfl | exact Or.inr (Or.inl rfl) | exact Or.inr (Or.inr rfl)) (hd : NdX x := by decide) (hcd : NcX x := by decide)
 (hbase : attributeBase (.Name x p) "append" X.env (eval (.Name x p) X.env) = eval (.Name x p) X.env := by rfl) (hline : (ap.endLine == cp.line) = true := by rfl)
 (hs : starEach [e] X.env = [(false, eval e X.env)] := by rfl) (hsw : swapsWith (.Call (.Attribute (.Name x p) "append" ap) [e] [] cp) none pos.line X.env = pure false := by rfl) :
 SD X F (.Expr (.Call (.Attribute (.Name x p) "append" ap) [e] [] cp) pos :: rest) ρ Q := by
 refine aM (PS.mono (bU (fW PySem.F.plainAttrs_list PySem.F.slot_list_append PySem.F.type_list_append bP (bx hN hv hd hcd) (aJ he bc (by rw [hs]; rfl)) hbase (by rw [hs]; rfl) hline (by rw [hs]; rfl) rfl) hsw) ?_) hr;rintro Q' σ H ⟨hv, hρ, A, hl, S, f⟩;obtain ⟨v, d, e1, hq, j⟩ := S.sh hl h;obtain ⟨ds, rfl, h2⟩ := ho d hq;have hi : i < σ.length := (List.getElem?_eq_some_iff.mp e1).1;obtain ⟨l, xs, rfl, at', jl⟩ := ah.mp j;obtain ⟨g0, g1'⟩ : H l = some (.lst xs) /\ l ∈ A i := by
  rcases at' with z | z
  . exact z
  . exact absurd z.1 (by simp)
 have g2 : l ∈ A i \/ H l = none := .inl g1';refine ⟨.ref l, e1, .inl ⟨rfl, xs, eP.of g0⟩, _, ar S true false, S.env hl true false, fun w H2 s2 i2 => ?_⟩;obtain ⟨as, q1, q2⟩ := In.collect (Z := nw H) rfl i2;obtain ⟨bs, nd, hbs⟩ := ED (A i ++ as);have s12 := s2;have g1 := g0;have S2 := S.grow s12;refine ⟨l, xs, w, rfl, rfl, s2.at g1, by rw [<- jl.length]; exact aR (by omega), f.nx _ _ ?_⟩;have lnot : ∀ b, b ∉ A i -> H b ≠ none -> b ≠ l := fun b hb hn z => by
  subst z;rcases g2 with z | z
  . exact hb z
  . exact hn z
 have kk : ∀ b o, H b = some o -> y9 o = false -> b ∉ A i -> (upd H2 l (.lst (xs ++ [w]))) b = some o := fun b o e n hb => by
  rw [aa (lnot b hb (by rw [e]; simp))]; exact s12.get b o e n
 refine ⟨_, aL A i bs, by simp [hl], ?_, rfl⟩;have new : ∀ a ∈ bs, a ∈ A i \/ H a = none := fun a ha => by
  rcases mem_append.mp ((hbs a).mp ha) with z | z
  . exact .inl z
  . exact .inr (q1 a z).1
 have key := S.re (i := i) (v := .ref l) (sl := .sh fun d' => ∃ ds es, q (.lst ds) /\ sY (· ++ [dw]) ds es /\ d' = .lst (es ++ [dw])) (l := bs) (H2 := upd H2 l (.lst (xs ++ [w]))) (by rw [List.length_append]; omega) (by rw [List.length_append]; omega) ((S.same.trans s12).write (g2.elim (S.new i l) S.same.free) (s2.at g1)) kk nd (fun a ha => ⟨new a ha, ?_⟩) ?_
 . rw [bG (by rw [getElem?_append_left hi]; exact e1), aH (by omega)] at key;exact key
 . by_cases z : a = l
   . exact ⟨.l _, by rw [z, ae]; rfl⟩
   . rw [aa z];rcases mem_append.mp ((hbs a).mp ha) with z | z
     . obtain ⟨ys, e⟩ := S.lst i a z;exact ⟨ys, s12.at e ys.nt⟩
     . exact (q1 a z).2
 . have kt : ∀ a (zs : List V), H2 a = some (.tup zs) -> (upd H2 l (.lst (xs ++ [w]))) a = some (.tup zs) := fun a zs e => by rw [aa (dF e (s2.at g1) (by intro q; cases q))]; exact e
   have nl : ∀ o : DO, H2 l ≠ some o.ho := fun o z => by
    rw [s2.at g1] at z;exact o.Ds (Option.some.inj z).symm
   have gw : In X.K (upd H2 l (.lst (xs ++ [w]))) ⟨true, fun a => a ∈ bs⟩ dw w := by
    refine q2.carry ⟨fun b ys e z => ⟨?_, (hbs b).mpr (mem_append.mpr (.inr z))⟩, fun m => Bool.noConfusion (show true = false from m), kt⟩;have : b ≠ l := fun c => by
     subst c;have := (q1 b z).1;rw [show (nw H).S b = (H b = none) from rfl, g0] at this;cases this
    rw [aa this]; exact e
   obtain ⟨es, r1, r2⟩ := aC.gr (g := (· ++ [dw])) (l := l) (ys := xs ++ [w]) (H := H2) (H2 := upd H2 l (.lst (xs ++ [w]))) (Z := ⟨true, fun a => a ∈ A i⟩) (Z2 := ⟨true, fun a => a ∈ bs⟩) rfl rfl (fun a ha => (hbs a).mpr (mem_append.mpr (.inl ha)))
    nl (fun a zs e hn => by rw [aa hn]; exact e) (fun zs es e hi => by
     rw [s2.at g1] at e;cases e;exact ⟨ae, hi.append (aC.one gw)⟩) kt (jl.same s12)
   exact ⟨_, ⟨ds, es, hq, r1, rfl⟩, ah.mpr ⟨l, _, rfl, .inl ⟨ae, (hbs l).mpr (mem_append.mpr (.inl g1'))⟩, r2.append (aC.one gw)⟩⟩
end
end Y
namespace Y
open PySem PyProof.Rows Builtin Builtin.Str StrLaws
abbrev cl (z : Str) : List Nat := z.cps.toList
def Dh (l : GX) : Str := ⟨l.toArray⟩
theorem tw (z : Str) : Dh (cl z) = z := by simp [cl, Dh]
theorem sS {a b : Str} (h : cl a = cl b) : a = b := by rw [<- tw a, <- tw b, h]
theorem bJ (z : Str) : (cl z).length = z.length := by simp [cl, Str.length]
theorem bO (a b : Str) : cl (a ++ b) = cl a ++ cl b := by simp [cl, Str.cps_append]
theorem nF {z : Str} : cl z = [] ↔ z = "" := ⟨fun h => sS (by rw [h]; rfl), fun h => by subst h; rfl⟩
def cutAt (c : Nat) : List Nat -> List GX
 | [] => [[]]
 | k :: r => if k = c then [] :: cutAt c r else (k :: (cutAt c r).headD []) :: (cutAt c r).tail
theorem iq (c : Nat) : ∀ l, cutAt c l ≠ []
 | [] => by simp [cutAt]
 | k :: r => by unfold cutAt; split <;> simp
theorem lg {c : Nat} : ∀ {l : GX}, c ∉ l -> cutAt c l = [l]
 | [], _ => rfl
 | k :: r, h => by
  have h1 : ¬ k = c := fun e => h (by simp [e]);have h2 : c ∉ r := fun e => h (by simp [e]);simp [cutAt, h1, lg h2]
theorem mX {c : Nat} : ∀ {a : GX} (b : GX), c ∉ a -> cutAt c (a ++ c :: b) = a :: cutAt c b
 | [], b, _ => by simp [cutAt]
 | k :: r, b, h => by
  have h1 : ¬ k = c := fun e => h (by simp [e]);have h2 : c ∉ r := fun e => h (by simp [e]);simp [cutAt, h1, mX b h2]
theorem kI {c : Nat} : ∀ {ps : GV}, ps ≠ [] -> (∀ p ∈ ps, c ∉ cl p) -> cutAt c (cl (Str.join ⟨#[c]⟩ ps)) = ps.map cl
 | [], h, _ => absurd rfl h
 | [p], _, h => by
  show cutAt c (cl p) = _;rw [lg (h p (by simp))]; rfl
 | p :: q :: r, _, h => by
  show cutAt c (cl (p ++ ⟨#[c]⟩ ++ Str.join ⟨#[c]⟩ (q :: r))) = _;rw [bO, bO];have e : cl p ++ cl (⟨#[c]⟩ : Str) ++ cl (Str.join ⟨#[c]⟩ (q :: r)) = cl p ++ c :: cl (Str.join ⟨#[c]⟩ (q :: r)) := by simp [cl]
  rw [e, mX _ (h p (by simp)), kI (by simp) fun x hx => h x (by simp [hx])];rfl
theorem wG (x y : Str) : Txt.split x y ≠ [] := by
 unfold Txt.split;split
 . simp
 . split
   . simp
   . rw [partsBetween_eq];obtain ⟨p, r, e⟩ := partsFrom_ne x y.length 0 (occurrences x y 0 x.length (x.length + 1));rw [e]; simp
theorem gq (x : Str) (c : Nat) : (Txt.split x ⟨#[c]⟩).map cl = cutAt c (cl x) := by
 rw [<- kI (wG x _) (split_free x c), join_split]
def qg (sp : Nat -> Bool) : List Nat -> List Nat -> List GX
 | [], cur => if cur = [] then [] else [cur]
 | k :: r, cur => if sp k then (if cur = [] then qg sp r [] else cur :: qg sp r []) else qg sp r (cur ++ [k])
def pP (sp : Nat -> Bool) (l : GX) : List GX := qg sp l []
def fx (x : Str) (cur : Nat) : Option Nat -> List Nat
 | none => []
 | some b => ((cl x).drop b).take (cur - b)
theorem yn (x : Str) (i j : Nat) : cl (strSub x i j) = ((cl x).drop i).take (j - i) := strSub_toList x i j
theorem fZ (x : Str) (limit : Nat) (hl : x.length < limit) : ∀ (m cur : Nat) (words : Array GZ) (start : Option Nat), cur + m = x.length -> SwOk x.length cur (none, words, start) -> (∀ b, start = some b -> b < cur) ->
 (swEnd x (forIn (List.range' cur m) ((none, words, start) : SwSt) (swBody x limit)).run).map (fun p => cl (strSub x p.1 p.2)) = words.toList.map (fun p => cl (strSub x p.1 p.2)) ++ qg Unicode.isSpace ((cl x).drop cur) (fx x cur start)
 | 0, cur, words, start, hm, h, hb => by
  have hc : cur = x.length := by omega
  subst hc;have hd : (cl x).drop x.length = [] := by rw [<- bJ]; simp
  rw [hd];simp only [List.range'_zero, List.forIn_nil];show (swEnd x (none, words, start)).map _ = _;unfold swEnd
  cases start with
  | none => simp [qg, fx]
  | some b =>
   have hlt := hb b rfl;have hne : ((cl x).drop b).take (x.length - b) ≠ [] := by
    intro e;have := congrArg List.length e;simp [cl] at this;have h2 : x.cps.size = x.length := rfl;omega
   simp [qg, fx, hne, yn]
 | m + 1, cur, words, start, hm, h, hb => by
  rw [List.range'_succ, List.forIn_cons];obtain ⟨h1, h2, h3⟩ := id h;have hcur : cur < x.length := by omega
  have hsz : ¬ ((words.size == limit) = true) := fun full => by
   have few := len_le_wsum words.toList;rw [Array.length_toList, eq_of_beq full] at few;cases start <;> dsimp only at h3 <;> omega
  have hx : cur < (cl x).length := by rw [bJ]; exact hcur
  have hget : x.cps.getD cur 0 = (cl x)[cur] := by
   have : cur < x.cps.size := hcur;simp [cl, Array.getD, this]
  have hdrop : (cl x).drop cur = (cl x)[cur] :: (cl x).drop (cur + 1) := List.drop_eq_getElem_cons hx;have hopt : (cl x)[cur]? = some (cl x)[cur] := List.getElem?_eq_getElem hx;revert hget hdrop hopt;generalize (cl x)[cur] = k;intro hget hdrop hopt;unfold swBody;simp only [hsz, if_false];rw [hget, hdrop]
  cases start with
  | none =>
   cases hsp : Unicode.isSpace k
   . have key := fZ x limit hl m (cur + 1) words (some cur) (by omega) ⟨rfl, h2, Nat.le_succ cur, h3⟩ (fun b e => by cases e; omega);refine key.trans ?_;congr 1;have e1 : fx x (cur + 1) (some cur) = [k] := by
      simp only [fx];rw [hdrop];simp [show cur + 1 - cur = 1 by omega]
     rw [e1];simp [qg, hsp, fx]
   . have key := fZ x limit hl m (cur + 1) words none (by omega) ⟨rfl, h2, Nat.le_succ_of_le h3⟩ (fun b e => by cases e);refine key.trans ?_;congr 1;simp [qg, hsp, fx]
  | some b =>
   have hlt := hb b rfl;have hne : ((cl x).drop b).take (cur - b) ≠ [] := by
    intro e;have := congrArg List.length e;rw [length_take, length_drop, bJ] at this;simp only [List.length_nil] at this;omega
   cases hsp : Unicode.isSpace k
   . have key := fZ x limit hl m (cur + 1) words (some b) (by omega) ⟨rfl, h2, Nat.le_succ_of_le h3.1, h3.2⟩ (fun b' e => by cases e; omega);refine key.trans ?_;congr 1;have e1 : fx x (cur + 1) (some b) = fx x cur (some b) ++ [k] := by
      simp only [fx];rw [show cur + 1 - b = (cur - b) + 1 by omega, take_add_one];congr 1;rw [List.getElem?_drop, show b + (cur - b) = cur by omega, hopt];rfl
     rw [e1];simp [qg, hsp]
   . have ok : SwOk x.length (cur + 1) (none, words.push (b, cur), none) := by
      have step := sw_run x limit hl 1 cur (none, words, some b) (by omega) h;simpa [swBody, hsz, hget, hsp] using step
     have key := fZ x limit hl m (cur + 1) (words.push (b, cur)) none (by omega) ok (fun b e => by cases e);refine key.trans ?_;rw [Array.toList_push, map_append, List.append_assoc];congr 1;simp only [fx];simp [qg, hsp, hne, yn]
theorem xy (x : Str) : (Txt.words x).map cl = pP Unicode.isSpace (cl x) := by
 have key := fZ x (x.length + 1) (Nat.lt_succ_self _) x.length 0 #[] none (by omega) ⟨rfl, by simp, by simp [wsum]⟩ (fun b e => by cases e);rw [<- sw_eq] at key;simp only [List.drop_zero, fx] at key;unfold Txt.words;split
 . rename_i he;have he' : spaceWords x (x.length + 1) = [(0, x.length)] := by simpa using he
   rw [he'] at key;simp only [map_cons, map_nil] at key;rw [sub_whole] at key;simpa [pP] using key
 . show (((spaceWords x (x.length + 1)).map fun p => strSub x p.1 p.2)).map cl = _;rw [map_map];simpa [pP, Function.comp_def] using key
end Y
namespace Y
open PySem PyProof.Rows Builtin Builtin.Str StrLaws
def kh : Str := "abcdefghijklmnopqrstuvwxyz0123456789"
def jG (c : Nat) : Bool := decide (c ∈ cl kh)
def hE (c : Nat) : Nat := if jG c then c else 32
theorem ke : ∀ c ∈ cl kh, lo1 c = c /\ Unicode.isSpace c = false /\ c < 128 /\ c ≠ 10 /\ c ≠ 32 := by decide +kernel
theorem fN {c : Nat} (h : jG c = true) : c ∈ cl kh := by simpa [jG] using h
theorem yR {c : Nat} (h : jG c = true) : Unicode.isSpace c = false := (ke c (fN h)).2.1
theorem yP {c : Nat} (h : jG c = true) : lo1 c = c := (ke c (fN h)).1
theorem Fq : Unicode.isSpace 32 = true := by decide +kernel
theorem z5 (c : Nat) : Unicode.isSpace (hE c) = !jG c := by
 unfold hE;cases h : jG c
 . simp [Fq]
 . simp [yR h]
def iO (l : GX) : List GX := pP Unicode.isSpace ((l.map lo1).map hE)
def gS (cur : GX) : List GX := if cur = [] then [] else [cur]
def mQ (row : List GX) : List (List GX) := if row = [] then [] else [row]
def yV (l : GX) : List (List GX) := ((cutAt 10 l).map iO).filter fun r => !decide (r = [])
def scan : List Nat -> List GX -> List Nat -> List (List GX)
 | [], row, cur => mQ (row ++ gS cur)
 | c :: cs, row, cur => if c = 10 then mQ (row ++ gS cur) ++ scan cs [] [] else if jG (lo1 c) then scan cs row (cur ++ [lo1 c]) else scan cs (row ++ gS cur) []
theorem wY (sp : Nat -> Bool) (k : Nat) (r cur : GX) : qg sp (k :: r) cur = if sp k then gS cur ++ qg sp r [] else qg sp r (cur ++ [k]) := by
 unfold gS;rw [qg];split
 . split <;> simp
 . rfl
theorem ub (sp : Nat -> Bool) (cur : GX) : qg sp [] cur = gS cur := rfl
theorem mW (row : List GX) (t : List (List GX)) : ((row :: t).filter fun r => !decide (r = [])) = mQ row ++ t.filter fun r => !decide (r = []) := by
 unfold mQ;by_cases h : row = []
 . simp [h]
 . simp [h]
theorem qp : ∀ (l : GX) (row : List GX) (cur : GX),
 scan l row cur = mQ (row ++ qg Unicode.isSpace ((((cutAt 10 l).headD []).map lo1).map hE) cur) ++ (((cutAt 10 l).tail).map iO).filter fun r => !decide (r = [])
 | [], row, cur => by simp [scan, cutAt, ub]
 | c :: cs, row, cur => by
  have ih := qp cs;by_cases hc : c = 10
  . subst hc;have e : cutAt 10 (10 :: cs) = [] :: cutAt 10 cs := by simp [cutAt]
    rw [e];simp only [scan, if_true, List.headD_cons, List.tail_cons, map_nil, ub];congr 1;rw [ih [] []];obtain ⟨h, t, e2⟩ : ∃ h t, cutAt 10 cs = h :: t := by
     cases q : cutAt 10 cs with
     | nil => exact absurd q (iq 10 cs)
     | cons h t => exact ⟨h, t, rfl⟩
    rw [e2];simp only [List.headD_cons, List.tail_cons, map_cons, List.nil_append];rw [mW];rfl
  . have e : cutAt 10 (c :: cs) = (c :: (cutAt 10 cs).headD []) :: (cutAt 10 cs).tail := by simp [cutAt, hc]
    rw [e];simp only [scan, hc, if_false, List.headD_cons, List.tail_cons, map_cons];rw [wY, z5];cases hs : jG (lo1 c)
    . simp only [Bool.not_false, if_true, Bool.false_eq_true, if_false];rw [ih, List.append_assoc]
    . simp only [Bool.not_true, if_true];rw [ih];have : hE (lo1 c) = lo1 c := by simp [hE, hs]
      rw [this];simp
theorem vT (l : GX) : yV l = scan l [] [] := by
 rw [qp];unfold yV;obtain ⟨h, t, e2⟩ : ∃ h t, cutAt 10 l = h :: t := by
  cases q : cutAt 10 l with
  | nil => exact absurd q (iq 10 l)
  | cons h t => exact ⟨h, t, rfl⟩
 rw [e2];simp only [map_cons, List.headD_cons, List.tail_cons, List.nil_append];rw [mW];rfl
def dr (part : Str) : List Str := Txt.words (Txt.join "" ((cl (Txt.lower part)).map fun c => if jG c then (⟨#[c]⟩ : Str) else " "))
def cj (z : Str) : List GV := ((Txt.split z "\n").map dr).filter fun r => !decide (r = [])
theorem Bg : ∀ (l : GX), cl (Str.join "" (l.map fun c => (⟨#[c]⟩ : Str))) = l
 | [] => rfl
 | [c] => rfl
 | c :: d :: r => by
  show cl ((⟨#[c]⟩ : Str) ++ "" ++ Str.join "" ((d :: r).map fun c => (⟨#[c]⟩ : Str))) = _;rw [bO, bO, Bg (d :: r)];rfl
theorem Bx (l : GX) : cl (Txt.join "" (l.map fun c => if jG c then (⟨#[c]⟩ : Str) else " ")) = l.map hE := by
 have e : (l.map fun c => if jG c then (⟨#[c]⟩ : Str) else " ") = (l.map hE).map fun c => (⟨#[c]⟩ : Str) := by
  rw [map_map];apply map_congr_left;intro c _;simp only [Function.comp, hE];split <;> rfl
 show cl (glued "" _) = _;rw [glued_eq_join, e, Bg]
theorem qc {z : Str} (h : ∀ c ∈ cl z, c < 128) : (dr z).map cl = iO (cl z) := by
 unfold dr;rw [xy, Bx, lower_ascii h];simp [iO, cl]
theorem eV {c : Nat} : ∀ {l p : GX} {k : Nat}, p ∈ cutAt c l -> k ∈ p -> k ∈ l
 | [], p, k, hp, hk => by
  simp [cutAt] at hp;subst hp;exact hk
 | a :: r, p, k, hp, hk => by
  unfold cutAt at hp;split at hp
  . rcases mem_cons.mp hp with rfl | hp
    . simp at hk
    . exact mem_cons_of_mem _ (eV hp hk)
  . rcases mem_cons.mp hp with rfl | hp
    . rcases mem_cons.mp hk with rfl | hk
      . exact mem_cons_self
      . refine mem_cons_of_mem _ (eV (c := c) (p := (cutAt c r).headD []) ?_ hk)
        cases q : cutAt c r with
        | nil => exact absurd q (iq c r)
        | cons h t => simp
    . exact mem_cons_of_mem _ (eV (List.mem_of_mem_tail hp) hk)
theorem kB (rows : GI) (ls : List (List GX)) (h : rows.map (·.map cl) = ls) : rows = ls.map (·.map Dh) := by
 subst h;rw [map_map]
 conv => lhs; rw [<- List.map_id rows]
 apply map_congr_left;intro r _;simp only [Function.comp, map_map, _root_.id]
 conv => lhs; rw [<- List.map_id r]
 apply map_congr_left;intro x _;simp only [Function.comp, tw, _root_.id]
theorem sU {z : Str} (h : ∀ c ∈ cl z, c < 128) : (cj z).map (·.map cl) = scan (cl z) [] [] := by
 rw [<- vT];unfold cj yV;rw [<- gq];have hp : ∀ p ∈ Txt.split z "\n", ∀ c ∈ cl p, c < 128 := fun p hp c hc => by
  have : cl p ∈ cutAt 10 (cl z) := by
   rw [<- gq];exact List.mem_map_of_mem hp
  exact h c (eV this hc)
 have e : ((Txt.split z "\n").map dr).map (·.map cl) = ((Txt.split z ⟨#[10]⟩).map cl).map iO := by
  rw [map_map, map_map];apply map_congr_left;intro p hq;exact qc (hp p hq)
 rw [<- e];generalize (Txt.split z "\n").map dr = rs;rw [filter_map];congr 1;apply List.filter_congr;intro r _;simp
end Y
namespace Y
open PySem PyProof.Rows Builtin Builtin.Str StrLaws
def bF (sep : GX) : List GX -> List Nat
 | [] => []
 | [x] => x
 | x :: y :: r => x ++ sep ++ bF sep (y :: r)
theorem fT (sep x y : GX) (r : List GX) : bF sep (x :: y :: r) = x ++ sep ++ bF sep (y :: r) := rfl
theorem uv (sep : Str) : ∀ (ps : GV), cl (Str.join sep ps) = bF (cl sep) (ps.map cl)
 | [] => rfl
 | [p] => rfl
 | p :: q :: r => by
  show cl (p ++ sep ++ Str.join sep (q :: r)) = _;rw [bO, bO, uv sep (q :: r)];rfl
theorem gg (sep : Str) (ps : GV) : cl (Txt.join sep ps) = bF (cl sep) (ps.map cl) := by
 show cl (glued sep ps) = _;rw [glued_eq_join, uv]
structure Dc (w : GX) : Prop where
 ne : w ≠ []
 sg : ∀ c ∈ w, jG (lo1 c) = true
 nl : ∀ c ∈ w, c ≠ 10
def Part (p : GX) : Prop := p ≠ [] /\ ∀ c ∈ p, jG (lo1 c) = false /\ c ≠ 10
def Quiet (p : GX) : Prop := ∀ c ∈ p, jG (lo1 c) = false
theorem jf : ∀ (w rest : GX) (row : List GX) (cur : GX), (∀ c ∈ w, jG (lo1 c) = true) -> (∀ c ∈ w, c ≠ 10) -> scan (w ++ rest) row cur = scan rest row (cur ++ w.map lo1)
 | [], rest, row, cur, _, _ => by simp
 | c :: w, rest, row, cur, h1, h2 => by
  have e1 := h1 c (by simp);have e2 := h2 c (by simp);rw [cons_append, scan];rw [if_neg e2, if_pos e1, jf w rest row _ (fun k hk => h1 k (by simp [hk])) (fun k hk => h2 k (by simp [hk]))];simp
theorem lM : ∀ (p rest : GX) (row : List GX), (∀ c ∈ p, jG (lo1 c) = false /\ c ≠ 10) -> scan (p ++ rest) row [] = scan rest row []
 | [], rest, row, _ => rfl
 | c :: p, rest, row, h => by
  obtain ⟨e1, e2⟩ := h c (by simp);rw [cons_append, scan, if_neg e2, if_neg (by rw [e1]; simp)];have : gS [] = [] := rfl;rw [this, append_nil];exact lM p rest row fun k hk => h k (by simp [hk])
theorem u5 {p : GX} (hp : Part p) (rest : GX) (row : List GX) (cur : GX) : scan (p ++ rest) row cur = scan rest (row ++ gS cur) [] := by
 obtain ⟨h0, h⟩ := hp
 cases p with
 | nil => exact absurd rfl h0
 | cons c p =>
  obtain ⟨e1, e2⟩ := h c (by simp);rw [cons_append, scan, if_neg e2, if_neg (by rw [e1]; simp)];exact lM p rest _ fun k hk => h k (by simp [hk])
theorem jC : ∀ (p rest : GX), Quiet p -> scan (p ++ rest) [] [] = scan rest [] []
 | [], rest, _ => rfl
 | c :: p, rest, h => by
  have e1 := h c (by simp);have ih := jC p rest fun k hk => h k (by simp [hk]);rw [cons_append, scan];by_cases hc : c = 10
  . rw [if_pos hc, ih]; rfl
  . rw [if_neg hc, if_neg (by rw [e1]; simp)]; exact ih
theorem jD : ∀ (p rest : GX) (row : List GX) (cur : GX), Quiet p -> 10 ∈ p -> scan (p ++ rest) row cur = mQ (row ++ gS cur) ++ scan rest [] []
 | [], rest, row, cur, _, h => by simp at h
 | c :: p, rest, row, cur, h, h10 => by
  have e1 := h c (by simp);rw [cons_append, scan];by_cases hc : c = 10
  . rw [if_pos hc, jC p rest fun k hk => h k (by simp [hk])]
  . rw [if_neg hc, if_neg (by rw [e1]; simp)];have h2 : 10 ∈ p := by
     rcases mem_cons.mp h10 with z | z
     . exact absurd z.symm hc
     . exact z
    rw [jD p rest _ _ (fun k hk => h k (by simp [hk])) h2];simp [gS]
theorem iN : ∀ (p : GX) (row : List GX) (cur : GX), Quiet p -> scan p row cur = mQ (row ++ gS cur)
 | [], row, cur, _ => rfl
 | c :: p, row, cur, h => by
  have e1 := h c (by simp);rw [scan];by_cases hc : c = 10
  . rw [if_pos hc];have := iN p [] [] fun k hk => h k (by simp [hk]);rw [this]; simp [gS, mQ]
  . rw [if_neg hc, if_neg (by rw [e1]; simp), iN p _ _ fun k hk => h k (by simp [hk])];simp [gS]
theorem ph {w : GX} (h : w ≠ []) : gS w = [w] := by simp [gS, h]
theorem ly {p : GX} (hp : Part p) : ∀ (ws : List GX) (w : GX) (rest : GX) (row : List GX), (∀ x ∈ ws, Dc x) -> Dc w ->
 scan (bF p (ws ++ [w]) ++ rest) row [] = scan rest (row ++ ws.map (·.map lo1)) (w.map lo1)
 | [], w, rest, row, _, hw => by
  show scan (w ++ rest) row [] = _;rw [jf w rest row [] hw.sg hw.nl];simp
 | x :: ws, w, rest, row, h, hw => by
  have hx := h x (by simp);have e : bF p (x :: ws ++ [w]) = x ++ p ++ bF p (ws ++ [w]) := by
   cases ws with
   | nil => rfl
   | cons y r => rfl
  rw [e, List.append_assoc, List.append_assoc, jf x _ row [] hx.sg hx.nl, u5 hp, ly hp ws w rest _ (fun y hy => h y (by simp [hy])) hw];simp only [List.nil_append];rw [ph (by intro z; exact hx.ne (by simpa using z))];simp
theorem uD {α : Type} {l : List α} (h : l ≠ []) : ∃ i x, l = i ++ [x] := ⟨l.dropLast, l.getLast h, (List.dropLast_concat_getLast h).symm⟩
theorem m8 {p q : GX} (hp : Part p) (hq : Quiet q) (h10 : 10 ∈ q) : ∀ (rows : List (List GX)) (post : GX), (∀ r ∈ rows, r ≠ [] /\ ∀ x ∈ r, Dc x) -> Quiet post ->
 scan (bF q (rows.map (bF p)) ++ post) [] [] = rows.map (·.map (·.map lo1))
 | [], post, _, hpost => by
  show scan ([] ++ post) [] [] = _;rw [List.nil_append, iN post [] [] hpost]; rfl
 | [r], post, h, hpost => by
  obtain ⟨hne, hw⟩ := h r (by simp);obtain ⟨i, x, rfl⟩ := uD hne;show scan (bF p (i ++ [x]) ++ post) [] [] = _;have hx := hw x (by simp);rw [ly hp i x post [] (fun y hy => hw y (by simp [hy])) hx, iN post _ _ hpost, ph (by intro z; exact hx.ne (by simpa using z))];simp [mQ]
 | r :: r2 :: rs, post, h, hpost => by
  obtain ⟨hne, hw⟩ := h r (by simp);obtain ⟨i, x, rfl⟩ := uD hne;have hx := hw x (by simp);have e : bF q ((((i ++ [x]) :: r2 :: rs)).map (bF p)) = bF p (i ++ [x]) ++ q ++ bF q ((r2 :: rs).map (bF p)) := rfl;rw [e, List.append_assoc, List.append_assoc, ly hp i x _ [] (fun y hy => hw y (by simp [hy])) hx, jD q _ _ _ hq h10, ph (by intro z; exact hx.ne (by simpa using z)), m8 hp hq h10 (r2 :: rs) post (fun y hy => h y (by simp [hy])) hpost];simp [mQ]
theorem mE (g : Nat -> List Nat) (sep : GX) : ∀ (ps : List GX), (bF sep ps).flatMap g = bF (sep.flatMap g) (ps.map (·.flatMap g))
 | [] => rfl
 | [p] => rfl
 | p :: q :: r => by
  rw [fT, List.flatMap_append, List.flatMap_append, mE g sep (q :: r)];rfl
theorem nM (g : Nat -> Nat) (sep : GX) : ∀ (ps : List GX), (bF sep ps).map g = bF (sep.map g) (ps.map (·.map g))
 | [] => rfl
 | [p] => rfl
 | p :: q :: r => by
  rw [fT, map_append, map_append, nM g sep (q :: r)];rfl
def uy (z : Str) : Prop := z ≠ "" /\ ∀ c ∈ cl z, jG c = true
theorem uy.w {z : Str} (h : uy z) : Dc (cl z) := ⟨fun e => h.1 (nF.mp e), fun c hc => by rw [yP (h.2 c hc)]; exact h.2 c hc, fun c hc => (ke c (fN (h.2 c hc))).2.2.2.1⟩
theorem uy.low {z : Str} (h : uy z) : (cl z).map lo1 = cl z := by
 conv => rhs; rw [<- List.map_id (cl z)]
 exact map_congr_left fun c hc => yP (h.2 c hc)
theorem pb : ∀ c ∈ cl kh, lo1 (up1 c) = c /\ up1 c ≠ 10 /\ up1 c < 128 := by decide +kernel
theorem uy.up {z : Str} (h : uy z) : Dc ((cl z).map up1) /\ ((cl z).map up1).map lo1 = cl z := by
 refine ⟨⟨fun e => h.1 (nF.mp (by simpa using e)), fun c hc => ?_, fun c hc => ?_⟩, ?_⟩
 . obtain ⟨k, hk, rfl⟩ := mem_map.mp hc;rw [(pb k (fN (h.2 k hk))).1]; exact h.2 k hk
 . obtain ⟨k, hk, rfl⟩ := mem_map.mp hc;exact (pb k (fN (h.2 k hk))).2.1
 . rw [map_map]
   conv => rhs; rw [<- List.map_id (cl z)]
   exact map_congr_left fun c hc => (pb c (fN (h.2 c hc))).1
def cq (rows : GI) : Prop := ∀ r ∈ rows, r ≠ [] /\ ∀ x ∈ r, uy x
theorem d9 {sep : GX} (hs : ∀ c ∈ sep, c < 128) : ∀ {ps : List GX}, (∀ p ∈ ps, ∀ c ∈ p, c < 128) -> ∀ c ∈ bF sep ps, c < 128
 | [], _, c, hc => by simp [bF] at hc
 | [p], h, c, hc => h p (by simp) c hc
 | p :: q :: r, h, c, hc => by
  rw [fT, mem_append, mem_append] at hc;rcases hc with (hc | hc) | hc
  . exact h p (by simp) c hc
  . exact hs c hc
  . exact d9 hs (fun x hx => h x (by simp [hx])) c hc
theorem vO {rows : GI} {z : Str} (ha : ∀ c ∈ cl z, c < 128) (h : scan (cl z) [] [] = rows.map (·.map cl)) : cj z = rows := by
 have e := sU ha;rw [h] at e;have e1 := kB _ _ e;have e2 := kB rows _ rfl;rw [e1, <- e2]
theorem oH {z : Str} (h : uy z) : ∀ c ∈ cl z, c < 128 := fun c hc => (ke c (fN (h.2 c hc))).2.2.1
end Y
namespace Y
open PySem PyProof.Rows Builtin Builtin.Str StrLaws
end Y
namespace Y
open PySem PySem.Spec PyProof.Rows L2
variable [bT]
def cellAt (ns : List Int) (k : Nat) : Int := ns.getD k 0
def t6 (ds : List D) (d : D) : Prop := ∃ (ns : List Int) (k : Nat), ns.length <= 1000 /\ ds = [.lst (ns.map D.int), .int k] /\ d = .int (cellAt ns k)
def part (c k m : Int) : Int := (c % 99991 + 17) * (48271 + 7919 * k) % 65537 * (k + 3) % 8191 % m
theorem oK (c k : Int) {m : Int} (h : 0 < m) : 0 <= part c k m := Int.emod_nonneg _ (by omega)
theorem oB (c k : Int) {m : Int} (h : 0 < m) : part c k m < m := Int.emod_lt_of_pos _ h
def xh (ds : List D) (d : D) : Prop := ∃ c k m : Int, 0 < m /\ ds = [.int c, .int k, .int m] /\ d = .int (part c k m)
def aE (ws : GV) : D := .lst (ws.map D.str)
def BA (ns : List Int) : D := .lst (ns.map D.int)
def bu (rows : GI) : D := .lst (rows.map aE)
theorem wH {ws : GV} {n : Nat} (h : n < ws.length) : (ws.map D.str)[n]? = some (.str (ws.getD n "")) := by simp [h]
def fz (p : GZ) : D := .tup [.int p.1, .int p.2]
def BC (ps : List GZ) : D := .lst (ps.map fz)
def eA (rows : GI) : Nat := (rows.map List.length).sum
def eY (rows : GI) (n : Nat) : List GZ := (List.range n).flatMap fun r => (List.range (rows.getD r []).length).map fun a => (r, a)
def iG (rows : GI) : List GZ := eY rows rows.length
theorem gI (rows : GI) (n : Nat) : eY rows (n + 1) = eY rows n ++ (List.range (rows.getD n []).length).map fun a => (n, a) := by
 unfold eY;rw [range_succ, List.flatMap_append];simp
theorem ju (rows : GI) : ∀ n, n <= rows.length -> (eY rows n).length = ((rows.take n).map List.length).sum
 | 0, _ => by simp [eY]
 | n + 1, h => by
  have hn : n < rows.length := by omega
  have e : rows.take (n + 1) = rows.take n ++ [rows.getD n []] := by
   rw [take_add_one]; simp [hn]
  rw [gI, List.length_append, ju rows n (by omega), length_map, length_range, e, map_append, List.sum_append];simp
theorem jL : ∀ (l : GI) (n : Nat), ((l.take n).map List.length).sum <= (l.map List.length).sum
 | [], n => by simp
 | a :: l, 0 => by simp
 | a :: l, n + 1 => by
  have := jL l n;simp at this ⊢;omega
theorem yj (rows : GI) (n : Nat) (h : n <= rows.length) : (eY rows n).length <= eA rows := by
 rw [ju rows n h]; exact jL rows n
theorem tU {rows : GI} {n : Nat} {row : GV} (h : rows[n]? = some row) (m : Nat) (hm : m <= row.length) : (eY rows n).length + m <= eA rows := by
 have hn : n < rows.length := (List.getElem?_eq_some_iff.mp h).1;have h1 := yj rows (n + 1) (by omega);rw [gI, List.length_append] at h1;simp [h] at h1;omega
def DN (ds : List D) (d : D) : Prop := ∃ rows, eA rows <= 900 /\ ds = [bu rows] /\ d = BC (iG rows)
def endAt (rows : GI) (p : GZ) : List Str := (rows.getD p.1 []).drop p.2
def DM (ds : List D) (d : D) : Prop := ∃ (rows : GI) (p : GZ), p.1 < rows.length /\ ds = [bu rows, fz p] /\ d = aE (endAt rows p)
theorem bW {n i : Nat} {d : D} (h : (bQ 0 n)[i]? = some d) : i < n /\ d = .int (i : Nat) := by
 obtain ⟨h1, h2⟩ := kH h;exact ⟨h1, by rw [h2, Int.zero_add]⟩
theorem cD {lo : Int} {n : Nat} : ∀ d ∈ bQ lo n, d.flat = true := fun d hd => by obtain ⟨i, _, rfl⟩ := mem_map.mp hd; rfl
theorem wq {ns : GV} : ∀ d ∈ ns.map D.str, d.flat = true := fun d hd => by obtain ⟨i, _, rfl⟩ := mem_map.mp hd; rfl
theorem vS : Told aE := uX yQ
theorem ui {n : Nat} : ∀ {ds : List D}, (∀ d ∈ ds, d.dep <= n) -> b0 ds <= n
 | [], _ => by simp [b0]
 | d :: ds, h => by
  have h1 := h d mem_cons_self;have h2 : b0 ds <= n := ui fun e he => h e (mem_cons_of_mem _ he);simp [b0]; omega
theorem iE {n : Nat} {ds : List D} (h : ∀ d ∈ ds, d.dep <= n) : (D.lst ds).dep <= n + 1 := by
 have := ui h;simp [D.dep]; omega
theorem fD (ws : GV) : (aE ws).dep <= 1 := iE fun d hd => by obtain ⟨i, _, rfl⟩ := mem_map.mp hd; simp [D.dep]
theorem rE (ws : List Int) : (BA ws).dep <= 1 := iE fun d hd => by obtain ⟨i, _, rfl⟩ := mem_map.mp hd; simp [D.dep]
theorem yN (ws : GI) : (bu ws).dep <= 2 := iE fun d hd => by obtain ⟨i, _, rfl⟩ := mem_map.mp hd; exact fD i
theorem jN {k n : Nat} {A : Around} {d : D} (r : bo k A) (h : d.dep <= n) (hn : n <= 200 := by decide) : A.units + d.dep < cLine := by have := r.un; omega
def fH (z : Str) : Prop := ∀ c ∈ cl z, c < 128
theorem Dx (c : Nat) : (!(Builtin.Str.occurrences kh ⟨#[c]⟩ 0 kh.length 1).isEmpty) = jG c := StrLaws.found_one kh c
def qS (ds : List D) (d : D) : Prop := ∃ z : Str, z.length <= 2000 /\ fH z /\ ds = [.str z] /\ d = aE (dr z)
def uB (ds : List D) (d : D) : Prop := ∃ z : Str, z.length <= 2000 /\ fH z /\ ds = [.str z] /\ d = bu (cj z)
theorem nC (c : Nat) : ∀ l : List Nat, (cutAt c l).length <= l.length + 1
 | [] => by simp [cutAt]
 | k :: r => by
  have ih := nC c r;unfold cutAt;split
  . simp; omega
  . have := iq c r
    cases q : cutAt c r with
    | nil => exact absurd q this
    | cons h t => rw [q] at ih; simp at ih ⊢; omega
theorem cK (c : Nat) : ∀ (l : GX) (p : GX), p ∈ cutAt c l -> p.length <= l.length
 | [], p, hp => by simp [cutAt] at hp; subst hp; simp
 | k :: r, p, hp => by
  unfold cutAt at hp;split at hp
  . rcases mem_cons.mp hp with rfl | hp
    . simp
    . have := cK c r p hp; simp; omega
  . rcases mem_cons.mp hp with rfl | hp
    . have : ((cutAt c r).headD []).length <= r.length := by
       cases q : cutAt c r with
       | nil => simp
       | cons h t => exact cK c r _ (by rw [q]; simp)
      rw [length_cons, length_cons]; omega
    . have := cK c r p (List.mem_of_mem_tail hp); simp; omega
theorem wB {z p : Str} (h : p ∈ Txt.split z "\n") : cl p ∈ cutAt 10 (cl z) := by
 rw [<- gq];exact List.mem_map_of_mem (f := cl) h
theorem pK (z : Str) : (Txt.split z "\n").length <= z.length + 1 := by
 have := nC 10 (cl z);rw [<- gq, length_map, bJ] at this;exact this
theorem vt (z : Str) : (Builtin.Str.spaceWords z (z.length + 1)).length <= z.length + 1 := Nat.le_trans (StrLaws.len_le_wsum _) (StrLaws.sw_weight z).1
theorem vd (z y : Str) : (Builtin.Str.partsBetween z (Builtin.Str.occurrences z y 0 z.length (z.length + 1)) y.length).length <= z.length + 2 := by
 have h := StrLaws.occ_length_le_len z y 0 z.length (z.length + 1);unfold Builtin.Str.partsBetween;simp;omega
theorem vZ {z : Str} (h : fH z) : (Txt.lower z).length = z.length := by
 rw [PyProof.Rows.lower_ascii h];show (z.cps.map _).size = z.cps.size;simp
theorem uq : 5000 <= sizeLine := by decide
theorem cE {n : Nat} (h : n <= 5000) : n <= sizeLine := Nat.le_trans h uq
theorem uJ {a b : Nat} (h : a <= b) (hb : b <= 5000) : a <= sizeLine := Nat.le_trans h (Nat.le_trans hb uq)
theorem rp {α : Type} (f : α -> Nat) : ∀ (l : List α), (∀ c, f c = 1) -> (l.map f).sum = l.length
 | [], _ => rfl
 | a :: l, h => by simp [h a, rp f l h]; omega
theorem T.fP {X : Cx} {ρ : List (Option D)} {e : Expr} {b b' : Bool} (h : T X ρ e b) (q : b = b') : T X ρ e b' := q ▸ h
theorem t7 {g : List D -> List D} : ∀ {ds es : List D}, sY g ds es -> ds.length = es.length
 | [], es, h => by rw [oX.mp h]
 | d :: ds, es, h => by
  obtain ⟨e, r, rfl, _, h2⟩ := lh.mp h;simp [t7 h2]
theorem qv {α : Type} (x : α) (xs : List α) : jB (x :: xs) 0 = some x := cB (j := 0) rfl
theorem qt (x : Str) {j : Int} (h0 : 0 <= j) (h1 : j <= (cl x).length) : cl (Txt.slice x none (some j)) = (cl x).take j.toNat := by
 have e : Txt.slice x none (some j) = _ := StrLaws.sliceText_to (x := x) (j := j) ⟨h0, h1⟩;rw [e];simp [cl]
theorem qb (sep : Str) (zs : GV) : (Txt.join sep zs).length <= (zs.map (·.length)).sum + zs.length * sep.length := by
 show (Builtin.Str.glued sep zs).length <= _;rw [StrLaws.glued_eq_join];exact StrLaws.join_length_le sep zs
def CJ : D -> Str
 | .str x => x
 | _ => ""
theorem uz (ws : GV) : (ws.map D.str).map CJ = ws := by
 rw [map_map]
 conv => rhs; rw [<- List.map_id ws]
 rfl
theorem gO : ∀ {rows : GI}, (∀ r ∈ rows, 0 < r.length) -> rows.length <= eA rows
 | [], _ => by simp [eA]
 | r :: l, h => by
  have h1 := gO fun x hx => h x (mem_cons_of_mem _ hx);have h2 := h r (by simp);unfold eA at h1 ⊢;simp only [map_cons, List.sum_cons, length_cons]; omega
theorem vo {z : Str} (h : fH z) : (Txt.upper z).length = z.length := by
 rw [PyProof.Rows.upper_ascii h];show (z.cps.map _).size = z.cps.size;simp
def bE (one : Int) : Int := 1 + part one 0 14
def DH (one other : Int) : Int := part other 1 (bE one)
theorem i6 (one : Int) : 1 <= bE one := by have := oK one 0 (show (0 : Int) < 14 by decide); unfold bE; omega
theorem rA (one : Int) : bE one <= 14 := by have := oB one 0 (show (0 : Int) < 14 by decide); unfold bE; omega
end Y
namespace Y
open PySem PySem.Spec PyProof.Rows L2 PySem.SeqAt AutoSeq1 MeetsSeq MeetsSeq2 MeetsSeq3
def fB (op : CmpOp) (A : Around) (s : Shared) (y x : Value) (b : Bool) : Prop :=
 ∀ (prog : Program) (w : World) (E : GJ) (Q : GJ), Q (.bool b) s -> wpAny (model prog w) A (richCompare op y x) Q E s
def bN (e r : Nat -> Bool) (z : Bool) : List Nat -> Bool
 | [] => z
 | j :: js => if e j then bN e r z js else r j
theorem C5 (l b : Addr) (its its2 : GP) (n n2 : Nat) (dd dd2 : GQ) (sl sl2 : GL) (e r : Nat -> Bool) (k : Nat) :
 ∀ i : Nat, min its.size its2.size - i = k -> Meets (Builtin.«list.__eq__.loop» ⟨[.ref l, .ref b, rawInt i, rawInt 0], []⟩)
  (fun A R s => s.heap.get? l = some { cls := .type "list", dict := dd, data := .seq its n, slots := sl } /\ s.heap.get? b = some { cls := .type "list", dict := dd2, data := .seq its2 n2, slots := sl2 } /\
   (∀ j (h1 : j < its.size) (h2 : j < its2.size), EqAt A.in1 s its[j] its2[j] (e j)) /\ (∀ j (h1 : j < its.size) (h2 : j < its2.size), e j = false -> fB .Lt A.in1 s its[j] its2[j] (r j)) /\
   R (.ok (.ret (.bool (bN e r (decide (its.size < its2.size)) ((List.range (min its.size its2.size)).drop i))))) s) := by
 induction k with
 | zero =>
  intro i hk prog w A R s hyp;obtain ⟨hp, g, d, tk, os⟩ := s;obtain ⟨hl, hb, he, ho, fin⟩ := hyp;wp_walk using wpAny_loadPart' hl, wpAny_loadPart' hb;have hd : (List.range (min its.size its2.size)).drop i = [] := by simp; omega
  rw [hd] at fin;by_cases h1 : i < its.size
  . have e1 : its[((i : Nat) : Int).toNat]? = some its[i] := by simp [h1]
    have e2 : its2[((i : Nat) : Int).toNat]? = none := by simp; omega
    rw [e1, e2];wp_walk using wpAny_loadPart' hl, wpAny_loadPart' hb;exact fin
  . have e1 : its[((i : Nat) : Int).toNat]? = none := by simp; omega
    rw [e1];cases e2 : its2[((i : Nat) : Int).toNat]?
    . wp_walk using wpAny_loadPart' hl, wpAny_loadPart' hb;exact fin
    . wp_walk using wpAny_loadPart' hl, wpAny_loadPart' hb;exact fin
 | succ k ih =>
  intro i hk prog w A R s hyp;obtain ⟨hp, g, d, tk, os⟩ := s;obtain ⟨hl, hb, he, ho, fin⟩ := hyp;wp_walk using wpAny_loadPart' hl, wpAny_loadPart' hb;have h1 : i < its.size := by omega
  have h2 : i < its2.size := by omega
  have e1 : its[((i : Nat) : Int).toNat]? = some its[i] := by simp [h1]
  have e2 : its2[((i : Nat) : Int).toNat]? = some its2[i] := by simp [h2]
  have hm : i < min its.size its2.size := by omega
  have hd : (List.range (min its.size its2.size)).drop i = i :: (List.range (min its.size its2.size)).drop (i + 1) := by simp [List.drop_eq_getElem_cons, hm]
  have hc : ((i : Int) + 1) = ((i + 1 : Nat) : Int) := by push_cast; rfl
  rw [hd] at fin;rw [e1, e2];refine wpAny_bind (he i h1 h2 prog w _ _ ?_)
  cases hq : e i with
  | true =>
   have fin' : R (.ok (.ret (.bool (bN e r (decide (its.size < its2.size)) ((List.range (min its.size its2.size)).drop (i + 1)))))) ⟨hp, g, d, tk, os⟩ := by simpa [bN, hq] using fin
   wp_walk;rw [hc];exact ⟨plainId_quiet plain_eq_loop _, codeAny_builtin entry_eq_loop (by
    rw [Around.under_plainId plain_eq_loop _];exact ih (i + 1) (by omega) prog w A R _ ⟨hl, hb, he, ho, fin'⟩)⟩
  | false =>
   have fin' : R (.ok (.ret (.bool (r i)))) ⟨hp, g, d, tk, os⟩ := by simpa [bN, hq] using fin
   wp_walk using wpAny_loadPart' hl, wpAny_loadPart' hb;rw [e1, e2];refine wpAny_bind (ho i h1 h2 hq prog w _ _ ?_);wp_walk;exact fin'
theorem ye (l b : Addr) (its its2 : GP) (n n2 : Nat) (dd dd2 : GQ) (sl sl2 : GL) (e r : Nat -> Bool) :
 Meets (Builtin.«list.__lt__» ⟨[.ref l, .ref b], []⟩)
  (fun A R s => s.heap.get? l = some { cls := .type "list", dict := dd, data := .seq its n, slots := sl } /\ s.heap.get? b = some { cls := .type "list", dict := dd2, data := .seq its2 n2, slots := sl2 } /\
   (∀ j (h1 : j < its.size) (h2 : j < its2.size), EqAt A.in1 s its[j] its2[j] (e j)) /\ (∀ j (h1 : j < its.size) (h2 : j < its2.size), e j = false -> fB .Lt A.in1 s its[j] its2[j] (r j)) /\
   R (.ok (.ret (.bool (bN e r (decide (its.size < its2.size)) (List.range (min its.size its2.size)))))) s) := by
 intro prog w A R s hyp;obtain ⟨hp, g, d, tk, os⟩ := s;obtain ⟨hl, hb, he, ho, fin⟩ := hyp;have f3 := AutoSeq1.sub_list_list;wp_walk using wpAny_loadPart' hl, wpAny_loadPart' hb
 all_goals exact ⟨plainId_quiet plain_eq_loop _, codeAny_builtin entry_eq_loop (by
  rw [Around.under_plainId plain_eq_loop _];exact C5 l b its its2 n n2 dd dd2 sl sl2 e r _ 0 rfl prog w A R _ ⟨hl, hb, he, ho, by simpa using fin⟩)⟩
theorem w8 {A : Around} {s : Shared} {l b : Addr} {its its2 : GP} {e r : Nat -> Bool} (hl : s.heap.IsList l its) (hb : s.heap.IsList b its2) (hu : A.units < cLine)
 (he : ∀ j (h1 : j < its.size) (h2 : j < its2.size), EqAt A.in1 s its[j] its2[j] (e j)) (ho : ∀ j (h1 : j < its.size) (h2 : j < its2.size), e j = false -> fB .Lt A.in1 s its[j] its2[j] (r j)) :
 fB .Lt A s (.ref l) (.ref b) (bN e r (decide (its.size < its2.size)) (List.range (min its.size its2.size))) := fun prog w E Q h => by
 obtain ⟨⟨cls, dd, data, sl⟩, g1, hc, n, hd⟩ := id hl;obtain ⟨⟨cls2, dd2, data2, sl2⟩, g2, hc2, n2, hd2⟩ := id hb;simp only at hc hd hc2 hd2;subst hc hd hc2 hd2;exact richCompare_meets_room (op := .Lt) ⟨_, g1, rfl⟩ ⟨_, g2, rfl⟩ F.slot_list_lt F.entry_list_lt (F.args_list_lt_2 _ _) (ye l b its its2 n n2 dd dd2 sl sl2 e r)
  ⟨g1, g2, he, ho, (fun x => nomatch x), h⟩ hu
theorem zV (l b : Addr) (its its2 : GP) (n n2 : Nat) (dd dd2 : GQ) (sl sl2 : GL) (e r : Nat -> Bool) :
 Meets (Builtin.«tuple.__lt__» ⟨[.ref l, .ref b], []⟩)
  (fun A R s => s.heap.get? l = some { cls := .type "tuple", dict := dd, data := .seq its n, slots := sl } /\ s.heap.get? b = some { cls := .type "tuple", dict := dd2, data := .seq its2 n2, slots := sl2 } /\
   (∀ j (h1 : j < its.size) (h2 : j < its2.size), EqAt A.in1 s its[j] its2[j] (e j)) /\ (∀ j (h1 : j < its.size) (h2 : j < its2.size), e j = false -> fB .Lt A.in1 s its[j] its2[j] (r j)) /\
   R (.ok (.ret (.bool (bN e r (decide (its.size < its2.size)) (List.range (min its.size its2.size)))))) s) :=
 .of_wp fun prog w A R s hyp => by
  obtain ⟨hp, g, d, tk, os⟩ := s;obtain ⟨hl, hb, he, ho, fin⟩ := hyp;have f2 := AutoSeq1.sub_tuple_tuple;have hZ : (its.toList.zip its2.toList).length = min its.size its2.size := by simp
  wp_walk using wpAny_loadPart' hl, wpAny_loadPart' hb, wpAny_forIn_list _ (fun rest c s' => c.1 = none /\ s' = ⟨hp, g, d, tk, os⟩ /\ ∃ i, rest = (its.toList.zip its2.toList).drop i /\
   R (.ok (.ret (.bool (bN e r (decide (its.size < its2.size)) ((List.range (min its.size its2.size)).drop i))))) ⟨hp, g, d, tk, os⟩) _
  case turn =>
   rintro ⟨y, x⟩ rest c s' ⟨hc', rfl, i, hz, hR⟩;have hlt : i < (its.toList.zip its2.toList).length := by
    rcases Nat.lt_or_ge i (its.toList.zip its2.toList).length with q | q
    . exact q
    . rw [List.drop_of_length_le q] at hz; cases hz
   have hm : i < min its.size its2.size := by omega
   have h1 : i < its.size := by omega
   have h2 : i < its2.size := by omega
   rw [List.drop_eq_getElem_cons hlt] at hz;injection hz with hyx hrest;have hy : y = its[i] := by have t := congrArg Prod.fst hyx; simpa using t
   have hx : x = its2[i] := by have t := congrArg Prod.snd hyx; simpa using t
   subst hy hx;have hd : (List.range (min its.size its2.size)).drop i = i :: (List.range (min its.size its2.size)).drop (i + 1) := by simp [List.drop_eq_getElem_cons, hm]
   rw [hd] at hR;refine wpAny_bind (he i h1 h2 prog w _ _ ?_)
   cases hq : e i with
   | true =>
    have fin' : R (.ok (.ret (.bool (bN e r (decide (its.size < its2.size)) ((List.range (min its.size its2.size)).drop (i + 1)))))) ⟨hp, g, d, tk, os⟩ := by simpa [bN, hq] using hR
    wp_walk;exact ⟨rfl, rfl, i + 1, hrest, fin'⟩
   | false =>
    have fin' : R (.ok (.ret (.bool (r i)))) ⟨hp, g, d, tk, os⟩ := by simpa [bN, hq] using hR
    rw [if_pos (show (!false) = true from rfl)];refine wpAny_bind (wpAny_rule (wpAny_bind (ho i h1 h2 hq prog w _ _ ?_)));wp_walk;exact ⟨_, rfl, fin'⟩
  case fin =>
   rintro ⟨c1, c2⟩ s' ⟨hc', rfl, i, hz, hR⟩;simp only at hc';subst hc';have hge : min its.size its2.size <= i := by
    rcases Nat.lt_or_ge i (its.toList.zip its2.toList).length with q | q
    . rw [List.drop_eq_getElem_cons q] at hz; cases hz
    . omega
   rw [List.drop_of_length_le (by simpa using hge)] at hR;wp_walk;exact ⟨_, rfl, by simpa [Builtin.Tuple.tupleCompareSizes, bN] using hR⟩
  case h =>
   exact ⟨rfl, rfl, 0, rfl, by simpa using fin⟩
theorem A0 {A : Around} {s : Shared} {l b : Addr} {its its2 : GP} {e r : Nat -> Bool} (hl : s.heap.IsTuple l its) (hb : s.heap.IsTuple b its2) (hu : A.units < cLine)
 (he : ∀ j (h1 : j < its.size) (h2 : j < its2.size), EqAt A.in1 s its[j] its2[j] (e j)) (ho : ∀ j (h1 : j < its.size) (h2 : j < its2.size), e j = false -> fB .Lt A.in1 s its[j] its2[j] (r j)) :
 fB .Lt A s (.ref l) (.ref b) (bN e r (decide (its.size < its2.size)) (List.range (min its.size its2.size))) := fun prog w E Q h => by
 obtain ⟨⟨cls, dd, data, sl⟩, g1, hc, n, hd⟩ := id hl;obtain ⟨⟨cls2, dd2, data2, sl2⟩, g2, hc2, n2, hd2⟩ := id hb;simp only at hc hd hc2 hd2;subst hc hd hc2 hd2;exact richCompare_meets_room (op := .Lt) ⟨_, g1, rfl⟩ ⟨_, g2, rfl⟩ F.slot_tuple_lt F.entry_tuple_lt (F.args_tuple_lt_2 _ _) (zV l b its its2 n n2 dd dd2 sl sl2 e r)
  ⟨g1, g2, he, ho, (fun x => nomatch x), h⟩ hu
end Y
namespace Y
open PySem PySem.Spec PyProof.Rows L2 PySem.SeqAt
variable [bT]
inductive Od where
  | lt
def Od.op : Od -> CmpOp
 | .lt => .Lt
def Od.sz : Od -> Nat -> Nat -> Bool
 | .lt, m, n => decide (m < n)
def Od.int : Od -> Int -> Int -> Bool
 | .lt, m, n => decide (m < n)
def Od.str : Od -> Str -> Str -> Bool
 | .lt, a, b => decide (cl a < cl b)
mutual
def br (o : Od) : D -> D -> Bool
 | .int a, .int b => o.int a b
 | .str a, .str b => o.str a b
 | .lst a, .lst b => bV o a b
 | .tup a, .tup b => bV o a b
 | _, _ => false
def bV (o : Od) : List D -> List D -> Bool
 | [], bs => o.sz 0 bs.length
 | a :: as, [] => o.sz (as.length + 1) 0
 | a :: as, b :: bs => if aP a b then bV o as bs else br o a b
end
mutual
def cI : D -> D -> Bool
 | .int _, .int _ => true
 | .str _, .str _ => true
 | .lst a, .lst b => eo a b
 | .tup a, .tup b => eo a b
 | _, _ => false
def eo : List D -> List D -> Bool
 | [], _ => true
 | _ :: _, [] => true
 | a :: as, b :: bs => cI a b && eo as bs
end
theorem Od.AB (o : Od) (m n : Nat) : o.sz (m + 1) (n + 1) = o.sz m n := by cases o <;> simp [Od.sz]
theorem qE (e r : Nat -> Bool) (z : Bool) : ∀ l : List Nat, bN e r z (l.map Nat.succ) = bN (fun j => e (j + 1)) (fun j => r (j + 1)) z l
 | [] => rfl
 | j :: l => by
  rw [map_cons, bN, bN, qE e r z l]
theorem gu (o : Od) : ∀ (ds es : List D), bN (fun j => aP (ds.getD j .non) (es.getD j .non)) (fun j => br o (ds.getD j .non) (es.getD j .non)) (o.sz ds.length es.length) (List.range (min ds.length es.length)) = bV o ds es
 | [], es => by simp [bN, bV]
 | a :: as, [] => by simp [bN, bV]
 | a :: as, b :: bs => by
  have ih := gu o as bs;have hm : min (a :: as).length (b :: bs).length = min as.length bs.length + 1 := by simp <;> omega
  rw [hm, List.range_succ_eq_map, bN, qE, bV];simp only [List.getD_cons_zero, List.getD_cons_succ, length_cons, Od.AB];rw [ih]
theorem lE : ∀ (ds es : List D), eo ds es = true -> ∀ j, j < ds.length -> j < es.length -> cI (ds.getD j .non) (es.getD j .non) = true
 | [], es, _, j, h, _ => by simp at h
 | a :: as, [], _, j, _, h => by simp at h
 | a :: as, b :: bs, hc, j, h1, h2 => by
  unfold eo at hc;rw [Bool.and_eq_true] at hc
  cases j with
  | zero => exact hc.1
  | succ j => exact lE as bs hc.2 j (by simpa using h1) (by simpa using h2)
section
variable {X : Cx} {pins : GR} {σ : St} {H : Hp} {s : Shared} {Z Z' : ax}
theorem BF (o : Od) {A : Around} (a b : Int) (t u : Tok) : fB o.op A s (.int a t) (.int b u) (o.int a b) := fun prog w E Q h => by
 cases o
 . exact PyProof.Rows.lt_int h
theorem Cq (o : Od) {A : Around} (a b : Str) (t u : Tok) : fB o.op A s (.str a t) (.str b u) (o.str a b) := fun prog w E Q h => by
 cases o
 . exact PyProof.Rows.lt_str h
theorem GF (o : Od) {A : Around} {l b : Addr} {its its2 : GP} {e r : Nat -> Bool} (hl : s.heap.IsList l its) (hb : s.heap.IsList b its2) (hu : A.units < cLine)
 (he : ∀ j (h1 : j < its.size) (h2 : j < its2.size), EqAt A.in1 s its[j] its2[j] (e j)) (ho : ∀ j (h1 : j < its.size) (h2 : j < its2.size), e j = false -> fB o.op A.in1 s its[j] its2[j] (r j)) :
 fB o.op A s (.ref l) (.ref b) (bN e r (o.sz its.size its2.size) (List.range (min its.size its2.size))) := by
 cases o
 . exact w8 hl hb hu he ho
theorem Gn (o : Od) {A : Around} {l b : Addr} {its its2 : GP} {e r : Nat -> Bool} (hl : s.heap.IsTuple l its) (hb : s.heap.IsTuple b its2) (hu : A.units < cLine)
 (he : ∀ j (h1 : j < its.size) (h2 : j < its2.size), EqAt A.in1 s its[j] its2[j] (e j)) (ho : ∀ j (h1 : j < its.size) (h2 : j < its2.size), e j = false -> fB o.op A.in1 s its[j] its2[j] (r j)) :
 fB o.op A s (.ref l) (.ref b) (bN e r (o.sz its.size its2.size) (List.range (min its.size its2.size))) := by
 cases o
 . exact A0 hl hb hu he ho
theorem oG (o : Od) (I : Inv X pins σ H s) : ∀ (n : Nat) {A : Around} {d d' : D} {v v' : V} {u u' : Value}, In X.K H Z d v -> In X.K H Z' d' v' -> RelV v u -> RelV v' u' -> cI d d' = true -> d.dep <= n -> A.units + n < cLine -> fB o.op A s u u' (br o d d') := by
 intro n
 induction n with
 | zero =>
  intro A d d' v v' u u' i i' r r' hc hd hu
  cases d with
  | non => cases d' <;> simp [cI] at hc
  | bl x => cases d' <;> simp [cI] at hc
  | dct x => cases d' <;> simp [cI] at hc
  | ktup x => cases d' <;> simp [cI] at hc
  | agg s x => cases d' <;> simp [cI] at hc
  | lst ds => unfold D.dep at hd; omega
  | tup ds => unfold D.dep at hd; omega
  | int x =>
   cases d' <;> simp [cI] at hc;cases av.mp i;cases av.mp i';obtain ⟨t, rfl⟩ := r;obtain ⟨t', rfl⟩ := r';simp only [br];exact BF o _ _ _ _
  | str x =>
   cases d' <;> simp [cI] at hc;cases in_str.mp i;cases in_str.mp i';obtain ⟨t, rfl⟩ := r;obtain ⟨t', rfl⟩ := r';simp only [br];exact Cq o _ _ _ _
 | succ n ih =>
  intro A d d' v v' u u' i i' r r' hc hd hu;have hu0 : A.units < cLine := by omega
  have hu1 : A.in1.units + n < cLine := by show A.units + 1 + n < cLine; omega
  have both : ∀ {ds es : List D} {xs ys : List V} {its its2 : GO}, b0 ds <= n -> eo ds es = true -> aC X.K H Z ds xs -> aC X.K H Z' es ys -> Vals xs its -> Vals ys its2 -> ∀ j (h1 : j < its.toArray.size) (h2 : j < its2.toArray.size),
   EqAt A.in1 s its.toArray[j] its2.toArray[j] (aP (ds.getD j .non) (es.getD j .non)) /\ fB o.op A.in1 s its.toArray[j] its2.toArray[j] (br o (ds.getD j .non) (es.getD j .non)) := fun {ds es xs ys its its2} hdn hcs jx jy rx ry j h1 h2 => by
   have z1 := jx.length; have z2 := jy.length; have z3 := rx.length; have z4 := ry.length;simp at h1 h2;have k1 : j < ds.length := by omega
   have k2 : j < es.length := by omega
   obtain ⟨x, ex, ix⟩ := jx.get (i := j) (d := ds[j]) (by simp [k1]);obtain ⟨y, ey, iy⟩ := jy.get (i := j) (d := es[j]) (by simp [k2]);obtain ⟨w1, f1, q1⟩ := rx.get ex;obtain ⟨w2, f2, q2⟩ := ry.get ey;have g1 : its.toArray[j] = w1 := by
    have t := (List.getElem?_eq_some_iff.mp f1).2;simpa using t
   have g2 : its2.toArray[j] = w2 := by
    have t := (List.getElem?_eq_some_iff.mp f2).2;simpa using t
   have hcj := lE ds es hcs j k1 k2;have e1 : ds.getD j .non = ds[j] := by simp [k1]
   have e2 : es.getD j .non = es[j] := by simp [k2]
   rw [e1, e2] at hcj ⊢;rw [g1, g2];have hdj := Nat.le_trans (eQ (getElem_mem k1)) hdn;exact ⟨kY I n ix iy q1 q2 hdj hu1, ih ix iy q1 q2 hcj hdj hu1⟩
  cases d with
  | non => cases d' <;> simp [cI] at hc
  | bl x => cases d' <;> simp [cI] at hc
  | dct x => cases d' <;> simp [cI] at hc
  | ktup x => cases d' <;> simp [cI] at hc
  | agg s x => cases d' <;> simp [cI] at hc
  | int x => exact ih i i' r r' hc (by simp [D.dep]) (by omega)
  | str x => exact ih i i' r r' hc (by simp [D.dep]) (by omega)
  | lst ds =>
   have hdn : b0 ds <= n := by unfold D.dep at hd; omega
   cases d' with
   | lst es =>
    have hcs : eo ds es = true := by simpa [cI] using hc
    obtain ⟨a, xs, rfl, l, j⟩ := ah.mp i;obtain ⟨a', ys, rfl, l', j'⟩ := ah.mp i';cases r;cases r';obtain ⟨its, rx, pl, _⟩ := I.list l.sq;obtain ⟨its2, ry, pl2, _⟩ := I.list l'.sq;have z1 := j.length; have z2 := j'.length; have z3 := rx.length; have z4 := ry.length;have key := GF o (e := fun k => aP (ds.getD k .non) (es.getD k .non)) (r := fun k => br o (ds.getD k .non) (es.getD k .non)) pl.isList pl2.isList hu0 (fun k h1 h2 => (both hdn hcs j j' rx ry k h1 h2).1) (fun k h1 h2 _ => (both hdn hcs j j' rx ry k h1 h2).2);have e1 : its.toArray.size = ds.length := by simp; omega
    have e2 : its2.toArray.size = es.length := by simp; omega
    rw [e1, e2, gu] at key;simpa only [br] using key
   | _ => simp [cI] at hc
  | tup ds =>
   have hdn : b0 ds <= n := by unfold D.dep at hd; omega
   cases d' with
   | tup es =>
    have hcs : eo ds es = true := by simpa [cI] using hc
    obtain ⟨a, xs, rfl, l, j⟩ := aK i;obtain ⟨a', ys, rfl, l', j'⟩ := aK i';cases r;cases r';obtain ⟨its, rx, pl, _⟩ := I.tuple l;obtain ⟨its2, ry, pl2, _⟩ := I.tuple l';have z1 := j.length; have z2 := j'.length; have z3 := rx.length; have z4 := ry.length;have key := Gn o (e := fun k => aP (ds.getD k .non) (es.getD k .non)) (r := fun k => br o (ds.getD k .non) (es.getD k .non)) pl pl2 hu0 (fun k h1 h2 => (both hdn hcs j j' rx ry k h1 h2).1) (fun k h1 h2 _ => (both hdn hcs j j' rx ry k h1 h2).2);have e1 : its.toArray.size = ds.length := by simp; omega
    have e2 : its2.toArray.size = es.length := by simp; omega
    rw [e1, e2, gu] at key;simpa only [br] using key
   | _ => simp [cI] at hc
end
end Y
namespace Y
open PySem PySem.Spec PyProof.Rows L2
structure SB (kd : SortKind) (a0 : Array Keyed) (st : SortSt) : Prop where
 pm : (arrOf st).Perm a0
 kd : kindOf st = kd
 ok : failedOf st = none
 pd : pendingOf st = #[]
section
variable {kd : SortKind} {a0 : Array Keyed} {κ : PyProof.Rows.KeyKind} {st : SortSt}
theorem SB.sz (h : SB kd a0 st) : (arrOf st).size = a0.size := h.pm.size_eq
theorem SB.arr (h : SB kd a0 st) {xs : Array Keyed} (p : xs.Perm (arrOf st)) : SB kd a0 (setArr st xs) := ⟨p.trans h.pm, h.kd, h.ok, h.pd⟩
abbrev ky (κ : PyProof.Rows.KeyKind) (st : SortSt) (i : Nat) : κ.α := KK κ (arrOf st) i
abbrev Up (κ : PyProof.Rows.KeyKind) (st : SortSt) (n : Nat) : Prop := SortedToK κ (arrOf st) n
abbrev Down (κ : PyProof.Rows.KeyKind) (st : SortSt) (n : Nat) : Prop := NonIncK κ (arrOf st) n
theorem zo {xs : Array Keyed} {n : Nat} (h : SortedToK κ xs n) (h1 : n = 0 \/ κ.kle (KK κ xs (n - 1)) (KK κ xs n)) : SortedToK κ xs (n + 1) := fun i j le lt => by
 rcases Nat.lt_or_ge j n with a | a
 . exact h i j le a
 . obtain rfl : j = n := by omega
   rcases Nat.lt_or_ge i j with b | b
   . rcases h1 with z | z
     . omega
     . exact KeyOrd.kle_trans (h i (j - 1) (by omega) (by omega)) z
   . obtain rfl : i = j := by omega
     exact KeyOrd.kle_refl _
theorem gx {xs : Array Keyed} {n : Nat} (h : NonIncK κ xs n) (h1 : n = 0 \/ κ.kle (KK κ xs n) (KK κ xs (n - 1))) : NonIncK κ xs (n + 1) := fun i j le lt => by
 rcases Nat.lt_or_ge j n with a | a
 . exact h i j le a
 . obtain rfl : j = n := by omega
   rcases Nat.lt_or_ge i j with b | b
   . rcases h1 with z | z
     . omega
     . exact KeyOrd.kle_trans z (h i (j - 1) (by omega) (by omega))
   . obtain rfl : i = j := by omega
     exact KeyOrd.kle_refl _
theorem Ct {xs : Array Keyed} : SortedToK κ xs 1 := fun i j le lt => by
 obtain rfl : i = j := by omega
 exact KeyOrd.kle_refl _
theorem fw {xs ys : Array Keyed} {n : Nat} (h : NonIncK κ xs n) (e : ∀ k, KK κ ys k = KK κ xs k) : NonIncK κ ys n := fun i j le lt => by
 rw [e, e]; exact h i j le lt
variable {prog : Program} {w : World} {A : Around} {E : GJ} {s : Shared}
def ox (κ : PyProof.Rows.KeyKind) (kd : SortKind) (a0 : Array Keyed) (prog : Program) (w : World) (A : Around) (E : GJ) (s : Shared) : Prop :=
 ∀ (st : SortSt) (i j : Nat) (Q : Option Bool -> SortSt -> Prop), SB kd a0 st -> i < a0.size -> j < a0.size -> Q (some (κ.blt (ky κ st i) (ky κ st j))) st -> wpS (model prog w) A E s (ltAt' i j) Q st
theorem ym (hA : ox κ kd a0 prog w A E s) {a n : Nat} {Q : AscSt -> SortSt -> Prop} (hn : n <= a0.size) (ha : 1 <= a) (han : a <= n) (hB : SB kd a0 st) (hs : Up κ st a)
 (fin : ∀ m, a <= m -> m <= n -> Up κ st m -> (m = n \/ κ.klt (ky κ st m) (ky κ st (m - 1))) -> Q (none, m) st) : wpS (model prog w) A E s (ascLoop a n) Q st := by
 unfold ascLoop;refine wpS_forRange (I := fun m c t => (t = st /\ c = (none, m)) /\ Up κ st m) (fun m c t g1 g2 ⟨⟨e1, e2⟩, up⟩ => ?_) (fun c t ⟨⟨e1, e2⟩, up⟩ => ?_) ⟨⟨rfl, rfl⟩, hs⟩
 . subst e1 e2;dsimp only;refine wpS_bind (hA t m (m - 1) _ hB (by omega) (by omega) ?_)
   cases q : κ.blt (ky κ t m) (ky κ t (m - 1)) with
   | true => dsimp only; rw [if_pos rfl]; exact wpS_pure (fin m g1 (by omega) up (.inr q))
   | false => dsimp only; rw [if_neg Bool.false_ne_true]; exact wpS_pure ⟨⟨rfl, rfl⟩, zo up (.inr q)⟩
 . subst e1 e2;have e : max a n = n := by omega
   rw [e] at up ⊢;exact fin n han (Nat.le_refl n) up (.inl rfl)
theorem qM (hA : ox κ kd a0 prog w A E s) {m n : Nat} {Q : Option Nat -> SortSt -> Prop} (hn : n <= a0.size) (h1 : 1 <= m) (hm : m <= n) (hB : SB kd a0 st) (hs : Down κ st m)
 (fin : ∀ k t, SB kd a0 t -> 1 <= k -> k <= n -> Up κ t k -> Q (some k) t) : wpS (model prog w) A E s (tail3 m n) Q st := by
 unfold tail3;have hz : m <= (arrOf st).size := by rw [hB.sz]; omega
 have hB2 := hB.arr (mirror_perm (arrOf st) 0 m ((m - 0) / 2));have up : Up κ (setArr st (mirror (arrOf st) 0 m ((m - 0) / 2))) m := fun i j le lt => by
  have e : ∀ k, k < m -> KK κ (mirror (arrOf st) 0 m ((m - 0) / 2)) k = KK κ (arrOf st) (0 + m - 1 - k) := fun k hk => by rw [KK_mirror hz, if_pos ⟨Nat.zero_le k, hk⟩]
  show κ.kle (KK κ (mirror (arrOf st) 0 m ((m - 0) / 2)) i) (KK κ (mirror (arrOf st) 0 m ((m - 0) / 2)) j);rw [e i (by omega), e j lt];exact hs _ _ (by omega) (by omega)
 exact wpS_bind (wpS_reverse (wpS_bind (ym hA hn h1 hm hB2 up fun k a b c _ => wpS_pure (fin k _ hB2 (by omega) b c))))
theorem yU (hA : ox κ kd a0 prog w A E s) {m n : Nat} {Q : DescSt -> SortSt -> Prop} (hn : n <= a0.size) (h1 : 1 <= m) (hm : m <= n) (hB : SB kd a0 st) (hs : Down κ st m)
 (fin : ∀ k q t, SB kd a0 t -> m <= k -> k <= n -> Down κ t k -> q + 1 <= k -> (∀ i, k - (q + 1) <= i -> i < k -> ky κ t i = ky κ t (k - 1)) -> Q (none, k, q) t) : wpS (model prog w) A E s (descLoop m n) Q st := by
 unfold descLoop;refine wpS_forRange (I := fun k c t => ∃ q, c = (none, k, q) /\ SB kd a0 t /\ Down κ t k /\ q + 1 <= k /\ ∀ i, k - (q + 1) <= i -> i < k -> ky κ t i = ky κ t (k - 1)) (fun k c t g1 g2 ⟨q, e, hb, dn, hq, same⟩ => ?_) (fun c t ⟨q, e, hb, dn, hq, same⟩ => ?_) ⟨0, rfl, hB, hs, by omega, fun i a b => by rw [show i = m - 1 by omega]⟩
 . subst e;dsimp only;have hz : k <= (arrOf t).size := by rw [hb.sz]; omega
   refine wpS_bind (hA t k (k - 1) _ hb (by omega) (by omega) ?_)
   cases lo : κ.blt (ky κ t k) (ky κ t (k - 1)) with
   | true =>
    dsimp only;rw [if_pos rfl];have dn2 : Down κ t (k + 1) := gx dn (.inr (KeyOrd.kle_of_klt lo));by_cases q0 : q > 0
    . rw [if_pos q0];exact wpS_bind (wpS_reverse (wpS_pure ⟨0, rfl, hb.arr (mirror_perm _ _ _ _), fw dn2 (KK_mirror_equal hz same), by omega, fun i a b => by rw [show i = k + 1 - 1 by omega]⟩))
    . rw [if_neg q0];exact wpS_pure ⟨0, rfl, hb, dn2, by omega, fun i a b => by rw [show i = k + 1 - 1 by omega]⟩
   | false =>
    dsimp only;rw [if_neg Bool.false_ne_true];refine wpS_bind (hA t (k - 1) k _ hb (by omega) (by omega) ?_)
    cases hi : κ.blt (ky κ t (k - 1)) (ky κ t k) with
    | true => dsimp only; rw [if_pos rfl]; exact wpS_pure (fin k q t hb g1 (by omega) dn hq same)
    | false =>
     dsimp only;rw [if_neg Bool.false_ne_true];have eq : ky κ t k = ky κ t (k - 1) := KeyOrd.kle_antisymm hi lo;refine wpS_pure ⟨q + 1, rfl, hb, gx dn (.inr (by show κ.kle (ky κ t k) (ky κ t (k - 1)); rw [eq]; exact KeyOrd.kle_refl _)), by omega, fun i a b => ?_⟩;have ek : k + 1 - 1 = k := by omega
     rw [ek];rcases Nat.lt_or_ge i k with z | z
     . rw [same i (by omega) z, eq]
     . rw [show i = k by omega]
 . subst e;have e : max m n = n := by omega
   rw [e] at dn hq same ⊢;exact fin n q t hb hm (Nat.le_refl n) dn hq same
theorem qU (hA : ox κ kd a0 prog w A E s) {m n : Nat} {Q : Option Nat -> SortSt -> Prop} (hn : n <= a0.size) (hm : m + 1 <= n) (hB : SB kd a0 st) (hs : Down κ st (m + 1))
 (fin : ∀ k t, SB kd a0 t -> 1 <= k -> k <= n -> Up κ t k -> Q (some k) t) : wpS (model prog w) A E s (descPart m n) Q st := by
 unfold descPart;refine wpS_bind (wpS_lift (wpAny_rule ⟨rfl, wpS_bind (yU hA hn (by omega) hm hB hs fun k q t hb a b dn hq same => ?_)⟩));dsimp only;have hz : k <= (arrOf t).size := by rw [hb.sz]; omega
 by_cases q0 : q > 0
 . rw [if_pos q0];exact wpS_bind (wpS_reverse (qM hA hn (by omega) b (hb.arr (mirror_perm _ _ _ _)) (fw dn (KK_mirror_equal hz same)) fin))
 . rw [if_neg q0];exact qM hA hn (by omega) b hb dn fin
theorem wb (hA : ox κ kd a0 prog w A E s) {n : Nat} {Q : Option Nat -> SortSt -> Prop} (hn : n <= a0.size) (h1 : 1 <= n) (hB : SB kd a0 st)
 (fin : ∀ k t, SB kd a0 t -> 1 <= k -> k <= n -> Up κ t k -> Q (some k) t) : wpS (model prog w) A E s (countRun' 0 n) Q st := by
 rw [countRun0_eq];refine wpS_bind (ym hA hn (Nat.le_refl 1) h1 hB Ct fun m a b up why => ?_);dsimp only;by_cases all : m = n
 . rw [if_pos (by simpa using all)];exact wpS_pure (fin m st hB a b up)
 . rw [if_neg (by simpa using all)];have lo : κ.klt (ky κ st m) (ky κ st (m - 1)) := why.resolve_left all;by_cases m1 : m > 1
   . rw [if_pos m1];refine wpS_bind (hA st 0 (m - 1) _ hB (by omega) (by omega) ?_)
     cases rose : κ.blt (ky κ st 0) (ky κ st (m - 1)) with
     | true => dsimp only; rw [if_pos rfl]; exact wpS_pure (fin m st hB a b up)
     | false =>
      dsimp only;rw [if_neg Bool.false_ne_true];have hz : m <= (arrOf st).size := by rw [hB.sz]; omega
      have same : ∀ i, 0 <= i -> i < m -> KK κ (arrOf st) i = KK κ (arrOf st) (m - 1) := fun i _ im => KeyOrd.kle_antisymm (up i (m - 1) (by omega) (by omega)) (KeyOrd.kle_trans rose (up 0 i (by omega) im));have dn : Down κ st m := fun i j le lt => by rw [same i (by omega) (by omega), same j (by omega) lt]; exact KeyOrd.kle_refl _
      exact wpS_bind (wpS_reverse (qU hA hn (by omega) (hB.arr (mirror_perm _ _ _ _)) (fw (gx dn (.inr (KeyOrd.kle_of_klt lo))) (KK_mirror_equal hz same)) fin))
   . rw [if_neg m1];obtain rfl : m = 1 := by omega
     exact qU hA hn (by omega) hB (gx (fun i j le lt => by rw [show i = j by omega]; exact KeyOrd.kle_refl _) (.inr (KeyOrd.kle_of_klt lo))) fin
theorem zN {xs : Array Keyed} {k l : Nat} (hk : k < xs.size) (hl : l <= k) (up : SortedToK κ xs k) (below : ∀ i, i < l -> κ.kle (KK κ xs i) (KK κ xs k)) (above : ∀ i, l <= i -> i < k -> κ.klt (KK κ xs k) (KK κ xs i)) : SortedToK κ (bubble xs k (k - l)) (k + 1) := by
 have e : ∀ i, KK κ (bubble xs k (k - l)) i = if i = l then KK κ xs k else if l < i /\ i <= k then KK κ xs (i - 1) else KK κ xs i := fun i => by
  rw [KK_bubble hk (by omega), show k - (k - l) = l by omega]
 intro i j le lt;rw [e, e];by_cases ji : j = l
 . rw [if_pos ji];by_cases ii : i = l
   . rw [if_pos ii]; exact KeyOrd.kle_refl _
   . rw [if_neg ii, if_neg (by omega)]; exact below i (by omega)
 . rw [if_neg ji];by_cases jl : l < j /\ j <= k
   . rw [if_pos jl];by_cases ii : i = l
     . rw [if_pos ii]; exact KeyOrd.kle_of_klt (above (j - 1) (by omega) (by omega))
     . rw [if_neg ii];by_cases il : l < i /\ i <= k
       . rw [if_pos il]; exact up _ _ (by omega) (by omega)
       . rw [if_neg il]; exact up _ _ (by omega) (by omega)
   . rw [if_neg jl, if_neg (by omega), if_neg (by omega)]; exact up _ _ le (by omega)
theorem zh (hA : ox κ kd a0 prog w A E s) {n ok : Nat} {Q : Bool -> SortSt -> Prop} (hn : n <= a0.size) (hok : ok <= n) (hB : SB kd a0 st) (up0 : Up κ st ok) (fin : ∀ t, SB kd a0 t -> Up κ t n -> Q true t) : wpS (model prog w) A E s (binarySort' 0 n ok) Q st := by
 rw [binarySort'_eq];simp only [Nat.zero_add];have seek : ∀ (t : SortSt) (k : Nat), SB kd a0 t -> k < a0.size -> Up κ t k -> ∀ (R : Option Bool × Nat × Nat -> SortSt -> Prop), (∀ l r, l <= k -> (∀ i, i < l -> κ.kle (ky κ t i) (ky κ t k)) -> (∀ i, l <= i -> i < k -> κ.klt (ky κ t k) (ky κ t i)) -> R (none, l, r) t) ->
  wpS (model prog w) A E s (forIn [0:k] ((none, 0, k) : Option Bool × Nat × Nat) fun _ c => if c.2.1 ≥ c.2.2 then pure (ForInStep.done (none, c.2.1, c.2.2)) else do
   let x <- ltAt' k ((c.2.1 + c.2.2) / 2)
   match x with
   | some less => if less = true then pure (ForInStep.yield (none, c.2.1, (c.2.1 + c.2.2) / 2)) else pure (ForInStep.yield (none, (c.2.1 + c.2.2) / 2 + 1, c.2.2))
   | _ => pure (ForInStep.done (some false, c.2.1, c.2.2))) R t := by
  intro t k hb hk up R put;refine wpS_forRange (I := fun x c t' => t' = t /\ ∃ l r, c = (none, l, r) /\ (l <= r /\ r <= k /\ r - l <= k - x) /\ (∀ i, i < l -> κ.kle (ky κ t i) (ky κ t k)) /\ ∀ i, r <= i -> i < k -> κ.klt (ky κ t k) (ky κ t i)) ?turn ?over ⟨rfl, 0, k, rfl, ⟨by omega, by omega, by omega⟩, fun i z => by omega, fun i z1 z2 => by omega⟩
  case turn =>
   rintro x c t' q1 q2 ⟨e1, l, r, e2, ⟨b1, b2, b3⟩, below, above⟩;subst e1 e2;dsimp only;by_cases over : l ≥ r
   . rw [if_pos over];obtain rfl : l = r := by omega
     exact wpS_pure (put l l b2 below above)
   . rw [if_neg over];refine wpS_bind (hA t' k ((l + r) / 2) _ hb hk (by omega) ?_)
     cases less : κ.blt (ky κ t' k) (ky κ t' ((l + r) / 2)) with
     | true =>
      dsimp only;rw [if_pos rfl];exact wpS_pure ⟨rfl, l, (l + r) / 2, rfl, ⟨by omega, by omega, by omega⟩, below, fun i z1 z2 => KeyOrd.klt_of_klt_of_kle less (up _ _ z1 z2)⟩
     | false =>
      dsimp only;rw [if_neg Bool.false_ne_true];exact wpS_pure ⟨rfl, (l + r) / 2 + 1, r, rfl, ⟨by omega, by omega, by omega⟩, fun i z => KeyOrd.kle_trans (up i ((l + r) / 2) (by omega) (by omega)) less, above⟩
  case over =>
   rintro c t' ⟨e1, l, r, e2, ⟨b1, b2, b3⟩, below, above⟩;subst e1 e2;obtain rfl : l = r := by omega
   exact put l l b2 below above
 refine wpS_bind (wpS_mono (wpS_forRange (I := fun k c t => c = (none, ()) /\ SB kd a0 t /\ Up κ t (min k n)) (Q := fun c t => c = (none, ()) /\ SB kd a0 t /\ Up κ t n) ?turn ?over ?start) ?last)
 case last =>
  rintro c t ⟨e, hb, up⟩;subst e;exact wpS_pure (fin t hb up)
 case start =>
  refine ⟨rfl, hB, fun i j le lt => ?_⟩;rcases Nat.eq_zero_or_pos ok with z | z
  . rw [show i = j by omega]; exact KeyOrd.kle_refl _
  . exact up0 i j le (by omega)
 case over =>
  rintro c t ⟨e, hb, up⟩;rw [show min (max (max ok 1) n) n = n by omega] at up;exact ⟨e, hb, up⟩
 case turn =>
  rintro k c t g1 g2 ⟨e, hb, up⟩;subst e;rw [show min k n = k by omega] at up;refine wpS_bind (seek t k hb (by omega) up _ fun l r lk below above => ?_);show wpS _ _ _ _ (do moveDown' k l; pure (ForInStep.yield (none, ()))) _ _;rw [moveDown'_eq];refine wpS_bind (wpS_modify (wpS_pure ⟨rfl, hb.arr (bubble_perm _ _ _), ?_⟩));rw [show min (k + 1) n = k + 1 by omega];exact zN (by rw [hb.sz]; omega) lk up below above
theorem rz (hA : ox κ kd a0 prog w A E s) {Q : Unit -> SortSt -> Prop} (h2 : 2 <= a0.size) (h64 : a0.size < 64) (hB : SB kd a0 st)
 (fin : ∀ t, (arrOf t).Perm a0 -> failedOf t = none -> Up κ t a0.size -> Q () t) : wpS (model prog w) A E s sortRuns' Q st := by
 rw [sortRuns'_eq];refine wpS_bind (wpS_get ?_);dsimp only;have hmr : minRun' a0.size a0.size 0 = a0.size := by
  match hq : a0.size, h2 with
  | f + 1, _ => rw [minRun'_succ, if_pos (by omega)]
 simp only [hB.sz, hmr];refine wpS_bind (wpS_mono (wpS_forRange (I := fun x c t => (x = 0 /\ c = (none, 0) /\ SB kd a0 t) \/ (0 < x /\ c = (none, a0.size) /\ (arrOf t).Perm a0 /\ failedOf t = none /\ pendingOf t = #[(0, a0.size, 0)] /\ Up κ t a0.size))
  (Q := fun c t => c = (none, a0.size) /\ (arrOf t).Perm a0 /\ failedOf t = none /\ pendingOf t = #[(0, a0.size, 0)] /\ Up κ t a0.size) ?turn ?over (.inl ⟨rfl, rfl, hB⟩)) ?last)
 case turn =>
  rintro x c t g1 g2 (⟨rfl, rfl, hb⟩ | ⟨x0, rfl, rest⟩)
  . dsimp only;rw [if_neg (by omega)];simp only [Nat.sub_zero, Nat.min_self, Nat.zero_add];have push : ∀ t' : SortSt, SB kd a0 t' -> Up κ t' a0.size -> (arrOf (setPending t' ((pendingOf t').push (0, a0.size, 0)))).Perm a0 /\ failedOf (setPending t' ((pendingOf t').push (0, a0.size, 0))) = none /\ pendingOf (setPending t' ((pendingOf t').push (0, a0.size, 0))) = #[(0, a0.size, 0)] /\ Up κ (setPending t' ((pendingOf t').push (0, a0.size, 0))) a0.size := fun t' b u =>
     ⟨b.pm, b.ok, by show (pendingOf t').push _ = _; rw [b.pd]; rfl, u⟩
    refine wpS_bind (wb hA (Nat.le_refl _) (by omega) hb fun m t2 hb2 m1 m2 rG => ?_);dsimp only;by_cases few : m < a0.size
    . rw [if_pos few];refine wpS_bind (wpS_lift (wpAny_rule ⟨rfl, wpS_bind (zh hA (Nat.le_refl _) m2 hb2 rG fun t3 hb3 up3 => ?_)⟩));simp only [Bool.not_true, Bool.false_eq_true, if_false];refine wpS_bind (wpS_get ?_);rw [show (pendingOf t3).back? = none by rw [hb3.pd]; rfl];dsimp only;exact wpS_bind (wpS_modify (wpS_pure (.inr ⟨by omega, rfl, push t3 hb3 up3⟩)))
    . rw [if_neg few];obtain rfl : m = a0.size := by omega
      refine wpS_bind (wpS_get ?_);rw [show (pendingOf t2).back? = none by rw [hb2.pd]; rfl];dsimp only;exact wpS_bind (wpS_modify (wpS_pure (.inr ⟨by omega, rfl, push t2 hb2 rG⟩)))
  . dsimp only;rw [if_pos (Nat.le_refl _)];exact wpS_pure ⟨rfl, rest⟩
 case over =>
  rintro c t (⟨z, _⟩ | ⟨_, z⟩)
  . omega
  . exact z
 case last =>
  rintro c t ⟨e, p1, p2, p3, p4⟩;subst e;dsimp only;refine wpS_bind (wpS_mono (wpS_forRange (I := fun _ c t' => t' = t /\ c = (none, ())) (Q := fun c t' => t' = t /\ c = (none, ())) ?one (fun _ _ q => q) ⟨rfl, rfl⟩) ?two)
  case one =>
   rintro x c t' _ _ ⟨e1, e2⟩;subst e1 e2;refine wpS_bind (wpS_get ?_);rw [if_pos (by rw [p3]; exact Nat.le_refl 1)];exact wpS_pure ⟨rfl, rfl⟩
  case two =>
   rintro c t' ⟨e1, e2⟩;subst e1 e2;exact wpS_pure (fin _ p1 p2 p4)
end
end Y
namespace Y
open PySem PySem.Spec PyProof.Rows L2 PySem.SeqAt
variable [bT]
structure gs (P : D -> Prop) : Prop where
 ir : ∀ a, P a -> br .lt a a = false
 tr : ∀ a b c, P a -> P b -> P c -> br .lt a b = true -> br .lt b c = true -> br .lt a c = true
 tt : ∀ a b, P a -> P b -> br .lt a b = false -> br .lt b a = false -> a = b
 cm : ∀ a b, P a -> P b -> cI a b = true
 eq : ∀ a b, P a -> P b -> aP a b = true -> a = b
def tG : (Nat -> D -> Prop) -> List D -> Prop
 | _, [] => True
 | P, d :: ds => P 0 d /\ tG (fun i => P (i + 1)) ds
theorem rF {P : D -> Prop} : ∀ {ds : List D}, (∀ d ∈ ds, P d) -> tG (fun _ => P) ds
 | [], _ => trivial
 | d :: ds, h => ⟨h d (by simp), rF fun x hx => h x (by simp [hx])⟩
theorem oN : ∀ {P : Nat -> D -> Prop}, (∀ i, gs (P i)) -> ∀ ds, tG P ds -> bV .lt ds ds = false
 | P, L, [], _ => by simp [bV, Od.sz]
 | P, L, d :: ds, h => by
  unfold bV;rw [bw, if_pos rfl];exact oN (fun i => L (i + 1)) ds h.2
theorem oZ : ∀ {P : Nat -> D -> Prop}, (∀ i, gs (P i)) -> ∀ ds es, tG P ds -> tG P es -> cX ds es = true -> ds = es
 | P, L, [], [], _, _, _ => rfl
 | P, L, [], e :: es, _, _, h => by simp [cX] at h
 | P, L, d :: ds, [], _, _, h => by simp [cX] at h
 | P, L, d :: ds, e :: es, h1, h2, h => by
  rw [cX, Bool.and_eq_true] at h;rw [(L 0).eq d e h1.1 h2.1 h.1, oZ (fun i => L (i + 1)) ds es h1.2 h2.2 h.2]
theorem oI : ∀ {P : Nat -> D -> Prop}, (∀ i, gs (P i)) -> ∀ ds es, tG P ds -> tG P es -> eo ds es = true
 | P, L, [], es, _, _ => by simp [eo]
 | P, L, d :: ds, [], _, _ => by simp [eo]
 | P, L, d :: ds, e :: es, h1, h2 => by
  rw [eo, (L 0).cm d e h1.1 h2.1, oI (fun i => L (i + 1)) ds es h1.2 h2.2]; rfl
theorem nY : ∀ {P : Nat -> D -> Prop}, (∀ i, gs (P i)) -> ∀ ds es, tG P ds -> tG P es -> bV .lt ds es = false -> bV .lt es ds = false -> ds = es
 | P, L, [], [], _, _, _, _ => rfl
 | P, L, [], e :: es, _, _, h, _ => by simp [bV, Od.sz] at h
 | P, L, d :: ds, [], _, _, _, h => by simp [bV, Od.sz] at h
 | P, L, d :: ds, e :: es, h1, h2, ha, hb => by
  unfold bV at ha hb
  cases q : aP d e with
  | true =>
   obtain rfl := (L 0).eq d e h1.1 h2.1 q;rw [bw, if_pos rfl] at ha hb;rw [nY (fun i => L (i + 1)) ds es h1.2 h2.2 ha hb]
  | false =>
   have q2 : aP e d = false := by
    cases z : aP e d with
    | false => rfl
    | true => obtain rfl := (L 0).eq e d h2.1 h1.1 z; rw [bw] at q; cases q
   rw [q] at ha; rw [q2] at hb;rw [if_neg Bool.false_ne_true] at ha hb;obtain rfl := (L 0).tt d e h1.1 h2.1 ha hb;rw [bw] at q; cases q
theorem pR : ∀ {P : Nat -> D -> Prop}, (∀ i, gs (P i)) -> ∀ ds es fs, tG P ds -> tG P es -> tG P fs -> bV .lt ds es = true -> bV .lt es fs = true -> bV .lt ds fs = true
 | P, L, ds, [], fs, _, _, _, h, _ => by cases ds <;> simp [bV, Od.sz] at h
 | P, L, ds, e :: es, [], _, _, _, _, h => by simp [bV, Od.sz] at h
 | P, L, [], e :: es, f :: fs, _, _, _, _, _ => by simp [bV, Od.sz]
 | P, L, d :: ds, e :: es, f :: fs, h1, h2, h3, ha, hb => by
  unfold bV at ha hb ⊢;have no : ∀ {x y : D}, P 0 x -> P 0 y -> br .lt x y = true -> aP x y = false := fun {x y} px py lt => by
   cases z : aP x y with
   | false => rfl
   | true => obtain rfl := (L 0).eq x y px py z; rw [(L 0).ir x px] at lt; cases lt
  cases q : aP d e with
  | true =>
   obtain rfl := (L 0).eq d e h1.1 h2.1 q;rw [q, if_pos rfl] at ha
   cases q2 : aP d f with
   | true =>
    rw [q2, if_pos rfl] at hb;rw [if_pos rfl];exact pR (fun i => L (i + 1)) ds es fs h1.2 h2.2 h3.2 ha hb
   | false => rw [q2] at hb; exact hb
  | false =>
   rw [q, if_neg Bool.false_ne_true] at ha
   cases q2 : aP e f with
   | true =>
    obtain rfl := (L 0).eq e f h2.1 h3.1 q2;rw [q, if_neg Bool.false_ne_true];exact ha
   | false =>
    rw [q2, if_neg Bool.false_ne_true] at hb;have lt := (L 0).tr d e f h1.1 h2.1 h3.1 ha hb;rw [no h1.1 h3.1 lt, if_neg Bool.false_ne_true];exact lt
def isInt (d : D) : Prop := ∃ i, d = .int i
def isStr (d : D) : Prop := ∃ x, d = .str x
def DU (P : D -> Prop) (d : D) : Prop := ∃ ds, d = .lst ds /\ tG (fun _ => P) ds
def isTup (P : Nat -> D -> Prop) (d : D) : Prop := ∃ ds, d = .tup ds /\ tG P ds
def Fu (A B : D -> Prop) : Nat -> D -> Prop
 | 0 => A
 | _ + 1 => B
theorem ku : gs isInt where
 ir := by rintro _ ⟨i, rfl⟩; simp [br, Od.int]
 tr := by rintro _ _ _ ⟨i, rfl⟩ ⟨j, rfl⟩ ⟨k, rfl⟩ a b; simp [br, Od.int] at *; omega
 tt := by rintro _ _ ⟨i, rfl⟩ ⟨j, rfl⟩ a b; simp [br, Od.int] at *; omega
 cm := by rintro _ _ ⟨i, rfl⟩ ⟨j, rfl⟩; rfl
 eq := by rintro _ _ ⟨i, rfl⟩ ⟨j, rfl⟩ a; simpa [aP] using a
theorem cL : gs isStr where
 ir := by
  rintro _ ⟨i, rfl⟩;have h : ¬ cl i < cl i := List.lt_irrefl _;simp [br, Od.str, h]
 tr := by
  rintro _ _ _ ⟨i, rfl⟩ ⟨j, rfl⟩ ⟨k, rfl⟩ a b;simp only [br, Od.str, decide_eq_true_eq] at *;exact List.lt_trans a b
 tt := by
  rintro _ _ ⟨i, rfl⟩ ⟨j, rfl⟩ a b;simp only [br, Od.str, decide_eq_false_iff_not] at *;rw [sS (List.le_antisymm (List.not_lt.mp b) (List.not_lt.mp a))]
 cm := by rintro _ _ ⟨i, rfl⟩ ⟨j, rfl⟩; rfl
 eq := by rintro _ _ ⟨i, rfl⟩ ⟨j, rfl⟩ a; simpa [aP] using a
theorem uw {P : D -> Prop} (L : gs P) : gs (DU P) where
 ir := by rintro _ ⟨i, rfl, h⟩; simp only [br]; exact oN (fun _ => L) _ h
 tr := by rintro _ _ _ ⟨i, rfl, h1⟩ ⟨j, rfl, h2⟩ ⟨k, rfl, h3⟩ a b; simp only [br] at *; exact pR (fun _ => L) _ _ _ h1 h2 h3 a b
 tt := by rintro _ _ ⟨i, rfl, h1⟩ ⟨j, rfl, h2⟩ a b; simp only [br] at *; rw [nY (fun _ => L) _ _ h1 h2 a b]
 cm := by rintro _ _ ⟨i, rfl, h1⟩ ⟨j, rfl, h2⟩; simp only [cI]; exact oI (fun _ => L) _ _ h1 h2
 eq := by rintro _ _ ⟨i, rfl, h1⟩ ⟨j, rfl, h2⟩ a; simp only [aP] at a; rw [oZ (fun _ => L) _ _ h1 h2 a]
theorem gz {P : Nat -> D -> Prop} (L : ∀ i, gs (P i)) : gs (isTup P) where
 ir := by rintro _ ⟨i, rfl, h⟩; simp only [br]; exact oN L _ h
 tr := by rintro _ _ _ ⟨i, rfl, h1⟩ ⟨j, rfl, h2⟩ ⟨k, rfl, h3⟩ a b; simp only [br] at *; exact pR L _ _ _ h1 h2 h3 a b
 tt := by rintro _ _ ⟨i, rfl, h1⟩ ⟨j, rfl, h2⟩ a b; simp only [br] at *; rw [nY L _ _ h1 h2 a b]
 cm := by rintro _ _ ⟨i, rfl, h1⟩ ⟨j, rfl, h2⟩; simp only [cI]; exact oI L _ _ h1 h2
 eq := by rintro _ _ ⟨i, rfl, h1⟩ ⟨j, rfl, h2⟩ a; simp only [aP] at a; rw [oZ L _ _ h1 h2 a]
theorem kr {A B : D -> Prop} (a : gs A) (b : gs B) : ∀ i, gs (Fu A B i)
 | 0 => a
 | _ + 1 => b
section
variable {X : Cx} {pins : GR} {σ : St} {H : Hp} {s : Shared} {Z Z' : ax}
theorem Cm (I : Inv X pins σ H s) : ∀ (n : Nat) {d d' : D} {v : V}, d.dep <= n -> In X.K H Z d v -> In X.K H Z' d' v -> d = d' := fun _ _ _ _ _ i i' => In.inj I i i'
def Tells (K : Frag) (H : Hp) (Z : ax) (u : Value) (d : D) : Prop := ∃ v, RelV v u /\ In K H Z d v
theorem Tells.one (I : Inv X pins σ H s) {u : Value} {d d' : D} (a : Tells X.K H Z u d) (b : Tells X.K H Z' u d') : d = d' := by
 obtain ⟨v, r, i⟩ := a;obtain ⟨v', r', i'⟩ := b;cases r.inj r';exact Cm I d.dep (Nat.le_refl _) i i'
end
def Ab (b : Bool) (A : Around) (s : Shared) (x y : Value) (r : Bool) : Prop :=
 ∀ (prog : Program) (w : World) (E : GJ) (Q : Bool -> Shared -> Prop), Q r s -> wpAny (model prog w) A (oneLt' b x y) Q E s
def zx (kd : SortKind) (A : Around) (s : Shared) (x y : Value) (r : Bool) : Prop :=
 ∀ (prog : Program) (w : World) (E : GJ) (Q : Bool -> Shared -> Prop), Q r s -> wpAny (model prog w) A (keyLt' kd x y) Q E s
section
variable {X : Cx} {pins : GR} {σ : St} {H : Hp} {s : Shared} {Z Z' : ax} {A : Around}
theorem pe {x y : Value} {r : Bool} (h : fB .Lt A s x y r) : Ab false A s x y r := fun prog w E Q q => by
 rw [oneLt'_eq];simp only [Bool.false_eq_true, if_false];exact wpAny_bind (h prog w E _ (wpAny_truthy_bool q))
theorem vH {l b : Addr} {its its2 : GP} {e r : Nat -> Bool} (hl : s.heap.IsList l its) (hb : s.heap.IsList b its2) (hu : A.units < cLine)
 (he : ∀ j (h1 : j < its.size) (h2 : j < its2.size), EqAt A.in1 s its[j] its2[j] (e j)) (ho : ∀ j (h1 : j < its.size) (h2 : j < its2.size), e j = false -> fB .Lt A.in1 s its[j] its2[j] (r j)) :
 Ab true A s (.ref l) (.ref b) (bN e r (decide (its.size < its2.size)) (List.range (min its.size its2.size))) := fun prog w E Q h => by
 obtain ⟨⟨cls, dd, data, sl⟩, g1, hc, n, hd⟩ := id hl;obtain ⟨⟨cls2, dd2, data2, sl2⟩, g2, hc2, n2, hd2⟩ := id hb;simp only at hc hd hc2 hd2;subst hc hd hc2 hd2;rw [oneLt'_eq];simp only [if_true];refine wpAny_bind (wpAny_cRoomFor hu ?_);refine wpAny_bind (wpAny_callSpecialIfBound?_slot (T := "list") ⟨_, g1, rfl⟩ F.slot_list_lt (call_meets F.slot_list_lt ⟨_, g1, rfl⟩ F.entry_list_lt (F.args_list_lt_2 _ _) (ye l b its its2 n n2 dd dd2 sl sl2 e r) ⟨g1, g2, he, ho, ?_⟩));exact wpAny_truthy_bool h
def dz : D -> Bool
 | .int _ => true
 | .str _ => true
 | .lst _ => true
 | _ => false
theorem xk (b : Bool) (I : Inv X pins σ H s) {d d' : D} {u u' : Value} (t : Tells X.K H Z u d) (t' : Tells X.K H Z' u' d') (hc : cI d d' = true) (hp : dz d = true) (hu : A.units + d.dep < cLine) : Ab b A s u u' (br .lt d d') := by
 obtain ⟨v, r, i⟩ := t;obtain ⟨v', r', i'⟩ := t'
 cases b with
 | false => exact pe (oG .lt I d.dep i i' r r' hc (Nat.le_refl _) hu)
 | true =>
  cases d with
  | int x =>
   cases d' <;> simp [cI] at hc;cases av.mp i;cases av.mp i';obtain ⟨t, rfl⟩ := r;obtain ⟨t', rfl⟩ := r';simp only [br];exact fun prog w E Q q => oneLt_int q
  | str x =>
   cases d' <;> simp [cI] at hc;cases in_str.mp i;cases in_str.mp i';obtain ⟨t, rfl⟩ := r;obtain ⟨t', rfl⟩ := r';simp only [br];exact fun prog w E Q q => oneLt_str q
  | lst ds =>
   cases d' with
   | lst es =>
    have hcs : eo ds es = true := by simpa [cI] using hc
    have hu' : A.units + (b0 ds + 1) < cLine := by unfold D.dep at hu; exact hu
    have hu1 : A.in1.units + b0 ds < cLine := by show A.units + 1 + b0 ds < cLine; omega
    obtain ⟨a, xs, rfl, l, j⟩ := ah.mp i;obtain ⟨a', ys, rfl, l', j'⟩ := ah.mp i';cases r;cases r';obtain ⟨its, rx, pl, _⟩ := I.list l.sq;obtain ⟨its2, ry, pl2, _⟩ := I.list l'.sq;have z1 := j.length; have z2 := j'.length; have z3 := rx.length; have z4 := ry.length;have both : ∀ k (h1 : k < its.toArray.size) (h2 : k < its2.toArray.size), EqAt A.in1 s its.toArray[k] its2.toArray[k] (aP (ds.getD k .non) (es.getD k .non)) /\ fB .Lt A.in1 s its.toArray[k] its2.toArray[k] (br .lt (ds.getD k .non) (es.getD k .non)) := fun k h1 h2 => by
     simp at h1 h2;have k1 : k < ds.length := by omega
     have k2 : k < es.length := by omega
     obtain ⟨x, ex, ix⟩ := j.get (i := k) (d := ds[k]) (by simp [k1]);obtain ⟨y, ey, iy⟩ := j'.get (i := k) (d := es[k]) (by simp [k2]);obtain ⟨w1, f1, q1⟩ := rx.get ex;obtain ⟨w2, f2, q2⟩ := ry.get ey;have g1 : its.toArray[k] = w1 := by
      have t := (List.getElem?_eq_some_iff.mp f1).2;simpa using t
     have g2 : its2.toArray[k] = w2 := by
      have t := (List.getElem?_eq_some_iff.mp f2).2;simpa using t
     have hck := lE ds es hcs k k1 k2;have e1 : ds.getD k .non = ds[k] := by simp [k1]
     have e2 : es.getD k .non = es[k] := by simp [k2]
     rw [e1, e2] at hck ⊢;rw [g1, g2];have hdk := eQ (getElem_mem k1);exact ⟨kY I _ ix iy q1 q2 hdk hu1, oG .lt I _ ix iy q1 q2 hck hdk hu1⟩
    have key := vH (A := A) (e := fun k => aP (ds.getD k .non) (es.getD k .non)) (r := fun k => br .lt (ds.getD k .non) (es.getD k .non)) pl.isList pl2.isList (by omega) (fun k h1 h2 => (both k h1 h2).1) (fun k h1 h2 _ => (both k h1 h2).2);have e1 : its.toArray.size = ds.length := by simp; omega
    have e2 : its2.toArray.size = es.length := by simp; omega
    rw [e1, e2] at key;have key2 := gu .lt ds es;simp only [Od.sz] at key2;rw [key2] at key;simpa only [br] using key
   | _ => simp [cI] at hc
  | _ => simp [dz] at hp
inductive vb (A : Around) (s : Shared) (b : Bool) : Nat -> List Value -> List Value -> List D -> List D -> Prop
 | nil {n : Nat} {us ws : GO} {ds es : List D} (h : us.zip ws = []) (g : us.length = ds.length) (g2 : ws.length = es.length) : vb A s b n us ws ds es
 | cons {n : Nat} {u w : Value} {us ws : GO} {d e : D} {ds es : List D} (h : EqAt A s u w (aP d e)) (o : aP d e = false -> Ab (b && n == 0) A s u w (br .lt d e)) (t : vb A s b (n + 1) us ws ds es) : vb A s b n (u :: us) (w :: ws) (d :: ds) (e :: es)
theorem vq {b : Bool} {x y : Addr} {us ws : GO} {ds es : List D} (hx : s.heap.IsTuple x us.toArray) (hy : s.heap.IsTuple y ws.toArray) (c : vb A s b 0 us ws ds es) (l1 : us.length = ds.length) (l2 : ws.length = es.length) : zx (tuples' b) A s (.ref x) (.ref y) (bV .lt ds es) := by
 intro prog w E Q q;obtain ⟨o, h1, h2, n1, h3⟩ := hx;obtain ⟨o', h1', h2', n1', h3'⟩ := hy;show wpAny _ _ (do
  let xs <- Builtin.List.listItems (.ref x); let ys <- Builtin.List.listItems (.ref y)
  for ((p, q), i) in (xs.toList.zip ys.toList).zipIdx do
   if !(<- eqBool p q) then return <- oneLt' (b && i == 0) p q
  return decide (xs.size < ys.size)) _ _ _
 refine wpAny_bind (listItems_at h1 h3 ?_);refine wpAny_bind (listItems_at h1' h3' ?_);have walk : ∀ {n : Nat} {us' ws' : GO} {ds' es' : List D}, vb A s b n us' ws' ds' es' -> ∀ (R : Option Bool × PUnit -> Shared -> Prop),
  (∀ r, (r = none -> bV .lt ds' es' = decide (us'.length < ws'.length)) -> (∀ v, r = some v -> v = bV .lt ds' es') -> R (r, ⟨⟩) s) ->
  wpAny (model prog w) A (forIn ((us'.zip ws').zipIdx n) ((none, ⟨⟩) : Option Bool × PUnit) fun x c => do
   let r <- eqBool x.1.1 x.1.2
   if (!r) = true then do let z <- oneLt' (b && x.2 == 0) x.1.1 x.1.2; pure (ForInStep.done (some z, ⟨⟩)) else pure (ForInStep.yield (none, ⟨⟩))) R E s := by
  intro n us' ws' ds' es' c
  induction c with
  | nil h g g2 =>
   intro R k;rw [h];refine wpAny_pure (k none (fun z0 => ?_) (fun v e => nomatch e));rename_i us' ws' ds' es'
   cases us' with
   | nil =>
    cases ds' with
    | nil => simp [bV, Od.sz, g2]
    | cons _ _ => simp at g
   | cons _ _ =>
    cases ws' with
    | cons _ _ => simp at h
    | nil =>
     cases es' with
     | cons _ _ => simp at g2
     | nil =>
      cases ds' with
      | nil => simp [bV, Od.sz]
      | cons _ _ => simp [bV, Od.sz]
  | cons h o t ih =>
   intro R k;rename_i n' u w' us2 ws2 d e ds2 es2;simp only [List.zip_cons_cons, List.zipIdx_cons, List.forIn_cons];refine wpAny_bind (wpAny_bind (h prog w E _ ?_))
   cases hq : aP d e with
   | true =>
    simp only [Bool.not_true, Bool.false_eq_true, if_false];refine wpAny_pure ?_;dsimp only;refine ih R fun r a1 a2 => k r (fun z => ?_) (fun v z => ?_)
    . rw [bV, hq, if_pos rfl, a1 z]; simp
    . rw [bV, hq, if_pos rfl]; exact a2 v z
   | false =>
    simp only [Bool.not_false, if_true];refine wpAny_bind (o hq prog w E _ (wpAny_pure ?_));dsimp only;refine wpAny_pure (k _ (fun z => nomatch z) fun v z => ?_);cases z;rw [bV, hq, if_neg Bool.false_ne_true]
 refine wpAny_bind (walk c _ fun r a1 a2 => ?_)
 cases r with
 | none =>
  dsimp only;refine wpAny_pure ?_;rw [a1 rfl] at q;simpa using q
 | some v =>
  dsimp only;refine wpAny_pure ?_;rw [a2 v rfl]; exact q
end
section
variable {X : Cx} {pins : GR} {σ : St} {H : Hp} {s : Shared} {Z Z' : ax} {A : Around}
theorem vN (I : Inv X pins σ H s) {b : Bool} : ∀ {ds es : List D} {xs ys : List V} {us ws : GO} (n : Nat), aC X.K H Z ds xs -> aC X.K H Z' es ys -> Vals xs us -> Vals ys ws -> eo ds es = true -> (n = 0 -> b = true -> ∀ d r, ds = d :: r -> dz d = true) -> A.units + b0 ds < cLine -> vb A s b n us ws ds es := by
 intro ds
 induction ds with
 | nil =>
  intro es xs ys us ws n j j' r r' _ _ _;have z1 := j.length; have z2 := j'.length; have z3 := r.length; have z4 := r'.length;have u0 : us = [] := List.length_eq_zero_iff.mp (by simp at z1; omega);subst u0;exact .nil rfl rfl (by omega)
 | cons d ds ih =>
  intro es xs ys us ws n j j' r r' hc hp hu
  cases es with
  | nil =>
   have z1 := j.length; have z2 := j'.length; have z3 := r.length; have z4 := r'.length;have u0 : ws = [] := List.length_eq_zero_iff.mp (by simp at z2; omega);subst u0;exact .nil (by simp) (by omega) rfl
  | cons e es =>
   obtain ⟨x, xs', rfl, i, j⟩ := ag.mp j;obtain ⟨y, ys', rfl, i', j'⟩ := ag.mp j'
   cases r with
   | cons q r =>
   cases r' with
   | cons q' r' =>
   rw [eo, Bool.and_eq_true] at hc;have hm : A.units + max d.dep (b0 ds) < cLine := by unfold b0 at hu; exact hu
   refine .cons (kY I _ i i' q q' (Nat.le_refl _) (by omega)) (fun _ => ?_) (ih (n + 1) j j' r r' hc.2 (fun z => by omega) (by omega))
   cases n with
   | succ n =>
    have e : (b && n + 1 == 0) = false := by cases b <;> simp
    rw [e];exact pe (oG .lt I _ i i' q q' hc.1 (Nat.le_refl _) (by omega))
   | zero =>
    cases b with
    | false => exact pe (oG .lt I _ i i' q q' hc.1 (Nat.le_refl _) (by omega))
    | true => exact xk true I ⟨_, q, i⟩ ⟨_, q', i'⟩ hc.1 (hp rfl rfl d ds rfl) (by omega)
theorem C6 {b : Bool} (I : Inv X pins σ H s) {ds es : List D} {u u' : Value} (t : Tells X.K H Z u (.tup ds)) (t' : Tells X.K H Z' u' (.tup es)) (hc : cI (.tup ds) (.tup es) = true) (hp : b = true -> ∀ d r, ds = d :: r -> dz d = true) (hu : A.units + b0 ds < cLine) : zx (tuples' b) A s u u' (br .lt (.tup ds) (.tup es)) := by
 obtain ⟨v, r, i⟩ := t;obtain ⟨v', r', i'⟩ := t';obtain ⟨a, xs, rfl, l, j⟩ := aK i;obtain ⟨a', ys, rfl, l', j'⟩ := aK i';cases r;cases r';obtain ⟨its, rx, pl, _⟩ := I.tuple l;obtain ⟨its2, ry, pl2, _⟩ := I.tuple l';have z1 := j.length; have z2 := j'.length; have z3 := rx.length; have z4 := ry.length;simp only [br];exact vq pl pl2 (vN I 0 j j' rx ry (by simpa [cI] using hc) (fun _ => hp) hu) (by omega) (by omega)
theorem wW (I : Inv X pins σ H s) {d d' : D} {u u' : Value} (t : Tells X.K H Z u d) (t' : Tells X.K H Z' u' d') (hc : cI d d' = true) (hp : dz d = true) (hu : A.units + d.dep < cLine) : zx oneType' A s u u' (br .lt d d') := fun prog w E Q q => by
 rw [keyLt'_oneType];exact xk true I t t' hc hp hu prog w E Q q
def Fy : D -> String
 | .int _ => "int"
 | .str _ => "str"
 | .lst _ => "list"
 | _ => "tuple"
theorem Eu (I : Inv X pins σ H s) {d : D} {u : Value} (t : Tells X.K H Z u d) (hp : dz d = true \/ ∃ ds, d = .tup ds) : s.TypeIs u (Fy d) := by
  obtain ⟨v, r, i⟩ := t
  cases d with
  | dct x => rcases hp with h | ⟨_, h⟩
             . exact absurd h (by simp [dz])
             . cases h
  | agg s x => exact absurd i bB
  | ktup x => rcases hp with h | ⟨_, h⟩
              . exact absurd h (by simp [dz])
              . cases h
  | int x => cases av.mp i; obtain ⟨t, rfl⟩ := r; exact typeIs_int s x t
  | str x => cases in_str.mp i; obtain ⟨t, rfl⟩ := r; exact typeIs_str s x t
  | lst ds =>
    obtain ⟨a, xs, rfl, l, j⟩ := ah.mp i;cases r;obtain ⟨its, rx, pl, _⟩ := I.list l.sq;obtain ⟨o, h1, h2, n1, h3⟩ := pl.isList;exact ⟨o, h1, h2⟩
  | tup ds =>
    obtain ⟨a, xs, rfl, l, j⟩ := aK i;cases r;obtain ⟨its, rx, pl, _⟩ := I.tuple l;obtain ⟨o, h1, h2, n1, h3⟩ := pl;exact ⟨o, h1, h2⟩
  | non => simp [dz] at hp
  | bl _ => simp [dz] at hp
variable {M : Model} {E : GJ}
theorem km {α β : Type} {f : α -> Sem β} {P : β -> Prop} : ∀ (l : List α) {Q : List β -> Shared -> Prop}, (∀ x ∈ l, ∃ y, P y /\ ∀ Q' : β -> Shared -> Prop, Q' y s -> wpAny M A (f x) Q' E s) -> (∀ ys : List β, ys.length = l.length -> (∀ y ∈ ys, P y) -> Q ys s) -> wpAny M A (l.mapM f) Q E s
 | [], Q, h, k => by rw [List.mapM_nil]; exact wpAny_pure (k [] rfl (by simp))
 | x :: l, Q, h, k => by
  obtain ⟨y, p, w⟩ := h x (by simp);rw [List.mapM_cons];refine wpAny_bind (w _ (wpAny_bind (km l (fun z hz => h z (by simp [hz])) fun ys e ps => wpAny_pure (k (y :: ys) (by simp [e]) fun z hz => ?_))));rcases mem_cons.mp hz with rfl | hz
  . exact p
  . exact ps z hz
theorem lG {T : String} {vs : GO} {Q : Option Value -> Shared -> Prop} (hT : (Value.type T == Value.type T) = true) (h : ∀ v ∈ vs, s.TypeIs v T) (h0 : vs ≠ []) (q : Q (some (.type T)) s) : wpAny M A (oneTypeOnly' vs.toArray) Q E s := by
 rw [oneTypeOnly'_eq, List.mapM_toArray];refine wpAny_bind ?_;rw [map_eq_pure_bind];refine wpAny_bind (km (P := fun y => y = Value.type T) vs (fun v hv => ⟨_, rfl, fun Q' z => wpAny_typeOf (h v hv) z⟩) fun ys e ps => wpAny_pure ?_)
 cases ys with
 | nil => exact absurd (List.length_eq_zero_iff.mp e.symm) h0
 | cons y ys =>
  obtain rfl := ps y (by simp);have all : (Value.type T :: ys).toArray.all (fun x => x == Value.type T) = true := by
   simp only [List.all_toArray, List.all_eq_true];intro z hz;rw [ps z hz]; exact hT
  have e0 : (Value.type T :: ys).toArray[0]? = some (Value.type T) := by simp
  rw [e0];dsimp only;rw [all, if_pos rfl];exact wpAny_pure q
theorem xC {T : String} {us : GO} {Q : SortKind -> Shared -> Prop} (hT : (Value.type T == Value.type T) = true) (hn : (Value.type T != Value.type "tuple") = true) (h0 : us ≠ [])
 (h : ∀ u ∈ us, ∃ a x its, u = .ref a /\ s.heap.IsTuple a (x :: its).toArray /\ s.TypeIs x T) (q : Q (tuples' true) s) : wpAny M A (keyKind' us.toArray) Q E s := by
 rw [keyKind'_eq, List.mapM_toArray];refine wpAny_bind ?_;rw [map_eq_pure_bind];refine wpAny_bind (km (P := fun y => ∃ x, y = some x /\ s.TypeIs x T) us (fun u hu => ?_) fun ys e ps => wpAny_pure ?_)
 . obtain ⟨a, x, its, rfl, ⟨o, h1, h2, n1, h3⟩, tx⟩ := h u hu;refine ⟨some x, ⟨x, rfl, tx⟩, fun Q' z => ?_⟩;show wpAny _ _ (do
    if (<- typeOf (.ref a)) != .type "tuple" then return none
    return (<- Builtin.List.listItems (.ref a))[0]?) _ _ _
   refine wpAny_bind (wpAny_typeOf (T := "tuple") ⟨o, h1, h2⟩ ?_);have e : (Value.type "tuple" != Value.type "tuple") = false := by rfl
   rw [e, if_neg Bool.false_ne_true];refine wpAny_bind (listItems_at h1 h3 (wpAny_pure ?_));simpa using z
 . have all : ys.toArray.all (fun x => x.isSome) = true := by
    simp only [List.all_toArray, List.all_eq_true];intro z hz;obtain ⟨x, rfl, _⟩ := ps z hz; rfl
   rw [all, if_pos rfl];refine wpAny_bind (wpAny_rule ?_);have e2 : ys.toArray.filterMap id = (ys.filterMap id).toArray := by simp
   rw [e2];refine wpAny_bind (lG (T := T) hT (fun v hv => ?_) ?_ ?_)
   . obtain ⟨y, hy, e⟩ := List.mem_filterMap.mp hv;obtain ⟨x, rfl, tx⟩ := ps y hy;cases e;exact tx
   . cases ys with
     | nil => exact absurd (List.length_eq_zero_iff.mp e.symm) h0
     | cons y ys => obtain ⟨x, rfl, _⟩ := ps y (by simp); simp
   . simp only [Option.any_some, hn];exact wpAny_pure q
theorem yW {T : String} {us : GO} {Q : SortKind -> Shared -> Prop} (hT : (Value.type T == Value.type T) = true) (hn : (Value.type T != Value.type "tuple") = true) (h0 : us ≠ [])
 (h : ∀ u ∈ us, s.TypeIs u T) (q : Q oneType' s) : wpAny M A (keyKind' us.toArray) Q E s := by
 rw [keyKind'_eq, List.mapM_toArray];refine wpAny_bind ?_;rw [map_eq_pure_bind];refine wpAny_bind (km (P := fun y => y = (none : Option Value)) us (fun u hu => ⟨none, rfl, fun Q' z => ?_⟩) fun ys e ps => wpAny_pure ?_)
 . show wpAny _ _ (do
    if (<- typeOf u) != .type "tuple" then return none
    return (<- Builtin.List.listItems u)[0]?) _ _ _
   refine wpAny_bind (wpAny_typeOf (h u hu) ?_);rw [hn, if_pos rfl];exact wpAny_pure z
 . cases ys with
   | nil => exact absurd (List.length_eq_zero_iff.mp e.symm) h0
   | cons y ys =>
    obtain rfl := ps y (by simp);rw [if_neg (by simp), if_neg (by simp)];refine wpAny_bind (lG hT h h0 ?_);exact wpAny_pure q
end
inductive di (P : D -> Prop) : SortKind -> Prop
 | one (T : String) (hT : T = "int" \/ T = "str" \/ T = "list") (h : ∀ d, P d -> dz d = true /\ Fy d = T) : di P oneType'
 | tup (T : String) (hT : T = "int" \/ T = "str" \/ T = "list") (h : ∀ d, P d -> ∃ x r, d = .tup (x :: r) /\ dz x = true /\ Fy x = T) : di P (tuples' true)
theorem tX {T : String} (hT : T = "int" \/ T = "str" \/ T = "list") : (Value.type T == Value.type T) = true /\ (Value.type T != Value.type "tuple") = true := by
 rcases hT with rfl | rfl | rfl <;> exact ⟨rfl, by decide⟩
section
variable {X : Cx} {pins : GR} {σ : St} {H : Hp} {s : Shared} {Z Z' : ax} {A : Around} {P : D -> Prop} {kd : SortKind} {M : Model} {E : GJ}
theorem uC (k : di P kd) (I : Inv X pins σ H s) {us : GO} {Q : SortKind -> Shared -> Prop} (h : ∀ u ∈ us, ∃ d, P d /\ Tells X.K H Z u d) (h0 : us ≠ []) (q : Q kd s) : wpAny M A (keyKind' us.toArray) Q E s := by
 cases k with
 | one T hT hp =>
  refine yW (tX hT).1 (tX hT).2 h0 (fun u hu => ?_) q;obtain ⟨d, pd, t⟩ := h u hu;rw [<- (hp d pd).2];exact Eu I t (.inl (hp d pd).1)
 | tup T hT hp =>
  refine xC (tX hT).1 (tX hT).2 h0 (fun u hu => ?_) q;obtain ⟨d, pd, v, r, i⟩ := h u hu;obtain ⟨x, ds, rfl, px, tx⟩ := hp d pd;obtain ⟨a, xs, rfl, l, j⟩ := aK i;cases r;obtain ⟨y, ys, rfl, iy, j⟩ := ag.mp j;obtain ⟨its, rx, pl, _⟩ := I.tuple l
  cases rx with
  | cons q rx => exact ⟨a, _, _, rfl, pl, tx ▸ Eu I ⟨_, q, iy⟩ (.inl px)⟩
theorem Ay (k : di P kd) (L : gs P) (I : Inv X pins σ H s) {u u' : Value} {d d' : D} (t : Tells X.K H Z u d) (t' : Tells X.K H Z' u' d') (p : P d) (p' : P d') (hu : A.units + d.dep < cLine) : zx kd A s u u' (br .lt d d') := by
 have hc := L.cm d d' p p'
 cases k with
 | one T hT hp => exact wW I t t' hc (hp d p).1 hu
 | tup T hT hp =>
  obtain ⟨x, ds, rfl, px, tx⟩ := hp d p;obtain ⟨x', ds', rfl, px', tx'⟩ := hp d' p';refine C6 I t t' hc (fun _ y r e => by cases e; exact px) ?_;unfold D.dep at hu;omega
open Classical in
noncomputable def uP (K : Frag) (H : Hp) (Z : ax) (P : D -> Prop) (L : gs P) (d0 : {d // P d}) : PyProof.Rows.KeyKind where
 α := {d // P d}
 blt a b := br .lt a.1 b.1
 irrefl a := L.ir a.1 a.2
 trans a b c := L.tr a.1 b.1 c.1 a.2 b.2 c.2
 negTrans a b c h := by
  cases q : br .lt a.1 b.1 with
  | true => exact .inl rfl
  | false =>
   refine .inr ?_
   cases q2 : br .lt b.1 a.1 with
   | true => exact L.tr b.1 a.1 c.1 b.2 a.2 c.2 q2 h
   | false => rw [<- L.tt a.1 b.1 a.2 b.2 q q2]; exact h
 total a b h1 h2 := Subtype.ext (L.tt a.1 b.1 a.2 b.2 h1 h2)
 keyOf u := if h : ∃ d : {d // P d}, Tells K H Z u d.1 then some (Classical.choose h) else none
 dflt := d0
theorem oi (I : Inv X pins σ H s) (L : gs P) {d0 : {d // P d}} {u : Value} {d : D} (p : P d) (t : Tells X.K H Z u d) : (uP X.K H Z P L d0).keyOf u = some ⟨d, p⟩ := by
 have h : ∃ d : {d // P d}, Tells X.K H Z u d.1 := ⟨⟨d, p⟩, t⟩
 unfold uP;dsimp only;rw [dif_pos h];exact congrArg some (Subtype.ext (Tells.one I (Classical.choose_spec h) t))
theorem ur (k : di P kd) (L : gs P) (I : Inv X pins σ H s) {d0 : {d // P d}} {a0 : Array Keyed} {w : World} {prog : Program} (h : ∀ p ∈ a0.toList, ∃ d, P d /\ Tells X.K H Z p.1 d /\ A.units + d.dep < cLine) : ox (uP X.K H Z P L d0) kd a0 prog w A E s := by
 intro st i j Q hB hi hj q;rw [ltAt'_eq];refine wpS_bind (wpS_get ?_);show wpS _ _ _ _ (do let x <- elem' (arrOf st) i; let y <- elem' (arrOf st) j; lt' x y) Q st;have hi' : i < (arrOf st).size := by rw [hB.sz]; exact hi
 have hj' : j < (arrOf st).size := by rw [hB.sz]; exact hj
 have mem : ∀ n (hn : n < (arrOf st).size), (arrOf st)[n] ∈ a0.toList := fun n hn => (Array.perm_iff_toList_perm.mp hB.pm).mem_iff.mp (by simp);obtain ⟨d, p, t, hu⟩ := h _ (mem i hi');obtain ⟨d', p', t', _⟩ := h _ (mem j hj');have e1 : ky (uP X.K H Z P L d0) st i = ⟨d, p⟩ := by
  show KK _ (arrOf st) i = _;unfold KK;rw [getElem?_pos (arrOf st) i hi'];show ((uP X.K H Z P L d0).keyOf (arrOf st)[i].1).getD _ = _;rw [oi I L p t]; rfl
 have e2 : ky (uP X.K H Z P L d0) st j = ⟨d', p'⟩ := by
  show KK _ (arrOf st) j = _;unfold KK;rw [getElem?_pos (arrOf st) j hj'];show ((uP X.K H Z P L d0).keyOf (arrOf st)[j].1).getD _ = _;rw [oi I L p' t']; rfl
 rw [e1, e2] at q;rw [elem'_eq, elem'_eq, getElem?_pos (arrOf st) i hi', getElem?_pos (arrOf st) j hj'];refine wpS_bind (wpS_pure (wpS_bind (wpS_pure ?_)));rw [lt'_eq];refine wpS_bind (wpS_get ?_);rw [hB.kd];refine wpS_bind (wpS_lift (wpAny_attempt (Ay k L I t t' p p' hu prog w _ _ ⟨rfl, ?_⟩)));exact wpS_pure q
theorem zy (I : Inv X pins σ H s) (L : gs P) {d0 : {d // P d}} {a0 xs : Array Keyed} (pm : xs.Perm a0) (up : SortedToK (uP X.K H Z P L d0) xs a0.size) {kf : Keyed -> D} (h : ∀ p ∈ a0.toList, P (kf p) /\ Tells X.K H Z p.1 (kf p)) :
 xs.toList.Pairwise fun p q => br .lt (kf q) (kf p) = false := by
 rw [List.pairwise_iff_getElem];intro i j hi hj hij;have hi' : i < xs.size := by simpa using hi
 have hj' : j < xs.size := by simpa using hj
 have mem : ∀ n (hn : n < xs.size), xs[n] ∈ a0.toList := fun n hn => (Array.perm_iff_toList_perm.mp pm).mem_iff.mp (by simp);have e : ∀ n (hn : n < xs.size), KK (uP X.K H Z P L d0) xs n = ⟨kf xs[n], (h _ (mem n hn)).1⟩ := fun n hn => by
  unfold KK;rw [getElem?_pos xs n hn];show ((uP X.K H Z P L d0).keyOf xs[n].1).getD _ = _;rw [oi I L (h _ (mem n hn)).1 (h _ (mem n hn)).2]; rfl
 have key := up i j (by omega) (by rw [<- pm.size_eq]; exact hj');rw [e i hi', e j hj'] at key;have key2 : br .lt (kf xs[j]) (kf xs[i]) = false := key;simpa using key2
variable {prog : Program} {w : World} {κ : PyProof.Rows.KeyKind}
theorem tL {a : Addr} {us : GO} {n : Nat} {R : Fin -> Shared -> Prop} (ho : s.heap.get? a = some (seqObj "list" us.toArray n)) (h64 : us.length < 64)
 (hk : ∀ (h' : Heap) (Q : SortKind -> Shared -> Prop), (∀ b o, b ≠ a -> s.heap.get? b = some o -> h'.get? b = some o) -> us ≠ [] -> Q kd { s with heap := h' } -> wpAny (model prog w) A (keyKind' us.toArray) Q E { s with heap := h' })
 (hA : ∀ h' : Heap, (∀ b o, b ≠ a -> s.heap.get? b = some o -> h'.get? b = some o) -> ox κ kd (pairsOf us) prog w A E { s with heap := h' })
 (h : ∀ t : Array Keyed, t.Perm (pairsOf us) -> SortedToK κ t (pairsOf us).size -> R (.done (.ret .none)) { s with heap := sortedHeap s.heap a us (t.map (·.2)) }) :
 wpAny (model prog w) A (Builtin.«list.sort» ⟨[.ref a], []⟩) R E s := by
 rw [list_sort_plain];have la : a < s.heap.objs.size := lt_size ho;obtain ⟨m, ho1⟩ : ∃ m, (s.heap.update a (Obj.mapSeq fun _ => #[])).get? a = some (seqObj "list" #[] m) := ⟨_, get?_update_seq ho (fun _ => #[])⟩
 refine wpAny_bind (listItems_at ho rfl (wpAny_bind (listUpdate_at ho rfl (wpAny_bind (seqEpoch_at ho1 rfl (wpAny_bind (wpAny_newTuple (wpAny_bind (wpAny_newList (wpAny_holding ?_))))))))));have keeps : ∀ b o, b ≠ a -> s.heap.get? b = some o -> (((s.heap.update a (Obj.mapSeq fun _ => #[])).push (seqObj "tuple" us.toArray 0)).push (seqObj "list" #[] 0)).get? b = some o := fun b o ne e => by
  have lb : b < s.heap.objs.size := lt_size e;rw [Heap.get?_push_ne _ _ _ (by rw [size_push', Heap.size_update]; exact Nat.ne_of_lt (Nat.lt_succ_of_lt lb)), Heap.get?_push_ne _ _ _ (by rw [Heap.size_update]; exact Nat.ne_of_lt lb), Heap.get?_update_ne _ _ _ _ ne];exact e
 have hoE : (((s.heap.update a (Obj.mapSeq fun _ => #[])).push (seqObj "tuple" us.toArray 0)).push (seqObj "list" #[] 0)).get? a = some (seqObj "list" #[] m) := by
  rw [Heap.get?_push_ne _ _ _ (by rw [size_push', Heap.size_update]; exact Nat.ne_of_lt (Nat.lt_succ_of_lt la)), Heap.get?_push_ne _ _ _ (by rw [Heap.size_update]; exact Nat.ne_of_lt la)];exact ho1
 show wpAny (model prog w) A _ R E { s with heap := ((s.heap.update a (Obj.mapSeq fun _ => #[])).push (seqObj "tuple" us.toArray 0)).push (seqObj "list" #[] 0) };dsimp only;have fits : ∀ t : Array Keyed, t.Perm (pairsOf us) -> (t.map (·.2)).size <= sizeLine + 1 := fun t pm => by
  rw [Array.size_map, pm.size_eq, pairsOf_size, sizeLine_eq]; omega
 by_cases few : us.toArray.size < 2
 . rw [if_pos few, if_pos few];refine wpAny_bind (wpAny_pure ?_);rw [StateT.run_pure];refine wpAny_bind (wpAny_pure ?_);dsimp only;refine wpAny_bind (seqEpoch_at hoE rfl (wpAny_bind (listUpdate_at hoE rfl ?_ (hsz2 := fits _ (Array.Perm.refl _)))));simp only [bne_self_eq_false, Bool.false_eq_true, if_false];refine wpAny_pure (h _ (Array.Perm.refl _) fun i j le lt => ?_);rw [pairsOf_size] at lt;simp at few;rw [show i = j by omega];exact KeyOrd.kle_refl _
 . rw [if_neg few, if_neg few];have l2 : 2 <= (pairsOf us).size := by rw [pairsOf_size]; simp at few; omega
   refine wpAny_bind (hk _ _ keeps (by rintro rfl; simp at few) ?_);refine wpAny_bind (wpAny_mono (rz (κ := κ) (kd := kd) (a0 := pairsOf us) (st := SortSt.mk' kd (us.toArray.zip us.toArray) #[] 7 none) (Q := fun _ t => (arrOf t).Perm (pairsOf us) /\ failedOf t = none /\ SortedToK κ (arrOf t) (pairsOf us).size)
    (hA (((s.heap.update a (Obj.mapSeq fun _ => #[])).push (seqObj "tuple" us.toArray 0)).push (seqObj "list" #[] 0)) keeps) l2 (by rw [pairsOf_size]; exact h64) ⟨Array.Perm.refl _, rfl, rfl, rfl⟩ fun t a1 a2 a3 => ⟨a1, a2, a3⟩) ?_ fun _ _ e => e)
   rintro ⟨⟨⟩, t⟩ s' ⟨rfl, pm, ok, up⟩;dsimp only;refine wpAny_bind (seqEpoch_at hoE rfl (wpAny_bind (listUpdate_at hoE rfl ?_ (hsz2 := fits _ pm))));rw [ok];simp only [bne_self_eq_false, Bool.false_eq_true, if_false];exact wpAny_pure (h _ pm up)
end
def jb (f : D -> D) (ds : List D) : List D := ds.mergeSort fun x y => !br .lt (f y) (f x)
theorem eZ (f : D -> D) (ds : List D) : (jb f ds).Perm ds := List.mergeSort_perm _ _
theorem qx {α β : Type} {R : α -> β -> Prop} {l l' : List α} (p : l'.Perm l) : ∀ {r : List β}, Paired R l r -> ∃ r', r'.Perm r /\ Paired R l' r' := by
 induction p with
 | nil => intro r h; cases h; exact ⟨[], .refl _, .nil⟩
 | cons x p ih =>
  intro r h
  cases h with
  | cons a t =>
   obtain ⟨r', p', h'⟩ := ih t;exact ⟨_ :: r', p'.cons _, .cons a h'⟩
 | swap x y l =>
  intro r h
  cases h with
  | cons a t => cases t with
   | cons b t => exact ⟨_ :: _ :: _, .swap _ _ _, .cons b (.cons a t)⟩
 | trans p q ih1 ih2 =>
  intro r h;obtain ⟨r1, p1, h1⟩ := ih2 h;obtain ⟨r2, p2, h2⟩ := ih1 h1;exact ⟨r2, p2.trans p1, h2⟩
theorem mr {α β γ δ : Type} {R : α -> β -> Prop} {S : γ -> δ -> Prop} {f : α -> γ} {g : β -> δ} : ∀ {l : List α} {r : List β}, Paired R l r -> (∀ a b, a ∈ l -> b ∈ r -> R a b -> S (f a) (g b)) -> Paired S (l.map f) (r.map g)
 | _, _, .nil, _ => .nil
 | _, _, .cons a t, h => .cons (h _ _ (by simp) (by simp) a) (mr t fun x y hx hy z => h x y (by simp [hx]) (by simp [hy]) z)
theorem nT {α : Type} : ∀ {l r : List α}, Paired (fun a b => a = b) l r -> l = r
 | _, _, .nil => rfl
 | _, _, .cons a t => by rw [a, nT t]
theorem g5 {K : Frag} {H : Hp} {Z : ax} : ∀ {prs : List (V × D)}, (∀ q ∈ prs, In K H Z q.2 q.1) -> aC K H Z (prs.map (·.2)) (prs.map (·.1))
 | [], _ => ay.mpr rfl
 | q :: prs, h => ag.mpr ⟨_, _, rfl, h q (by simp), g5 fun x hx => h x (by simp [hx])⟩
section
variable {X : Cx} {pins : GR} {σ : St} {H : Hp} {s : Shared} {Z Z' : ax} {A : Around} {P : D -> Prop} {kd : SortKind} {M : Model} {E : GJ} {f : D -> D}
theorem qL (I : Inv X pins σ H s) (L : gs P) {d0 : {d // P d}} {prs : List (V × D)} {a0 t : Array Keyed} (pr : Paired (fun (p : Keyed) (q : V × D) => RelV q.1 p.2 /\ Tells X.K H Z p.1 (f q.2)) a0.toList prs) (hP : ∀ q ∈ prs, P (f q.2))
 (pm : t.Perm a0) (up : SortedToK (uP X.K H Z P L d0) t a0.size) : ∃ prs' : List (V × D), prs'.Perm prs /\ Vals (prs'.map (·.1)) (t.map (·.2)).toList /\ (prs'.map (·.2)).Pairwise fun x y => br .lt (f y) (f x) = false := by
 have pl := Array.perm_iff_toList_perm.mp pm;obtain ⟨prs', pp, pr'⟩ := qx pl pr;have ex : ∀ p ∈ a0.toList, ∃ q, q ∈ prs /\ Tells X.K H Z p.1 (f q.2) := by
  intro p hp;have : ∀ {l : List Keyed} {r : List (V × D)}, Paired (fun (p : Keyed) (q : V × D) => RelV q.1 p.2 /\ Tells X.K H Z p.1 (f q.2)) l r -> p ∈ l -> ∃ q, q ∈ r /\ Tells X.K H Z p.1 (f q.2) := by
   intro l r h
   induction h with
   | nil => intro z; simp at z
   | cons a t ih =>
    intro z;rcases mem_cons.mp z with rfl | z
    . exact ⟨_, by simp, a.2⟩
    . obtain ⟨q, hq, tq⟩ := ih z;exact ⟨q, by simp [hq], tq⟩
  exact this pr hp
 have hkf : ∃ kf : Keyed -> D, ∀ p ∈ a0.toList, P (kf p) /\ Tells X.K H Z p.1 (kf p) := by
  refine ⟨fun p => open Classical in if h : ∃ d, P d /\ Tells X.K H Z p.1 d then Classical.choose h else .non, fun p hp => ?_⟩;obtain ⟨q, hq, tq⟩ := ex p hp;have h : ∃ d, P d /\ Tells X.K H Z p.1 d := ⟨_, hP q hq, tq⟩
  dsimp only;rw [dif_pos h];exact Classical.choose_spec h
 obtain ⟨kf, hkf⟩ := hkf;have pw := zy I L pm up hkf;refine ⟨prs', pp, ?_, ?_⟩
 . rw [Array.toList_map];have : ∀ {l : List Keyed} {r : List (V × D)}, Paired (fun (p : Keyed) (q : V × D) => RelV q.1 p.2 /\ Tells X.K H Z p.1 (f q.2)) l r -> Vals (r.map (·.1)) (l.map (·.2)) := by
    intro l r h
    induction h with
    | nil => exact .nil
    | cons a t ih => exact .cons a.1 ih
   exact this pr'
 . have e : t.toList.map kf = prs'.map fun q => f q.2 :=
    nT (mr pr' fun p q hp hq z => Tells.one I (hkf p (pl.mem_iff.mp hp)).2 z.2)
   have pw2 : (t.toList.map kf).Pairwise fun x y => br .lt y x = false := by rw [List.pairwise_map]; exact pw
   rw [e, List.pairwise_map] at pw2;rw [List.pairwise_map];exact pw2
theorem oV (L : gs P) {ds ds' : List D} (hP : ∀ d ∈ ds, P (f d)) (inj : ∀ a ∈ ds, ∀ b ∈ ds, f a = f b -> a = b) (pm : ds'.Perm ds) (pw : ds'.Pairwise fun x y => br .lt (f y) (f x) = false) : ds' = jb f ds := by
 have P' : ∀ d ∈ ds', P (f d) := fun d hd => hP d (pm.mem_iff.mp hd);have neg : ∀ x y z, P (f x) -> P (f y) -> P (f z) -> br .lt (f y) (f x) = false -> br .lt (f z) (f y) = false -> br .lt (f z) (f x) = false := fun x y z px py pz a b => by
  cases q : br .lt (f z) (f x) with
  | false => rfl
  | true =>
   cases q2 : br .lt (f x) (f y) with
   | true => rw [L.tr _ _ _ pz px py q q2] at b; cases b
   | false => rw [L.tt _ _ px py q2 a] at q; rw [q] at b; cases b
 have hs : (jb f ds).Pairwise fun x y => br .lt (f y) (f x) = false := by
  let ds2 : List {d // P (f d)} := ds.attach.map fun d => ⟨d.1, hP d.1 d.2⟩
  have e : ds = ds2.map (·.1) := by simp [ds2]
  have e2 : jb f ds = (ds2.mergeSort fun x y => !br .lt (f y.1) (f x.1)).map (·.1) := by
   unfold jb;rw [e];exact (List.map_mergeSort (f := fun z : {d // P (f d)} => z.1) (r := fun x y => !br .lt (f y.1) (f x.1)) (s := fun x y => !br .lt (f y) (f x)) (fun a _ b _ => rfl)).symm
  rw [e2, List.pairwise_map];have := List.pairwise_mergeSort (le := fun (x y : {d // P (f d)}) => !br .lt (f y.1) (f x.1)) (fun a b c h1 h2 => by
   simp only [Bool.not_eq_true'] at *;exact neg a.1 b.1 c.1 a.2 b.2 c.2 h1 h2) (fun a b => by
   cases q : br .lt (f b.1) (f a.1) with
   | false => simp
   | true =>
    have z : br .lt (f a.1) (f b.1) = false := by
     cases q2 : br .lt (f a.1) (f b.1) with
     | false => rfl
     | true => have w := L.tr _ _ _ a.2 b.2 a.2 q2 q; rw [L.ir _ a.2] at w; cases w
    simp [z]) ds2
  exact this.imp fun h => by simpa using h
 refine List.Perm.eq_of_pairwise (le := fun x y => br .lt (f y) (f x) = false) ?_ pw hs (pm.trans (eZ f ds).symm);intro a b ha hb h1 h2;have hb' : b ∈ ds := (eZ f ds).mem_iff.mp hb;exact inj a (pm.mem_iff.mp ha) b hb' (L.tt _ _ (P' a ha) (hP b hb') h2 h1)
end
section
variable {X : Cx}
theorem kL {K : Frag} {H : Hp} {Z : ax} : ∀ {ds : List D} {ys : List V} {its : GO}, Vals ys its -> aC K H Z ds ys -> Paired (fun (p : Keyed) (q : V × D) => RelV q.1 p.2 /\ Tells K H Z p.1 (id q.2)) (its.zip its) (ys.zip ds)
 | [], ys, its, r, j => by cases ay.mp j; cases r; exact .nil
 | d :: ds, ys, its, r, j => by
  obtain ⟨v, vs, rfl, i, j⟩ := ag.mp j
  cases r with
  | cons a r => exact .cons ⟨a, v, a, i⟩ (kL r j)
theorem n8 {K : Frag} {H : Hp} {Z : ax} : ∀ {ds : List D} {ys : List V}, aC K H Z ds ys -> ∀ q ∈ ys.zip ds, In K H Z q.2 q.1
 | [], ys, j, q, hq => by simp at hq
 | d :: ds, ys, j, q, hq => by
  obtain ⟨v, vs, rfl, i, j⟩ := ag.mp j;rcases mem_cons.mp hq with rfl | hq
  . exact i
  . exact n8 j q hq
variable {ρ : List (Option D)} {m m1 : Bool} {a : Expr} {ds : List D} {p pos : Pos} {P : D -> Prop} {kd : SortKind}
theorem rQ {ds es : List D} (p : es.Perm ds) (h : aV ds = true) : aV es = true := by
 have mem : ∀ {l : List D}, aV l = true ↔ ∀ d ∈ l, d.flat = true := by
  intro l
  induction l with
  | nil => simp [aV]
  | cons x l ih => simp [aV, ih]
 exact mem.mpr fun d hd => mem.mp h d (p.mem_iff.mp hd)
end
theorem rm (a fa : Addr) : Builtin.«list.sort» ⟨[.ref a], [(("key" : Str), .ref fa)]⟩ = (do
 let items <- Builtin.List.listItems (.ref a)
 Builtin.List.listUpdate (.ref a) fun _ => #[]
 let before <- seqEpoch a
 let held <- newTuple items.toList
 let store <- newList []
 holding [held, store] do
  rule "list.sort.key"
  for x in items do
   match <- (call (.ref fa) [x]).attempt with
   | .ok k => Builtin.List.listUpdate store (·.push k)
   | .error e =>
    rule "list.sort.key-raised"
    let made <- Builtin.List.listItems store
    Builtin.List.listUpdate store fun _ => #[]
    letGo made.toList.reverse [e]
    Builtin.List.listUpdate (.ref a) (fun _ => items); throw e
  let keys <- Builtin.List.listItems store
  let kind <- if items.size < 2 then pure general' else keyKind' keys
  let ((), st) <- (if items.size < 2 then pure () else sortRuns').run (SortSt.mk' kind (keys.zip items) #[] 7 none)
  Builtin.List.listUpdate store (fun _ => #[])
  letGo ((arrOf st).map (·.1)).toList (failedOf st).toList
  let touched := (<- seqEpoch a) != before
  Builtin.List.listUpdate (.ref a) (fun _ => (arrOf st).map (·.2))
  if let some e := failedOf st then rule "list.sort.comparison-raised"; throw e
  if touched then rule "list.sort.modified"; raiseError "ValueError" "list modified during sort"
  ret .none) := rfl
structure C0 (X : Cx) (A : Around) (σ : St) (fa : Addr) (f : D -> D) (P0 : D -> Prop) (Good : Hp -> ax -> Prop) : Prop where
 zone : ∀ {H : Hp} {Z Z' : ax}, (∀ a o, H a = some o -> Z.S a -> Z'.S a) -> (Z.m = false -> Z'.m = false) -> Good H Z -> Good H Z'
 same : ∀ {H H' : Hp} {Z : ax}, ao H H' -> Good H Z -> Good H' Z
 write : ∀ {H : Hp} {Z : ax} {l : Addr} {xs ys : List V}, H l = some (.lst xs) -> ¬ Z.S l -> Good H Z -> Good (upd H l (.lst ys)) Z
 run : ∀ (E : GJ) (pins : GR) (s : Shared) (H : Hp) (Z : ax) (u : Value) (d : D) (Q : GJ), Inv X pins σ H s -> Z.Open H -> Good H Z -> Tells X.K H Z u d -> P0 d ->
  (∀ k H' s', Inv X pins σ H' s' -> ao H H' -> Tells X.K H' Z k (f d) -> Q k s') -> wpAny (model X.prog X.w) A (call (.ref fa) [u]) Q E s
theorem TabsOk.Fl {H : Hp} {a : Addr} {φ : Heap -> Prop} {o : HO} (t : TabsOk H) (ha : H a = some (.ext φ)) (no : ∀ qn : Str, (fun h : Heap => h.CodeRec (.ref a) qn) ≠ φ) : TabsOk (L2.upd H a o) := fun P hP => by
 obtain ⟨ps, e, tr, k⟩ := t P hP;refine ⟨ps, by rw [aa (dF e ha (by intro z; cases z))]; exact e, tr, fun pos cv q => ?_⟩;obtain ⟨c, rfl, hc⟩ := k pos cv q;have : c ≠ a := fun z => by
  subst z;rw [ha] at hc;have z2 := Option.some.inj hc;unfold sI at z2;injection z2 with z3;exact no P.2 z3.symm
 exact ⟨c, rfl, by rw [aa this]; exact hc⟩
theorem nk {K : Frag} {H : Hp} {Z : ax} {f : D -> D} : ∀ {ds : List D} {xs : List V} {us : GO} {kvs : List V} {ks : GO}, xs.length = ds.length -> Vals xs us -> aC K H Z (ds.map f) kvs -> Vals kvs ks ->
 Paired (fun (p : Keyed) (q : V × D) => RelV q.1 p.2 /\ Tells K H Z p.1 (f q.2)) (ks.zip us) (xs.zip ds)
 | [], xs, us, kvs, ks, hl, r, j, r2 => by
  cases ay.mp j;cases r2
  cases r with
  | nil => exact .nil
  | cons _ _ => simp at hl
 | d :: ds, xs, us, kvs, ks, hl, r, j, r2 => by
  obtain ⟨v, vs, rfl, i, j⟩ := ag.mp j
  cases r2 with
  | cons a r2 =>
   cases r with
   | nil => simp at hl
   | cons b r => exact .cons ⟨b, v, a, i⟩ (nk (by simpa using hl) r j r2)
section
variable {X : Cx} {pins : GR} {σ : St} {H : Hp} {s : Shared} {Z : ax} {A : Around} {P P0 : D -> Prop} {kd : SortKind} {E : GJ} {f : D -> D} {fa a : Addr} {Good : Hp -> ax -> Prop}
theorem yB (kk : C0 X A σ fa f P0 Good) (L : gs P) (kn : di P kd) {ds : List D} {xs : List V} {us : GO} (hP : ∀ d ∈ ds, P0 d /\ P (f d) /\ A.units + (f d).dep < cLine) (inj : ∀ x ∈ ds, ∀ y ∈ ds, f x = f y -> x = y)
 (I : Inv X pins σ H s) (oz : Z.Open H) (g : Good H Z) (ix : aC X.K H Z ds xs) (vx : Vals xs us) (h64 : us.length < 64) {h1 : Heap} {t1 n : Nat} (k1 : ∀ b o, s.heap.get? b = some o -> h1.get? b = some o) (la : s.heap.objs.size <= a)
 (ho : h1.get? a = some (seqObj "list" us.toArray n)) {R : Fin -> Shared -> Prop}
 (fin : ∀ H' s' (prs : List (V × D)), Inv X pins σ H' s' -> ao H H' -> H a = none -> H' a = some (.lst (prs.map (·.1))) -> prs.Perm (xs.zip ds) -> prs.map (·.2) = jb f ds -> R (.done (.ret .none)) s') :
 wpAny (model X.prog X.w) A (Builtin.«list.sort» ⟨[.ref a], [(("key" : Str), .ref fa)]⟩) R E { s with heap := h1, toks := t1 } := by
 rw [rm];have z1 := ix.length; have z2 := vx.length;have la' : a < h1.objs.size := lt_size ho;obtain ⟨m, ho1⟩ : ∃ m, (h1.update a (Obj.mapSeq fun _ => #[])).get? a = some (seqObj "list" #[] m) := ⟨_, get?_update_seq ho (fun _ => #[])⟩
 refine wpAny_bind (listItems_at (s := { s with heap := h1, toks := t1 }) ho rfl ?_);refine wpAny_bind (listUpdate_at (s := { s with heap := h1, toks := t1 }) ho rfl ?_ (by simp only [size_toArray, sizeLine_eq]; omega) (by simp));refine wpAny_bind (seqEpoch_at (s := { s with heap := h1.update a (Obj.mapSeq fun _ => #[]), toks := t1 }) ho1 rfl ?_);refine wpAny_bind (wpAny_newTuple ?_);have k3 : ∀ b o, s.heap.get? b = some o -> ((h1.update a (Obj.mapSeq fun _ => #[])).push (seqObj "tuple" us.toArray 0)).get? b = some o := fun b o e => by
  have lb := lt_size e;have ne : b ≠ a := Nat.ne_of_lt (Nat.lt_of_lt_of_le lb la);have lb1 := lt_size (k1 b o e);rw [Heap.get?_push_ne _ _ _ (by rw [Heap.size_update]; exact Nat.ne_of_lt lb1), Heap.get?_update_ne _ _ _ _ ne];exact k1 b o e
 have ho3 : ((h1.update a (Obj.mapSeq fun _ => #[])).push (seqObj "tuple" us.toArray 0)).get? a = some (seqObj "list" #[] m) := by
  rw [Heap.get?_push_ne _ _ _ (by rw [Heap.size_update]; exact Nat.ne_of_lt la')];exact ho1
 show wpAny (model X.prog X.w) A _ R E { s with heap := (h1.update a (Obj.mapSeq fun _ => #[])).push (seqObj "tuple" us.toArray 0), toks := t1 };generalize ((h1.update a (Obj.mapSeq fun _ => #[])).push (seqObj "tuple" us.toArray 0)) = h3 at k3 ho3 ⊢;have Ha0 : H a = none := I.hok.fresh la;have Ia : Inv X pins σ (upd H a (.ext fun h => h.get? a = some (seqObj "list" #[] m))) { s with heap := h3, toks := t1 } := I.laid k3 la ⟨ho3, ⟨_, ho3⟩, fun g1 g2 z k => k _ z⟩;refine wpAny_bind (wpAny_newList ?_);have Iq := Ia.FE (ys := []) (its := []) (t' := t1) .nil (by simp);have q0 := Ia.fresh;show wpAny (model X.prog X.w) A _ R E { s with heap := h3.push (seqObj "list" #[] 0), toks := t1 };have Hq0 : H h3.objs.size = none := by
  have z := q0;by_cases e : h3.objs.size = a
  . rw [e]; exact Ha0
  . change upd H a _ h3.objs.size = none at z;rw [aa e] at z; exact z
 have neq : a ≠ h3.objs.size := Nat.ne_of_lt (lt_size ho3);generalize hQ : h3.objs.size = q at q0 Hq0 neq ⊢;have Iq' : Inv X pins σ (upd (upd H a (.ext fun h => h.get? a = some (seqObj "list" #[] m))) q (.lst [])) { s with heap := h3.push (seqObj "list" #[] 0), toks := t1 } := by rw [<- hQ]; exact Iq
 clear Iq
 -- what every state in the loop bears
 have openQ : ∀ {H' : Hp} {kvs : List V}, ao H H' -> H' q = some (.lst kvs) -> ax.Open ⟨Z.m, fun b => Z.S b /\ b ≠ q⟩ H' := fun {H' kvs} k hq => ⟨fun b e => ⟨oz.op b (k.free e), fun z => by rw [z, hq] at e; cases e⟩, k.tabs oz.tb⟩
 have carryQ : ∀ {H' : Hp}, ao H H' -> Carry X.K H Z H' ⟨Z.m, fun b => Z.S b /\ b ≠ q⟩ := fun {H'} k =>
  Carry.of k (fun b ys e z => ⟨z, fun w => by rw [w, Hq0] at e; cases e⟩) fun z => z
 refine wpAny_holding (wpAny_bind (wpAny_rule ?_));refine wpAny_bind (wpAny_forIn_array' _ (fun rest _ st => ∃ (H' : Hp) (kvs : List V), Inv X pins σ H' st /\ (ao H H' /\ H' a = some (.ext fun h => h.get? a = some (seqObj "list" #[] m))) /\ H' q = some (.lst kvs) /\
  Good H' ⟨Z.m, fun b => Z.S b /\ b ≠ q⟩ /\ kvs.length <= us.length /\ rest = us.drop kvs.length /\ aC X.K H' ⟨Z.m, fun b => Z.S b /\ b ≠ q⟩ ((ds.take kvs.length).map f) kvs) _ ?turn ?over _ _ ?start)
 case start =>
  have sm0 : ao H (upd (upd H a (.ext fun h => h.get? a = some (seqObj "list" #[] m))) q (.lst [])) := (aB Ha0).trans (aB q0);exact ⟨_, [], Iq', ⟨sm0, by rw [aa neq, ae]⟩, ae, kk.same sm0 (kk.zone (Z := Z) (fun b o e z => ⟨z, fun w => by rw [w, Hq0] at e; cases e⟩) (fun z => z) g), Nat.zero_le _, by simp, ay.mpr rfl⟩
 case turn =>
  rintro x rest _ st ⟨H', kvs, I', ⟨kp, hae⟩, hq, gd, hle, hr, jn⟩;have hlt : kvs.length < us.length := by
   have := congrArg List.length hr;simp at this; omega
  have hx : us[kvs.length] = x /\ us.drop (kvs.length + 1) = rest := by
   rw [List.drop_eq_getElem_cons hlt] at hr;injection hr with e1 e2;exact ⟨e1.symm, e2.symm⟩
  have hd : kvs.length < ds.length := by omega
  obtain ⟨v, ev, iv⟩ := ix.get (i := kvs.length) (d := ds[kvs.length]) (by simp [hd]);obtain ⟨u', eu, ru⟩ := vx.get ev;have e2 : u' = x := by
   have t := (List.getElem?_eq_some_iff.mp eu).2;rw [<- t]; exact hx.1
  subst e2;refine wpAny_bind (wpAny_attempt (kk.run _ pins st H' _ u' ds[kvs.length] _ I' (openQ kp hq) gd ⟨v, ru, iv.carry (carryQ kp)⟩ (hP _ (getElem_mem hd)).1 fun k H2 s2 I2 sm ⟨kv, rk, ik⟩ => ?_));dsimp only;have hq2 : H2 q = some (.lst kvs) := sm.at hq;obtain ⟨zl, its, n2, rv, ll, ho2⟩ := I2.zC hq2;refine wpAny_bind (listUpdate_at ho2 rfl (wpAny_pure ?_) (by simp only [size_toArray, sizeLine_eq]; omega) (by simp only [Array.size_push, size_toArray, sizeLine_eq]; omega));dsimp only;refine ⟨upd H2 q (.lst (kvs ++ [kv])), kvs ++ [kv], I2.A8 (t' := s2.toks) (its' := its ++ [k]) hq2 ho2 (by simp) (rv.append (.cons rk .nil)) (by simp only [List.length_append, length_cons, List.length_nil, sizeLine_eq]; omega), ⟨(kp.trans sm).write Hq0 hq2, by rw [aa neq]; exact sm.at hae⟩, ae, ?_, by simp; omega, by simp [hx.2], ?_⟩
  . exact kk.write hq2 (fun z => z.2 rfl) (kk.same sm gd)
  . have e3 : (ds.take (kvs ++ [kv]).length).map f = (ds.take kvs.length).map f ++ [f ds[kvs.length]] := by
     rw [List.length_append, length_cons, List.length_nil, take_add_one, map_append];simp [hd]
    rw [e3];have cw : Carry X.K H2 ⟨Z.m, fun b => Z.S b /\ b ≠ q⟩ (upd H2 q (.lst (kvs ++ [kv]))) ⟨Z.m, fun b => Z.S b /\ b ≠ q⟩ := Carry.write hq2 (fun z => z.2 rfl);exact ((jn.same sm).carry cw).append (aC.one (ik.carry cw))
 case over =>
  rintro _ st ⟨H', kvs, I', ⟨kp, hae⟩, hq, gd, hle, hr, jn⟩;have hlen : kvs.length = us.length := by
   have := congrArg List.length hr;simp at this; omega
  have jn' : aC X.K H' ⟨Z.m, fun b => Z.S b /\ b ≠ q⟩ (ds.map f) kvs := by
   rw [hlen, show us.length = ds.length by omega, take_length] at jn; exact jn
  obtain ⟨zl, ks, n2, rv, ll, ho2⟩ := I'.zC hq;refine wpAny_bind (listItems_at ho2 rfl ?_);have pr := nk (K := X.K) (by omega) vx jn' rv;have hsz : ks.toArray.size = us.toArray.size := by simp; omega
  -- behind the sort
  have tail : ∀ (tt : SortSt) (prs : List (V × D)), failedOf tt = none -> prs.Perm (xs.zip ds) -> Vals (prs.map (·.1)) ((arrOf tt).map (·.2)).toList -> prs.map (·.2) = jb f ds ->
   wpAny (model X.prog X.w) A (do
    Builtin.List.listUpdate (.ref q) (fun _ => #[])
    letGo ((arrOf tt).map (·.1)).toList (failedOf tt).toList
    let touched := (<- seqEpoch a) != m
    Builtin.List.listUpdate (.ref a) (fun _ => (arrOf tt).map (·.2))
    if let some e := failedOf tt then rule "list.sort.comparison-raised"; throw e
    if touched then rule "list.sort.modified"; raiseError "ValueError" "list modified during sort"
    ret .none) R E st := by
   intro tt prs ok pp vv e;refine wpAny_bind (listUpdate_at ho2 rfl ?_ (by simp only [size_toArray, sizeLine_eq]; omega) (by simp));have I5 := I'.A8 (t' := st.toks) (its' := []) (ys := []) (f := fun _ => #[]) hq ho2 (by simp) .nil (by simp);have ha5 : upd H' q (.lst []) a = some (.ext fun h => h.get? a = some (seqObj "list" #[] m)) := by rw [aa neq]; exact hae
   have ho5 : ({ st with heap := st.heap.update q (Obj.mapSeq fun _ => #[]), toks := st.toks } : Shared).heap.get? a = some (seqObj "list" #[] m) := (I5.hok a _ ha5).1;refine wpAny_bind (wpAny_letGo ?_);refine wpAny_bind (seqEpoch_at (s := { st with heap := st.heap.update q (Obj.mapSeq fun _ => #[]), toks := st.toks }) ho5 rfl ?_);have nout : ((arrOf tt).map (·.2)).size <= sizeLine := by
    have z := vv.length;have z3 := pp.length_eq;rw [List.length_zip] at z3;rw [length_map] at z;rw [<- Array.length_toList, <- z, z3, sizeLine_eq]; omega
   refine wpAny_bind (listUpdate_at (s := { st with heap := st.heap.update q (Obj.mapSeq fun _ => #[]), toks := st.toks }) ho5 rfl ?_ (by simp) (Nat.le_succ_of_le nout));rw [ok];simp only [bne_self_eq_false, Bool.false_eq_true, if_false];obtain ⟨e6, qo⟩ : ∃ e6, ((st.heap.update q (Obj.mapSeq fun _ => #[])).update a (Obj.mapSeq fun _ => (arrOf tt).map (·.2))).get? a = some (seqObj "list" ((arrOf tt).map (·.2)) e6) := ⟨_, get?_update_seq ho5 (fun _ => (arrOf tt).map (·.2))⟩
   have I6 : Inv X pins σ (upd (upd H' q (.lst [])) a (.lst (prs.map (·.1)))) { st with heap := (st.heap.update q (Obj.mapSeq fun _ => #[])).update a (Obj.mapSeq fun _ => (arrOf tt).map (·.2)), toks := st.toks } := by
    refine I5.write (x := a) (e := a) (by rw [ha5]; exact trivial) (.inl rfl) (fun b u nb hb => (Heap.get?_update_other _ _ (Ne.symm nb)).trans hb) ⟨_, qo⟩ ?_;refine ⟨?_, ((arrOf tt).map (·.2)).toList, e6, vv, by rw [Array.toArray_toList]; exact qo⟩;rw [vv.length, Array.length_toList]; exact nout
   have sm5 : ao H (upd H' q (.lst [])) := kp.write Hq0 hq;have sm6 : ao H (upd (upd H' q (.lst [])) a (.lst (prs.map (·.1)))) := ⟨fun b o eb n => by rw [aa (aq eb Ha0)]; exact sm5.get b o eb n, fun b qs eb => by rw [aa (aq eb Ha0)]; exact sm5.tbl b qs eb, fun t => (sm5.tabs t).Fl ha5 fun qn z => by
    have z2 := (I5.hok a _ ha5).1;rw [<- z] at z2;obtain ⟨c3, o3, vs3, t3, e3, g3, d3, _⟩ := z2;cases e3;rw [ho5] at g3;cases g3;cases d3⟩
   exact wpAny_pure (fin _ _ prs I6 sm6 Ha0 ae pp e)
  by_cases few : us.toArray.size < 2
  . rw [if_pos few, if_pos few];refine wpAny_bind (wpAny_pure ?_);dsimp only;rw [StateT.run_pure];refine wpAny_bind (wpAny_pure ?_);dsimp only;refine tail (SortSt.mk' general' (ks.toArray.zip us.toArray) #[] 7 none) (xs.zip ds) rfl (.refl _) ?_ ?_
    . have e1 : ((ks.toArray.zip us.toArray).map (·.2)).toList = us := by
       simp only [List.zip_toArray, List.map_toArray];exact List.map_snd_zip (by omega)
      have e2 : (xs.zip ds).map (·.1) = xs := List.map_fst_zip (by omega);rw [e2];show Vals xs ((ks.toArray.zip us.toArray).map (·.2)).toList;rw [e1]; exact vx
    . have e2 : (xs.zip ds).map (·.2) = ds := List.map_snd_zip (by omega);rw [e2];simp at few
      match ds, z1 with
      | [], _ => simp [jb]
      | [d], _ => simp [jb]
      | d :: d2 :: r, z => simp at z; omega
  . rw [if_neg few, if_neg few];have l2 : 2 <= us.length := by simp at few; omega
    have el : ∀ u ∈ ks, ∃ d, P d /\ Tells X.K H' ⟨Z.m, fun b => Z.S b /\ b ≠ q⟩ u d /\ A.units + d.dep < cLine := fun u hu => by
     obtain ⟨i, hi, e⟩ := List.mem_iff_getElem.mp hu;have hd : i < ds.length := by omega
     obtain ⟨v, ev, iv⟩ := jn'.get (i := i) (d := f ds[i]) (by simp [hd]);obtain ⟨u', eu, ru⟩ := rv.get ev;have e2 : u' = u := by
      have t := (List.getElem?_eq_some_iff.mp eu).2;rw [<- t]; exact e
     exact ⟨_, (hP _ (getElem_mem hd)).2.1, ⟨v, e2 ▸ ru, iv⟩, (hP _ (getElem_mem hd)).2.2⟩
    have kn0 : ks ≠ [] := fun z => by rw [z] at ll; simp only [List.length_nil] at ll; omega
    refine wpAny_bind (uC kn I' (fun u hu => let ⟨d, p1, p2, _⟩ := el u hu; ⟨d, p1, p2⟩) kn0 ?_);have hd0 : 0 < ds.length := by omega
    have esz : (ks.toArray.zip us.toArray).size = us.length := by simp; omega
    have elist : (ks.toArray.zip us.toArray).toList = ks.zip us := by simp
    refine wpAny_bind (wpAny_mono (rz (κ := uP X.K H' ⟨Z.m, fun b => Z.S b /\ b ≠ q⟩ P L ⟨f ds[0], (hP _ (getElem_mem hd0)).2.1⟩) (kd := kd) (a0 := ks.toArray.zip us.toArray) (st := SortSt.mk' kd (ks.toArray.zip us.toArray) #[] 7 none)
     (Q := fun _ t => (arrOf t).Perm (ks.toArray.zip us.toArray) /\ failedOf t = none /\ SortedToK (uP X.K H' ⟨Z.m, fun b => Z.S b /\ b ≠ q⟩ P L ⟨f ds[0], (hP _ (getElem_mem hd0)).2.1⟩) (arrOf t) (ks.toArray.zip us.toArray).size)
     (ur kn L I' fun p hp => el p.1 (by rw [elist] at hp; exact (List.of_mem_zip hp).1)) (by rw [esz]; exact l2) (by rw [esz]; exact h64) ⟨Array.Perm.refl _, rfl, rfl, rfl⟩ fun t a1 a2 a3 => ⟨a1, a2, a3⟩) ?_ fun _ _ e => e)
    rintro ⟨⟨⟩, t⟩ s' ⟨rfl, pm, ok, up⟩;dsimp only;rw [<- elist] at pr;obtain ⟨prs, pp, vv, pw⟩ := qL I' L pr (fun z hz => (hP _ (List.of_mem_zip hz).2).2.1) pm up;refine tail t prs ok pp vv (oV L (f := f) (fun d hd => (hP d hd).2.1) inj ?_ pw);have e2 : (xs.zip ds).map (·.2) = ds := List.map_snd_zip (by omega);have pp2 := pp.map (·.2);rw [e2] at pp2;exact pp2
end
theorem u7 {pos : Pos} {a b : Int} {c cv : Value} (l : GO) (h : TriplesOk l) (e : codeAmong pos (l ++ [rawInt a, rawInt b, c]) = some cv) : codeAmong pos l = some cv \/ cv = c := by
 fun_induction TriplesOk l with
 | case1 =>
  simp only [List.nil_append, codeAmong, rawInt] at e;split at e
  . exact .inr (Option.some.inj e).symm
  . cases e
 | case2 a' t b' u x rest ih =>
  simp only [cons_append, codeAmong] at e ⊢;split at e
  . rename_i hc; rw [if_pos hc]; exact .inl e
  . rename_i hc; rw [if_neg hc]; exact ih h e
 | case3 l h1 h2 => exact h.elim
section
variable {X : Cx} {pins : GR} {σ : St} {H : Hp} {s : Shared} {P c f : Addr} {ps more : GP} {h' : Heap} {t' : Nat}
theorem AY (I : Inv X pins σ H s) (hP : H P = some (.tbl ps)) (k : ∀ b o, b ≠ P -> s.heap.get? b = some o -> h'.get? b = some o) (htb : h'.get? P = some { cls := .none, data := .fields (ps ++ more) }) {u v : HO} (hc : s.heap.objs.size <= c) (hf : s.heap.objs.size <= f) (cf : c ≠ f)
 (oc : bz X.prog X.w (upd (upd (upd H P (.tbl (ps ++ more))) c u) f v) h' c u) (of : bz X.prog X.w (upd (upd (upd H P (.tbl (ps ++ more))) c u) f v) h' f v) :
 Inv X pins σ (upd (upd (upd H P (.tbl (ps ++ more))) c u) f v) { s with heap := h', toks := t' } := by
 have Hc : H c = none := I.hok.fresh hc;have Hf : H f = none := I.hok.fresh hf;have Pc : P ≠ c := aq hP Hc;have Pf : P ≠ f := aq hP Hf;have get : ∀ {b : Addr} {o : HO}, H b = some o -> b ≠ P -> upd (upd (upd H P (.tbl (ps ++ more))) c u) f v b = some o := fun {b o} e n => by
  rw [aa (aq e Hf), aa (aq e Hc), aa n]; exact e
 have getP : upd (upd (upd H P (.tbl (ps ++ more))) c u) f v P = some (.tbl (ps ++ more)) := by rw [aa Pf, aa Pc, ae]
 refine I.un ⟨fun b o e n hb _ => ?_, fun b o e n hb _ => ?_, fun b o e n _ => ?_, fun b o e _ => ?_, fun b xs e => ?_, fun b o u' e => ?_, fun b qs e => ?_⟩ fun b o e => ?_
 . exact k b o (fun z => by rw [z, hP] at n; cases n) e
 . exact ⟨o.slots, k b o (fun z => by rw [z, hP] at n; cases n) e⟩
 . have lb := lt_size e;have n1 : b ≠ P := fun z => by rw [z, hP] at n; cases n
   rw [aa (Nat.ne_of_lt (Nat.lt_of_lt_of_le lb hf)), aa (Nat.ne_of_lt (Nat.lt_of_lt_of_le lb hc)), aa n1]; exact n
 . by_cases z : b = P
   . exact ⟨_, by rw [z]; exact htb⟩
   . exact ⟨o, k b o z e⟩
 . exact get e (dF e hP (by intro z; cases z))
 . exact get e (dF e hP (by intro z; cases z))
 . by_cases z : b = P
   . rw [z, hP] at e;cases e;exact ⟨more, by rw [z]; exact getP⟩
   . exact ⟨#[], by rw [get e z]; simp⟩
 . by_cases z1 : b = f
   . subst z1; rw [ae] at e; cases e; exact of
   . rw [aa z1] at e;by_cases z2 : b = c
     . subst z2; rw [ae] at e; cases e; exact oc
     . rw [aa z2] at e;by_cases z3 : b = P
       . subst z3; rw [ae] at e; cases e; exact htb
       . rw [aa z3] at e;refine (I.hok b o e).jw (fun b' v' hb' q => k b' v' ?_ q) (fun b' q => get q (dF q hP (by intro z; cases z))) fun b' xs q => get q (dF q hP (by intro z; cases z));rcases hb' with z | z
         . rw [z]; exact z3
         . exact dF z hP (by intro z; cases z)
theorem yd {qn : Str} {pos : Pos} {v : HO} (t : TabsOk H) (hT : (P, qn) ∈ bT.T) (one : ∀ q ∈ bT.T, q.1 = P -> q.2 = qn) (hP : H P = some (.tbl ps)) (hn : codeAmong pos ps.toList = none) (Hc : H c = none) (Hf : H f = none) (cf : c ≠ f) :
 TabsOk (upd (upd (upd H P (.tbl (ps ++ #[rawInt pos.line, rawInt pos.col, .ref c]))) c (sI c qn)) f v) := fun Q hQ => by
 obtain ⟨qs, e, tr, kq⟩ := t Q hQ;have ne : ∀ {b : Addr} {o : HO}, H b = some o -> b ≠ P -> upd (upd (upd H P (.tbl (ps ++ #[rawInt pos.line, rawInt pos.col, .ref c]))) c (sI c qn)) f v b = some o := fun {b o} e n => by
  rw [aa (aq e Hf), aa (aq e Hc), aa n]; exact e
 by_cases z : Q.1 = P
 . have qe := one Q hQ z;rw [z, hP] at e;cases e;refine ⟨ps ++ #[rawInt pos.line, rawInt pos.col, .ref c], by rw [z, aa (aq hP Hf), aa (aq hP Hc), ae], ?_, fun pos' cv q => ?_⟩
   . rw [Array.toList_append]; exact TriplesOk_snoc _ _ _ _ tr
   . rw [Array.toList_append] at q;rcases u7 _ tr q with q | q
     . obtain ⟨c', rfl, hc'⟩ := kq pos' cv q;exact ⟨c', rfl, ne hc' (dF hc' hP (by intro z; cases z))⟩
     . exact ⟨c, q, by rw [aa cf, ae, qe]⟩
 . refine ⟨qs, ne e z, tr, fun pos' cv q => ?_⟩;obtain ⟨c', rfl, hc'⟩ := kq pos' cv q;exact ⟨c', rfl, ne hc' (dF hc' hP (by intro z; cases z))⟩
def Bi (mg : GN) (base : Heap) : Prop := ∃ bm o, mg "__builtins__" = some (.ref bm) /\ base.get? bm = some o /\ bm ≠ builtinsNs /\ bm ≠ mainGlobals /\ o.cls = .type "module" /\ o.dict = some builtinsNs /\ o.data = .plain
structure yA (X : Cx) (c P : Addr) (qn : Str) : Prop where
 code : X.env.code = .ref c
 hd : codeHdIn X.K c P = true
 tab : (P, qn) ∈ bT.T
 one : ∀ q ∈ bT.T, q.1 = P -> q.2 = qn
 qual : X.env.qual ++ ("<lambda>" : Str) = qn
 bm : Bi X.mg X.base
 gP : mainGlobals ≠ P
variable {A : Around} {E : GJ} {params : Arguments} {body : Expr} {scope : Scope} {lpos : Pos} {clos : List (Str × Addr)} {qn : Str}
abbrev zS (f : Addr) (qn : Str) (params : Arguments) (body : Expr) (scope : Scope) (clos : List (Str × Addr)) (pm : Value) (c : Addr) (ctv : Value) : HO := .ext fun h => h.get? f = some (kla_obj "<lambda>" qn params body scope clos pm c ctv)
theorem wD (LC : yA X c P qn) (I : Inv X pins σ H s) (t : TabsOk H) (hdef : defaultsOf params X.env = ([], [])) (hcl : closureFor scope X.env = pure clos) {Q : GJ}
 (h : ∀ f c' pm ctv H' s', Inv X pins σ H' s' -> ao H H' -> H f = none -> H' f = some (zS f qn params body scope clos pm c' ctv) -> H' c' = some (sI c' qn) -> Q (.ref f) s') :
 wpAny (model X.prog X.w) A (eval (.Lambda params body scope lpos) X.env) Q E s := by
 obtain ⟨ps, hP, tr, kq⟩ := t _ LC.tab;dsimp only at hP kq;have hPo : s.heap.get? P = some { cls := .none, data := .fields ps } := I.hok P _ hP;have hg : s.heap.Ns mainGlobals X.mg := I.ok.mod.glob.keeps I.bk;have C : PySem.W.CodeHd s.heap c P := PySem.W.codeHd_of_K I.rJ LC.hd;obtain ⟨bm, ob, b1, b2, b3, b4, b6, b7, b8⟩ := LC.bm;have b5 : bm ≠ P := fun z => by
  have e := I.bk _ _ b2;rw [z, hPo] at e;cases e;cases b6
 have hB : s.heap.BuiltinsAt X.mg P := ⟨bm, ob, b1, b3, b4, b5, I.bk _ _ b2, b6, b7, b8⟩
 refine PySem.W.kla_eval hdef ?_;rw [LC.qual]
 cases hq : codeAmong lpos ps.toList with
 | none =>
  refine PySem.W.kla_makeFunction hcl I.ok.glob hg LC.code C hPo tr hq LC.gP hB fun c' ctv h' tk hx hge hlt hrec htb => ?_;have hle : s.heap.objs.size <= h'.objs.size := Nat.le_trans hge (Nat.le_of_lt hlt);have cf : c' ≠ h'.objs.size := Nat.ne_of_lt hlt;have Hc : H c' = none := I.hok.fresh hge;have Hf : H h'.objs.size = none := I.hok.fresh hle;have Pc : P ≠ c' := aq hP Hc;have Pf : P ≠ h'.objs.size := aq hP Hf;obtain ⟨c2, oc, vs, tq, e2, hoc, hdc⟩ := id hrec;cases e2;have I2 := AY (t' := tk) (u := sI c' qn) (v := zS h'.objs.size qn params body scope clos ((X.mg "__name__").getD .none) c' ctv) (h' := h'.push (kla_obj "<lambda>" qn params body scope clos ((X.mg "__name__").getD .none) c' ctv)) (f := h'.objs.size) I hP
   (fun b o nb e => get?_push_of_some _ (hx b o nb e)) (get?_push_of_some _ htb) hge hle cf
   ⟨hrec.push _, ⟨_, get?_push_of_some _ hoc⟩, fun g1 g2 z k => by
    obtain ⟨c3, o3, vs3, t3, e3, h3, r3⟩ := z;cases e3;exact ⟨c', o3, vs3, t3, rfl, k _ h3, r3⟩⟩
   ⟨get?_push_size _ rfl, ⟨_, get?_push_size _ rfl⟩, fun g1 g2 z k => k _ z⟩
  refine h h'.objs.size c' _ ctv _ _ I2 ⟨fun b o e n => ?_, fun b qs e => ?_, fun t => yd t LC.tab LC.one hP hq Hc Hf cf⟩ Hf ae (by rw [aa cf, ae])
  . have nP : b ≠ P := fun z => by rw [z, hP] at e; cases e; cases n
    rw [aa (aq e Hf), aa (aq e Hc), aa nP]; exact e
  . by_cases z : b = P
    . exact ⟨_, by rw [z, aa Pf, aa Pc, ae]⟩
    . exact ⟨qs, by rw [aa (aq e Hf), aa (aq e Hc), aa z]; exact e⟩
 | some cv =>
  obtain ⟨c', rfl, hc'⟩ := kq lpos cv hq;refine PySem.W.kla_makeFunctionHit hcl I.ok.glob hg LC.code C hPo tr hq hB fun ctv h' tk hk hsz => ?_;have Hf : H h'.objs.size = none := I.hok.fresh hsz;have I2 : Inv X pins σ (upd H h'.objs.size (zS h'.objs.size qn params body scope clos ((X.mg "__name__").getD .none) c' ctv)) { s with heap := h'.push (kla_obj "<lambda>" qn params body scope clos ((X.mg "__name__").getD .none) c' ctv), toks := tk } :=
   I.laid (fun b o e => get?_push_of_some _ (hk b o e)) hsz ⟨get?_push_size _ rfl, ⟨_, get?_push_size _ rfl⟩, fun g1 g2 z k => k _ z⟩
  exact h h'.objs.size c' _ ctv _ _ I2 (aB Hf) Hf ae ((aB Hf).at hc')
end
def kT (X : Cx) (A : Around) (N : GV) (qn : Str) (scope : Scope) (clos : List (Str × Addr)) (f c : Addr) (s : Shared) (H : Hp) (R : Result -> Shared -> Prop) : Cx where
 prog := X.prog
 w := X.w
 K := X.K
 mg := X.mg
 base := X.base
 A := A.deeper (envX qn scope s.heap.objs.size f (.ref c) clos)
 N := N
 s₀ := s
 H₀ := H
 env := envX qn scope s.heap.objs.size f (.ref c) clos
 outer := X.stack
 stack := envX qn scope s.heap.objs.size f (.ref c) clos :: X.stack
 ex := []
 calm := true
 fn := fun _ => false
 pn := []
 xe := fun e s' => wpAny (model X.prog X.w) (A.deeper (envX qn scope s.heap.objs.size f (.ref c) clos)) (leaving (envX qn scope s.heap.objs.size f (.ref c) clos) e) (fun _ s'' => R (.error e) s'') (fun e' s'' => R (.error e') s'') s'
structure xM (X : Cx) (scope : Scope) (clos : List (Str × Addr)) (p : Str) (caps : List (Str × Nat)) : Prop where
 kind : scope.kind = .function
 co : scope.isCoroutine = false
 gen : scope.isGenerator = false
 nocell : ∀ x ∈ scope.names, x.2 ≠ .cell
 par : scope.names.lookup p = some .local
 cap : ∀ q ∈ caps, X.N[q.2]? = some q.1 /\ X.env.kindOf q.1 = some .cell /\ clos.lookup q.1 = X.env.cells.lookup q.1 /\ scope.names.lookup q.1 = some .free
 sub : ∀ x c, clos.lookup x = some c -> X.env.cells.lookup x = some c
 has : ∀ x, scope.names.lookup x = some .free -> ∃ c, clos.lookup x = some c
section
variable {X : Cx} {pins : GR} {σ : St} {H : Hp} {s : Shared} {f c : Addr} {A : Around} {scope : Scope} {clos : List (Str × Addr)} {p qn : Str} {caps : List (Str × Nat)}
theorem pD (I : Inv X pins σ H s) (L : xM X scope clos p caps) (hd : A.handled = none) (e0 : mF X.prog X.w X.K X.mg X.base A X.stack s H) {u : Value} {v : V} (r : RelV v u) {h1 : Heap} {tk : Nat} {R : Result -> Shared -> Prop}
 (hns : h1.Ns s.heap.objs.size fun x => [(p, u)].reverse.lookup x) (hk : ∀ b o, s.heap.get? b = some o -> h1.get? b = some o) :
 Inv (kT X A (p :: caps.map (·.1)) qn scope clos f c s H R) [] ([some v] ++ bK (caps.map (·.2)) σ) H { s with heap := h1, toks := tk } := by
 have noA : ∀ b : Addr, b ∉ (kT X A (p :: caps.map (·.1)) qn scope clos f c s H R).ex := fun b z => absurd (show b ∈ ([] : List Addr) from z) (by simp);refine ⟨⟨e0.mod, L.kind, rfl, rfl, Nat.le_refl _, fun y z c' h1 h2 => ?_, fun y hy => ?_, fun y c' z _ => ?_, fun _ => hd, Around.frames_deeper e0.frames, .inr ⟨rfl, rfl⟩, fun b z => absurd z (noA b), e0.bs, e0.bsz, fun b _ _ => noA b, fun b z => absurd z (noA b), e0.gX, e0.frf⟩,
  rfl, e0.bare, Un.kept hk, ⟨_, hns, fun i y v' h1 h2 h3 => ?_⟩, fun y c' h => ?_, e0.hok.fresh (Nat.le_refl _), fun y c' h => ?_, fun p hp => absurd (show p ∈ ([] : GR) from hp) (by simp), e0.hok.kept hk, ?_⟩
 . exact I.ok.inj y z c' (L.sub y c' h1) (L.sub z c' h2)
 . have hy : scope.names.lookup y = some .cell \/ scope.names.lookup y = some .free := hy;rcases hy with hy | hy
   . exact absurd rfl (L.nocell _ (PySem.mem_of_lookup hy))
   . exact L.has y hy
 . exact absurd (show false = true from z) (by simp)
 . cases i with
   | zero =>
    have e1 : p = y := by simpa [kT] using h1
    have e2 : v = v' := by simpa using h2
    subst e1 e2;exact ⟨u, r, .inl ⟨L.par, by simp⟩⟩
   | succ i =>
    have e1 : (caps.map (·.1))[i]? = some y := by simpa [kT] using h1
    have e2 : (bK (caps.map (·.2)) σ)[i]? = some (some v') := by simpa using h2
    rw [getElem?_map] at e1
    cases eq : caps[i]? with
    | none => rw [eq] at e1; cases e1
    | some q =>
     rw [eq] at e1;have e3 : q.1 = y := by simpa using e1
     subst e3;obtain ⟨c1, c2, c3, c4⟩ := L.cap q (mem_of_getElem? eq);unfold bK at e2;rw [getElem?_map, getElem?_map, eq] at e2;have e4 : (σ[q.2]?).join = some v' := by simpa using e2
     have e5 : σ[q.2]? = some (some v') := by
      cases z : σ[q.2]? with
      | none => rw [z] at e4; cases e4
      | some w => rw [z] at e4; exact congrArg some e4
     obtain ⟨m0, hn0, hl0⟩ := I.loc;obtain ⟨u', r', lk⟩ := hl0 q.2 q.1 v' c1 e5 (.inr (.inl c2));refine ⟨u', r', .inr ⟨.inr c4, ?_⟩⟩;rcases lk with ⟨k1, _⟩ | ⟨_, c', lc, o, ho, hdo⟩
     . rw [c2] at k1; cases k1
     . exact ⟨c', c3.trans lc, o, hk _ _ ho, hdo⟩
 . obtain ⟨v, o, ho, hd⟩ := I.cell y c' (L.sub y c' h);exact ⟨v, o, hk _ _ ho, hd⟩
 . exact I.freeC y c' (L.sub y c' h)
 . simp [bK, kT]
def Bj (K : Frag) (σ : St) (ρ : List (Option D)) (f c : Addr) (qn : Str) (params : Arguments) (body : Expr) (scope : Scope) (clos : List (Str × Addr)) (pm ctv : Value) (H : Hp) (Z : ax) : Prop :=
 H f = some (zS f qn params body scope clos pm c ctv) /\ H c = some (sI c qn) /\ cy K H Z σ ρ
variable {ρ : List (Option D)} {params : Arguments} {body : Expr} {pm ctv : Value} {g : D -> D} {P0 : D -> Prop} {m : Bool}
theorem xA (L : xM X scope clos p caps) (hd : A.handled = none) (hA : A.frames = X.A.frames) (hroom : A.depth < recursionLimit)
 (hb : ∀ u, bindArgs (PySem.W.kla_fn "<lambda>" qn params body scope clos pm (.ref c) ctv) ⟨[u], []⟩ = pure [(p, u)])
 (hbody : ∀ (s : Shared) (H : Hp) (R : Result -> Shared -> Prop) (d : D), P0 d -> E (kT X A (p :: caps.map (·.1)) qn scope clos f c s H R) m ([some d] ++ fm (caps.map (·.2)) ρ) body (g d)) :
 C0 X A σ f g P0 (Bj X.K σ ρ f c qn params body scope clos pm ctv) where
 zone := fun {H Z Z'} hS hm ⟨a, b, en⟩ => ⟨a, b, fun i d e => let ⟨v, x, y⟩ := en i d e; ⟨v, x, y.carry (.of (ao.refl H) (fun a xs e z => hS a _ e z) hm)⟩⟩
 same := fun {H H' Z} sm ⟨a, b, en⟩ => ⟨sm.at a, sm.at b, en.same sm⟩
 write := fun {H Z l xs ys} hl n ⟨a, b, en⟩ => ⟨by rw [aa (dF a hl (by intro z; cases z))]; exact a, by rw [aa (dF b hl (by intro z; cases z))]; exact b, fun i d e => let ⟨v, x, y⟩ := en i d e; ⟨v, x, y.carry (.write hl n)⟩⟩
 run := fun E' pins s H Z u d Q I oz ⟨ga, gb, en⟩ ⟨v, r, iv⟩ p0 k => by
  have hfo : s.heap.get? f = some (kla_obj "<lambda>" qn params body scope clos pm c ctv) := (I.hok f _ ga).1;have hrec : s.heap.CodeRec (.ref c) qn := (I.hok c _ gb).1;have e0 : mF X.prog X.w X.K X.mg X.base A X.stack s H := ⟨hA.trans I.mH.frames, I.mH.mod, I.mH.bs, I.mH.bsz, I.mH.gX, I.mH.frf, I.mH.hok, I.mH.bare⟩
  refine wpAny_call (PySem.W.kla_callFunE hroom hfo rfl L.co L.gen rfl hrec ?_);rw [hb u];refine wpAny_pure (wpAny_newFunctionEnv L.nocell (fun x hx => ?_) (fun h1 hns hsb => ⟨I.nolimit.fresh _ hsb, ?_⟩) L.kind)
  . have : x = (p, u) := by simpa using hx
    rw [this]; exact L.par
  . show codeAny _ _ (.expr body (envX qn scope s.heap.objs.size f (.ref c) clos)) _ _;have hk1 : ∀ b o, s.heap.get? b = some o -> h1.get? b = some o := fun b o e => hsb.extBut b o (Nat.ne_of_lt (lt_size e)) (get?_push_of_some _ e);refine PySem.W.kla_codeExpr ?_;have J := pD (f := f) (c := c) (qn := qn) (R := fun r s' => match r with | .ok (.ret v) => Q v s' | .ok _ => False | .error e => E' e s') (tk := s.toks + 1) I L hd e0 r hns hk1;have en2 : cy X.K H Z ([some v] ++ bK (caps.map (·.2)) σ) ([some d] ++ fm (caps.map (·.2)) ρ) := gQ en rfl fun i d' e => by
     match i, e with
     | 0, e => cases e; exact ⟨v, rfl, iv⟩
    have run := hbody s H (fun r s' => match r with | .ok (.ret v) => Q v s' | .ok _ => False | .error e => E' e s') d p0 [] _ _ H (fun v' H' => ao H H' /\ In X.K H' (out m Z H) (g d) v') J ⟨Z, oz, en2, fun v' H' sm i => ⟨sm, i⟩⟩;refine wpAny_mono run (fun w s' ⟨v', H', J', rw', sm, iw⟩ => ?_) fun _ _ z => z;obtain ⟨v2, H2, I2, r2, sm2, iw2⟩ := I.after (Q := fun v' H' => ao H H' /\ In X.K H' (out m Z H) (g d) v') (u := w) (s' := s') ⟨v', H', J'.os, J'.bare, J'.base, J'.hok, rw', sm, iw⟩;exact k w H2 s' I2 sm2 ⟨v2, r2, iw2.plain oz⟩
end
theorem n5 (a f : Value) : argsOk "sorted" ⟨[a], [(("key" : Str), f)]⟩ := by unfold argsOk; kernel_rfl
theorem rP (a f : Value) : argsOk "list.sort" ⟨[a], [(("key" : Str), f)]⟩ := by unfold argsOk; kernel_rfl
section
variable {X : Cx} {ρ : List (Option D)} {m m1 mb : Bool} {a : Expr} {ds : List D} {p pos lpos kp : Pos} {P P0 : D -> Prop} {kd : SortKind} {c Pt : Addr} {qn pn : Str} {params : Arguments} {body : Expr} {scope : Scope} {clos : List (Str × Addr)} {caps : List (Str × Nat)} {g : D -> D}
theorem nJ (ha : E X m1 ρ a (.lst ds)) (LC : yA X c Pt qn) (LO : xM X scope clos pn caps) (hcl : closureFor scope X.env = pure clos)
 (hbody : ∀ (f c' : Addr) (s : Shared) (H : Hp) (R : Result -> Shared -> Prop) (d : D), P0 d -> E (kT X X.A.in1.in1 (pn :: caps.map (·.1)) qn scope clos f c' s H R) mb ([some d] ++ fm (caps.map (·.2)) ρ) body (g d))
 (hb : ∀ (c' : Addr) (pm ctv u : Value), bindArgs (PySem.W.kla_fn "<lambda>" qn params body scope clos pm (.ref c') ctv) ⟨[u], []⟩ = pure [(pn, u)])
 (L : gs P) (kk : di P kd) (hP : ∀ d ∈ ds, P0 d /\ P (g d) /\ X.A.units + 2 + (g d).dep < cLine) (inj : ∀ x ∈ ds, ∀ y ∈ ds, g x = g y -> x = y) (h64 : ds.length < 64) (hh : X.A.handled = none) (hroom : X.A.depth < recursionLimit) (hm : X.mg "sorted" = none)
 (hmm : m = true -> m1 = true \/ aV ds = true := by intro h; first | exact .inl h | cases h) (hdef : defaultsOf params X.env = ([], []) := by rfl)
 (hg : Gl X "sorted" := by rfl) (hs : starEach [a] X.env = [(false, eval a X.env)] := by rfl) : E X m ρ (.Call (.Name "sorted" p) [a] [⟨some "key", .Lambda params body scope lpos, kp⟩] pos) (.lst (jb g ds)) := by
 intro pins s σ H Q I ⟨Z, oz, en, k⟩;refine wpAny_Call_Name_kw (iX I hg hm boot_sorted ?_ (by decide) (by decide));have PAa := aJ ha bc (by rw [hs]; rfl);refine callWith_kw (cg (PAa pos pins s σ H (fun vs H1 => ao H H1 /\ ∃ x, vs = [x] /\ In X.K H1 (out m1 Z H) (.lst ds) x) I ⟨Z, oz, en, fun x H1 s1 i1 => ⟨s1, x, rfl, i1⟩⟩) fun us s1 ⟨vs, H1, I1, r1, sm1, x, e, i1⟩ => ?_) (by rw [hs]; rfl) (by rw [hs]; rfl) rfl rfl;subst e;obtain ⟨l, xs, rfl, at', j⟩ := ah.mp i1;obtain ⟨u, rfl, rx⟩ := vals1 r1;cases rx;refine kws_cons (wD LC I1 (sm1.tabs oz.tb) hdef hcl fun f c' pm ctv H2 s2 I2 sm2 Hf hf hc' => ?_);refine kws_nil ?_;show wpAny _ _ (call (.builtin "sorted") [.ref l] [(("key" : Str), .ref f)]) _ _ _;have sm12 := sm1.trans sm2;obtain ⟨its, rv, pl, hz⟩ := I2.list (sm2.seq at'.sq);have z1 := j.length; have z2 := rv.length;refine call_function_entry_kw kind_sorted plain_sorted entry_sorted (n5 _ _) ?_;unfold Builtin.«sorted»;refine wpAny_bind (m := checkCount "sorted" 1 1 _) (wpAny_pure ?_);refine wpAny_bind (collect_list pl.isList ?_ (by omega));refine wpAny_bind (wpAny_newList ?_);have hsz : ((s2.heap.push (seqObj "list" #[] 0)).update s2.heap.objs.size (Obj.mapSeq (· ++ its.toArray))).objs.size = s2.heap.objs.size + 1 := by
  rw [Heap.size_update, size_push']
 have hoL : (((s2.heap.push (seqObj "list" #[] 0)).update s2.heap.objs.size (Obj.mapSeq (· ++ its.toArray))).push (seqObj "list" its.toArray 0)).get? (s2.heap.objs.size + 1) = some (seqObj "list" its.toArray 0) := by
  rw [<- hsz]; exact get?_push_size _ rfl
 have kp : ∀ b o, s2.heap.get? b = some o -> (((s2.heap.push (seqObj "list" #[] 0)).update s2.heap.objs.size (Obj.mapSeq (· ++ its.toArray))).push (seqObj "list" its.toArray 0)).get? b = some o := fun b o e => by
  have lb := lt_size e;rw [Heap.get?_push_ne _ _ _ (by rw [hsz]; exact Nat.ne_of_lt (Nat.lt_succ_of_lt lb)), Heap.get?_update_ne _ _ _ _ (Nat.ne_of_lt lb), Heap.get?_push_ne _ _ _ (Nat.ne_of_lt lb)];exact e
 show wpAny _ _ _ _ _ { s2 with heap := ((s2.heap.push (seqObj "list" #[] 0)).update s2.heap.objs.size (Obj.mapSeq (· ++ its.toArray))).push (seqObj "list" its.toArray 0), toks := s2.toks };rw [hsz];have KK : C0 X X.A.in1.in1 σ f g P0 (Bj X.K σ ρ f c' qn params body scope clos pm ctv) := xA LO hh rfl hroom (hb c' pm ctv) (hbody f c');have jz : aC X.K H2 Z ds xs := by
  have j2 := j.same sm2;cases m1
  . exact j2
  . exact j2.up oz
 refine wpAny_bind (wpAny_holding (wpAny_call_entry_kw slot_list_sort ⟨_, hoL, rfl⟩ entry_list_sort (yB (s := s2) (t1 := s2.toks) KK L kk (fun d hd => hP d hd) inj I2 (oz.same sm12) ⟨hf, hc', en.same sm12⟩ jz rv (by omega) kp (Nat.le_succ _) hoL fun H3 s3 prs I3 sm3 Ha hl3 pp e3 => ⟨_, rfl, ?_⟩) (rP _ _)));refine wpAny_pure ⟨_, rfl, .ref (s2.heap.objs.size + 1), H3, I3, rfl, k _ H3 (sm12.trans sm3) (ah.mpr ⟨_, _, rfl, .inl ⟨hl3, ?_⟩, ?_⟩)⟩
 . cases m
   . exact oz.op _ (sm12.free Ha)
   . exact sm12.free Ha
 . have j0 := g5 fun z hz => n8 j z (pp.mem_iff.mp hz);rw [e3] at j0;have jc := (j0.same sm2).same sm3;cases m
   . cases m1
     . exact jc
     . exact jc.up oz
   . rcases hmm rfl with h | h
     . subst h; exact jc
     . exact jc.cT (rQ (eZ _ _) h)
end
end Y
namespace Y
open PySem PySem.Spec PyProof.Rows L2
variable [bT]
section
variable {K : Frag} {H : Hp} {Z Z' : ax}
theorem lr {k : Key} {v : V} (h : In K H Z (kD k) v) : v = kV k := by
 cases k with
 | inl i => exact av.mp h
 | inr x => exact in_str.mp h
theorem rL : ∀ {ks : List Key} {vs : List V}, aC K H Z (ks.map kD) vs -> vs = ks.map kV
 | [], _, h => ay.mp h
 | k :: ks, _, h => by
  obtain ⟨v, r, rfl, a, j⟩ := ag.mp h;rw [lr a, rL j]; rfl
end
section
variable {X : Cx} {ρ : List (Option D)} {m m1 m2 m3 : Bool} {a b c o e f : Expr} {d dk : D} {pos ap cp : Pos} {D0 : DO} {r : Option V}
theorem tZ : E X true ρ (.Dict [] [] pos) (.dct (.k [])) := PE.mono y8 fun σ H Q z0 => aU z0 fun Z oz en k => fun p hp => k (.ref p) _ (aB hp) (aZ.mpr ⟨p, rfl, ae, hp⟩)
end
end Y
namespace Y
def bl (x : Nat) : Nat := if x = 0 then 0 else x.log2 + 1
end Y
namespace Y
open PySem PySem.Spec PyProof.Rows L2
variable [bT]
def rG {α : Type} (z : α) (p : D -> D -> α) : D -> α
 | .tup [a, b] => p a b
 | _ => z
section
variable {X : Cx} {ρ : List (Option D)} {m m1 : Bool} {ds : List D} {pos : Pos}
def DG (K : Frag) (js : GX) (ρ : List (Option D)) (ds : List D) (p : D -> D -> Bool) (i : Nat) : TT := fun σ H Q => ∃ a b, ds[i]? = some (.tup [a, b]) /\ wz K ([some a, some b] ++ fm js ρ) (p a b) σ H Q
def DI (K : Frag) (js : GX) (ρ : List (Option D)) (ds : List D) (p : D -> D -> Bool) (f : D -> D -> D) (me : Bool) (i : Nat) : TE := fun σ H Q => ∃ a b, ds[i]? = some (.tup [a, b]) /\ p a b = true /\ tE K me ([some a, some b] ++ fm js ρ) (f a b) σ H Q
theorem jE {js : GX} {me : Bool} (p : D -> D -> Bool) (f : D -> D -> D) (hpair : ∀ d ∈ ds, ∃ a b, d = .tup [a, b]) (hz : ds.length <= sizeLine) (hm : m = true -> me = true \/ ∀ d ∈ ds, (rG .non f d).flat = true) (σ : St) (H : Hp) (Q : VK) (h : tE X.K m ρ (.lst ((ds.filter (rG false p)).map (rG .non f))) σ H Q) :
 t8 (Fh X.K m1 ρ ds) 2 js (Ai X.K 2 (lI (eE 0) (lI (eE 1) AQ))) (DG X.K js ρ ds p) (DI X.K js ρ ds p f me) σ H Q := by
 obtain ⟨Z, oz, en, k⟩ := h;refine ⟨Z, oz, en, fun J H1 vs cG s1 i1 Y l hl => ?_⟩;have hlH : H l = none := s1.free hl;have noL : ∀ {ds : List D} {vs : List V} {Z' : ax} {Ha Hb : Hp}, Ha l = none -> ao Ha Hb -> aC X.K Ha Z' ds vs -> aC X.K Hb ⟨Z'.m, fun a => Z'.S a /\ a ≠ l⟩ ds vs := fun {ds vs Z' Ha Hb} ha sa h => aC.carry (Z' := ⟨Z'.m, fun a => Z'.S a /\ a ≠ l⟩) (Carry.of sa (fun a zs e z => ⟨z, aq e ha⟩) fun m => m) h;have noL1 : ∀ {d : D} {v : V} {Z' : ax} {Ha Hb : Hp}, Ha l = none -> ao Ha Hb -> In X.K Ha Z' d v -> In X.K Hb ⟨Z'.m, fun a => Z'.S a /\ a ≠ l⟩ d v := fun {d v Z' Ha Hb} ha sa h => In.carry (Z' := ⟨Z'.m, fun a => Z'.S a /\ a ≠ l⟩) (Carry.of sa (fun a zs e z => ⟨z, aq e ha⟩) fun m => m) h;refine ⟨fun i n xs H' => n = ds.length - i /\ i <= ds.length /\ ao H1 H' /\ H' l = some (.lst xs) /\ xs.length <= i /\ aC X.K H' ⟨(out m Z H).m, fun a => (out m Z H).S a /\ a ≠ l⟩ (((ds.take i).filter (rG false p)).map (rG .non f)) xs, ⟨ds.length, by simp, Nat.zero_le _, aB hl, ae, Nat.zero_le _, by simp; exact ay.mpr rfl⟩, ?_⟩;rintro i n xs H' ow how ⟨rfl, hi', s1', hl', hxi, jx⟩;refine ⟨hl', ?_⟩;have srcsZ : aC X.K H1 Z cG vs := by
  cases m1
  . exact i1
  . exact i1.up oz
 let Zl : ax := ⟨Z.m, fun a => Z.S a /\ a ≠ l⟩
 have opl : ∀ {Ha : Hp} {o : HO}, ao H Ha -> Ha l = some o -> Zl.Open Ha := fun sa e => ⟨fun a ha => ⟨oz.op a (sa.free ha), by rintro rfl; rw [e] at ha; cases ha⟩, sa.tabs oz.tb⟩
 by_cases hlt : i < ds.length
 . have hd0 : ds[i]? = some ds[i] := by simp [hlt]
   obtain ⟨da, db, hab⟩ := hpair ds[i] (getElem_mem hlt);have hd : ds[i]? = some (.tup [da, db]) := by rw [hd0, hab]
   obtain ⟨go, yl⟩ := Y.go Zl H' (opl (s1.trans s1') hl') (noL hl s1' srcsZ) i _ hd;refine .inr ⟨go, fun y H2 hy => ?_⟩;obtain ⟨s2, iy⟩ := yl y H2 hy;have hl2 : H2 l = some (.lst xs) := s2.at hl';have sH2 : ao H H2 := (s1.trans s1').trans s2;obtain ⟨w1, w2, rfl⟩ : ∃ w1 w2, ow = [w1, w2] := by
    match ow, how with
    | [w1, w2], _ => exact ⟨w1, w2, rfl⟩
   obtain ⟨ta, txs, rfl, tt, tj⟩ := aK iy;obtain ⟨v1, r1, rfl, iv1, tj1⟩ := ag.mp tj;obtain ⟨v2, r2, rfl, iv2, tj2⟩ := ag.mp tj1;cases ay.mp tj2;have en2 : cy X.K H2 Zl ([some v1, some v2] ++ bK js σ) ([some da, some db] ++ fm js ρ) := gQ (fun i d e => let ⟨v, a, b⟩ := en i d e; ⟨v, a, e9.carry (Z' := Zl) (Carry.of sH2 (fun a zs e z => ⟨z, aq e hlH⟩) fun m => m) b⟩) rfl fun i d e => by
    match i, e with
    | 0, e => cases e; exact ⟨v1, rfl, iv1⟩
    | 1, e => cases e; exact ⟨v2, rfl, iv2⟩
   refine ⟨ta, _, rfl, tt, rfl, v1, _, rfl, v2, _, rfl, rfl, ⟨[some v1, some v2], rfl, rfl⟩, da, db, hd, Zl, opl sH2 hl2, en2, fun H3 s3 => ?_⟩;have hl3 : H3 l = some (.lst xs) := s3.at hl2;have st : (ds.take (i + 1)).filter (rG false p) = (ds.take i).filter (rG false p) ++ (if p da db then [D.tup [da, db]] else []) := take_succ_filter (rG false p) ds i _ hd
   cases hp : p da db with
   | false =>
    refine mG ?_;refine ⟨ds.length - (i + 1), by omega, rfl, hlt, (s1'.trans s2).trans s3, hl3, by omega, ?_⟩;rw [st, hp];simp only [Bool.false_eq_true, if_false, append_nil];exact jx.same (s2.trans s3)
   | true =>
    refine qT ?_;refine ⟨da, db, hd, hp, Zl, opl (sH2.trans s3) hl3, en2.same s3, fun v H4 s4 iv => ?_⟩;have hl4 : H4 l = some (.lst xs) := s4.at hl3;refine ⟨hl4, by omega, ds.length - (i + 1), by omega, rfl, hlt, ((s1'.trans s2).trans (s3.trans s4)).write hl hl4, ae, by rw [List.length_append]; simp; omega, ?_⟩
    . rw [st, hp];simp only [if_true, map_append, map_cons, map_nil];have n : ¬ (⟨(out m Z H).m, fun a => (out m Z H).S a /\ a ≠ l⟩ : ax).S l := fun z => z.2 rfl;refine aC.append ((jx.same (s2.trans (s3.trans s4))).carry (.write hl4 n)) (aC.one ?_);refine In.carry (.write hl4 n) ?_;show In X.K H4 _ (f da db) v
      cases m with
      | false => exact iv.plain (opl (sH2.trans s3) hl3)
      | true =>
       rcases hm rfl with h | h
       . subst h;exact In.carry (Z := nw H3) (Z' := ⟨true, fun a => H a = none /\ a ≠ l⟩) ⟨fun a zs e z => ⟨e, (sH2.trans s3).free z, by rintro rfl; have z : H3 a = none := z; rw [hl3] at z; cases z⟩, fun m => AN m, fun _ _ e => e⟩ iv
       . have := h _ (mem_of_getElem? hd);exact iv.cT this
 . have e : i = ds.length := by omega
   subst e;refine .inl ⟨Y.stop Zl H' (opl (s1.trans s1') hl') (noL hl s1' srcsZ), k (.ref l) H' (s1.trans s1') (ah.mpr ⟨l, xs, rfl, .inl ⟨hl', ?_⟩, ?_⟩)⟩
   . cases m
     . exact oz l hlH
     . exact hlH
   . rw [take_length] at jx;exact aC.carry (Z := ⟨(out m Z H).m, fun a => (out m Z H).S a /\ a ≠ l⟩) (Z' := out m Z H) (Carry.of (ao.refl H') (fun a zs e z => And.left z) fun m => m) jx
theorem y3 {elt iter : Expr} {x y : Str} {px py pt : Pos} {kt : Nat} {ifs : List Expr} {scope : Scope} {me : Bool} (caps : GV) (js : GX) (p : D -> D -> Bool) (f : D -> D -> D) (hi : IT X (.Tuple [.Name x px, .Name y py] kt pt) m1 ρ iter ds)
 (hpair : ∀ d ∈ ds, ∃ a b, d = .tup [a, b])
 (ht : ∀ C s H fp a b, D.tup [a, b] ∈ ds -> Eg (fb X ([x, y] ++ caps) scope C s H fp) ([some a, some b] ++ fm js ρ) ifs (p a b)) (he : ∀ C s H fp a b, D.tup [a, b] ∈ ds -> p a b = true -> E (fb X ([x, y] ++ caps) scope C s H fp) me ([some a, some b] ++ fm js ρ) elt (f a b))
 (hz : ds.length <= sizeLine) (hm : m = true -> me = true \/ ∀ d ∈ ds, (rG .non f d).flat = true := by intro h; first | exact .inl h | cases h) (hc : X.calm = true := by rfl)
 (B : bZ X scope [x, y] caps js := by exact ⟨rfl, by decide, by decide, by decide, by decide, by decide, by repeat (first | exact trivial | refine ⟨⟨rfl, by first | exact .inl rfl | exact .inr rfl⟩, ?_⟩), by decide⟩)
 (hs : ∀ x, foldedSetIterable iter X.env x = pure x := by intro _; rfl) (hes : ∀ env : Env, (assignEach [.Name x px, .Name y py] env).map (·.2) = [assign (.Name x px) env, assign (.Name y py) env] := by intro _; rfl) (hes2 : ∀ env : Env, (assignEach [.Name y py] env).map (·.2) = [assign (.Name y py) env] := by intro _; rfl)
 (hen : ∀ env : Env, (assignEach [.Name x px, .Name y py] env).length = 2 := by intro _; rfl) (hst : ∀ env : Env, (assignEach [.Name x px, .Name y py] env).findIdx? (·.1) = none := by intro _; rfl) : EC X m ρ (.ListComp elt [⟨.Tuple [.Name x px, .Name y py] kt pt, iter, ifs, 0⟩] scope pos) (.lst ((ds.filter (rG false p)).map (rG .non f))) := by
 have hg1 : ∀ C s H fp, PG (fb X ([x, y] ++ caps) scope C s H fp) (.Name x px) (eE 0) := fun C s H fp => fj (i := 0) B.nd rfl (.inl (lookup_relabel_local (B.own x (by simp)))) (.inr (lookup_relabel_local (B.own x (by simp))));have hg2 : ∀ C s H fp, PG (fb X ([x, y] ++ caps) scope C s H fp) (.Name y py) (eE 1) := fun C s H fp => fj (i := 1) B.nd rfl (.inl (lookup_relabel_local (B.own y (by simp)))) (.inr (lookup_relabel_local (B.own y (by simp))));have hg : ∀ C s H fp, PG (fb X ([x, y] ++ caps) scope C s H fp) (.Tuple [.Name x px, .Name y py] kt pt) (Ai X.K 2 (lI (eE 0) (lI (eE 1) AQ))) := fun C s H fp =>
  xw (X := fb X ([x, y] ++ caps) scope C s H fp) hc (iK (hg1 C s H fp) (iK (hg2 C s H fp) uA (by rw [hes2]; rfl)) (by rw [hes, hes2])) (hen _) (hst _)
 have ht' : ∀ C s H fp i, Bt (fb X ([x, y] ++ caps) scope C s H fp) ifs (DG X.K js ρ ds p i) := fun C s H fp i pins s' σ H' Q I h => by
  obtain ⟨a, b, hd, h⟩ := h;exact ht C s H fp a b (mem_of_getElem? hd) pins s' σ H' Q I h
 have he' : ∀ C s H fp i, PE (fb X ([x, y] ++ caps) scope C s H fp) elt (DI X.K js ρ ds p f me i) := fun C s H fp i pins s' σ H' Q I h => by
  obtain ⟨a, b, hd, hp, h⟩ := h;exact he C s H fp a b (mem_of_getElem? hd) hp pins s' σ H' Q I h
 refine ⟨PE.mono (t9 (own := [x, y]) (caps := caps) hc B hi hg ht' he' hs) fun σ H Q h => jE p f hpair hz hm σ H Q h, fun y' k spos py' hN hk hy hsw hf => ?_⟩;exact PS.By (tK (own := [x, y]) (caps := caps) hN hk hy hc B hi hg ht' he' hsw hf hs) fun Q σ H h => jE p f hpair hz hm σ H _ h
end
inductive Pt where
 | word (w : Str)
 | beg (w : Str)
 | fin (w : Str)
 | any
 | upto (n : Nat)
 | iR (q : List (List Pt))
def CC (ways Bu : Int) (ws : GV) (c : Int) : Pt :=
 if part c 30 ways = 0 then .any else if part c 30 ways = 1 then .upto (part c 31 Bu).toNat else
  let z := ws.getD (part c 32 4).toNat ""
  let n := 1 + part c 33 z.length
  if part c 30 ways = 2 then .beg (Txt.slice z none (some n)) else if part c 30 ways = 3 then .fin (Txt.slice z (some ((z.length : Int) - n)) none) else .word z
abbrev pp (ws : GV) (c : Int) : Pt := CC 6 4 ws c
end Y
namespace L2
open PySem PySem.Spec PyProof.Rows
end L2
namespace Y
open PySem PySem.Spec PyProof.Rows L2
variable [bT]
def behind (f g : List GZ) : List GZ := f.flatMap fun s => (g.filter fun t => decide (t.1 = s.2)).map fun t => (s.1, t.2)
end Y
namespace Y
open PySem PySem.Spec PyProof.Rows L2
open AutoSeq1 in
theorem xG (it d : Addr) (es : Array DictEntry) (i ep : Nat) (dd de : GQ) (sl sm : GL) (hi : i < es.size) :
 Meets (Builtin.«dict_keyiterator.__next__» ⟨[.ref it], []⟩) (fun _ R s => s.heap.get? it = some ⟨.type "dict_keyiterator", dd, .fields #[.ref d, .int i 0, .int es.size 0, .int ep 0], sl⟩ /\ s.heap.get? d = some ⟨.type "dict", de, .dict es ep, sm⟩ /\
  R (.ok (.ret es[i].key)) { s with heap := s.heap.update it (Obj.mapFields (·.setIfInBounds 1 (rawInt ((i : Int) + 1)))) }) :=
 .of_wp fun prog w A R s h => by
  obtain ⟨hp, g, dm, tk, os⟩ := s;obtain ⟨hl, hb, h⟩ := h;wp_walk using wpAny_loadPart' hl, wpAny_loadPart' hb;have at_i : (if (i : Int) < 0 then none else es[(i : Int).toNat]?) = some es[i] := by
   rw [if_neg (Int.not_lt.mpr (Int.natCast_nonneg i)), Int.toNat_natCast, Array.getElem?_eq_getElem hi]
  rw [at_i];have one : Builtin.Dict_items.ownsTuple ((Manifest.find? "dict_keyiterator").elim "dict_keyiterator" fun x => x.tpName) = false := by kernel_rfl
  have new := Heap.get?_update_self (Obj.mapFields (·.setIfInBounds 1 (rawInt ((i : Int) + 1)))) hl rfl;wp_walk using wpAny_loadPart' hl;simp only [one];wp_walk using wpAny_setField hl rfl (by decide), wpAny_loadPart' new;exact ⟨_, rfl, h⟩
open AutoSeq1 in
theorem Ad (it d : Addr) (es : Array DictEntry) (i ep : Nat) (dd de : GQ) (sl sm : GL) (hi : es.size <= i) :
 Meets (Builtin.«dict_keyiterator.__next__» ⟨[.ref it], []⟩) (fun A R s => A.handled = none /\ s.heap.get? it = some ⟨.type "dict_keyiterator", dd, .fields #[.ref d, .int i 0, .int es.size 0, .int ep 0], sl⟩ /\ s.heap.get? d = some ⟨.type "dict", de, .dict es ep, sm⟩ /\
  ∀ h' e, Heap.ExtBut it s.heap h' -> (∃ o, h'.get? e = some o /\ o.cls = .type "StopIteration") -> R (.error (.ref e)) { s with heap := h' }) :=
 .of_wp fun prog w A R s h => by
  obtain ⟨hp, g, dm, tk, os⟩ := s;obtain ⟨hh, hl, hb, h⟩ := h;wp_walk using wpAny_loadPart' hl, wpAny_loadPart' hb;have at_i : (if (i : Int) < 0 then none else es[(i : Int).toNat]?) = none := by
   rw [if_neg (Int.not_lt.mpr (Int.natCast_nonneg i)), Int.toNat_natCast, Array.getElem?_eq_none hi]
  have one : Builtin.Dict_items.ownsTuple ((Manifest.find? "dict_keyiterator").elim "dict_keyiterator" fun x => x.tpName) = false := by kernel_rfl
  rw [at_i];wp_walk using wpAny_loadPart' hl, wpAny_setField hl rfl
  . rw [one]; exact Nat.zero_lt_succ _
  unfold newExc newTuple raiseNew;have hh1 : A.in1.handled = none := hh;wp_walk using wpAny_newObj_type
  . exact h _ _ (((Heap.SameBut.update ..).extBut.push _).push _) ⟨_, get?_push_size _ rfl, rfl⟩
  all_goals size_fits
open AutoSeq1 in
theorem xR (d : Addr) (es : Array DictEntry) (ep : Nat) (de : GQ) (sm : GL) (hn : (d == sysModules) = false) :
 Meets (Builtin.«dict.__iter__» ⟨[.ref d], []⟩) (fun A R s => s.heap.get? d = some ⟨.type "dict", de, .dict es ep, sm⟩ /\
  R (.ok (.ret (.ref s.heap.objs.size))) { s with heap := s.heap.push { cls := .type "dict_keyiterator", data := .fields #[.ref d, .int 0 0, .int es.size 0, .int ep 0] } }) :=
 .of_wp fun prog w A R s h => by
  obtain ⟨hp, g, dm, tk, os⟩ := s;obtain ⟨hl, h⟩ := h;wp_walk using wpAny_loadPart' hl;exact ⟨_, rfl, h⟩
section
variable {prog : Program} {w : World} {A : Around} {E : GJ} {s : Shared} {it d : Addr} {i ep : Nat} {es : Array DictEntry} {sm : GL}
theorem m7 {Q : GJ} (hn : (d == sysModules) = false) (ho : s.heap.get? d = some ⟨.type "dict", none, .dict es ep, sm⟩)
 (q : Q (.ref s.heap.objs.size) { s with heap := s.heap.push { cls := .type "dict_keyiterator", data := .fields #[.ref d, .int 0 0, .int es.size 0, .int ep 0] } }) : wpAny (model prog w) A (pyIter (.ref d)) Q E s :=
 have t : s.TypeIs (.ref d) "dict" := ⟨_, ho, rfl⟩
 wpAny_pyIter_slot t F.slot_dict_iter (call_meets F.slot_dict_iter t F.entry_dict_iter (F.args_dict_iter_1 _) (xR d es ep none sm hn) ⟨ho, "dict_keyiterator", _, ⟨_, get?_push_size _ rfl, rfl⟩, F.slot_dict_keyiterator_next.lookup, q⟩)
theorem nG {Q : Option Value -> Shared -> Prop} (st : s.heap.IsKeyIter it d i es.size ep) (ho : s.heap.get? d = some ⟨.type "dict", none, .dict es ep, sm⟩) (hi : i < es.size)
 (q : ∀ h', h'.IsKeyIter it d (i + 1) es.size ep -> Heap.SameBut it s.heap h' -> Q (some es[i].key) { s with heap := h' }) : wpAny (model prog w) A (pyNext (.ref it)) Q E s := by
 have T := st.typeIs;obtain ⟨⟨c, dd, dt, sl⟩, hl, hc, hd⟩ := st;obtain rfl : c = _ := hc;obtain rfl : dt = _ := hd;have run := call_meets (E := fun _ _ => False) (Q := fun v s' => v = es[i].key /\ ∃ h', h'.IsKeyIter it d (i + 1) es.size ep /\ Heap.SameBut it s.heap h' /\ s' = { s with heap := h' }) (prog := prog) (w := w) (A := A) F.slot_dict_keyiterator_next T F.entry_dict_keyiterator_next (F.args_dict_keyiterator_next_1 _) (xG it d es i ep dd none sl sm hi)
  ⟨hl, ho, rfl, _, ⟨_, Heap.get?_update_self _ hl rfl, rfl, by simp [Obj.mapFields, rawInt]⟩, Heap.SameBut.update .., rfl⟩
 unfold pyNext;exact wpAny_bind (wpAny_attempt (wpAny_callSpecial?_slot T F.slot_dict_keyiterator_next (wpAny_mono run (fun v s' ⟨e, h', k1, k2, e'⟩ => by subst e e'; exact wpAny_pure (q h' k1 k2)) fun _ _ f => f.elim)))
theorem qX {Q : Option Value -> Shared -> Prop} (hh : A.handled = none) (st : s.heap.IsKeyIter it d i es.size ep) (ho : s.heap.get? d = some ⟨.type "dict", none, .dict es ep, sm⟩) (hi : es.size <= i)
 (q : ∀ h', Heap.ExtBut it s.heap h' -> Q none { s with heap := h' }) : wpAny (model prog w) A (pyNext (.ref it)) Q E s := by
 have T := st.typeIs;obtain ⟨⟨c, dd, dt, sl⟩, hl, hc, hd⟩ := st;obtain rfl : c = _ := hc;obtain rfl : dt = _ := hd;have run := call_meets (Q := fun _ _ => False) (E := fun x s' => ∃ h' e, x = .ref e /\ Heap.ExtBut it s.heap h' /\ (∃ o, h'.get? e = some o /\ o.cls = .type "StopIteration") /\ s' = { s with heap := h' }) (prog := prog) (w := w) (A := A) F.slot_dict_keyiterator_next T F.entry_dict_keyiterator_next (F.args_dict_keyiterator_next_1 _) (Ad it d es i ep dd none sl sm hi)
  ⟨hh, hl, ho, fun h' e k1 k2 => ⟨h', e, rfl, k1, k2, rfl⟩⟩
 unfold pyNext;refine wpAny_bind (wpAny_attempt (wpAny_callSpecial?_slot T F.slot_dict_keyiterator_next (wpAny_mono run (fun _ _ f => f.elim) fun x s' ⟨h', e, ex, k1, ⟨o, k2, k3⟩, es'⟩ => ?_)));subst ex es';exact wpAny_bind (wpAny_isInstance (b := true) ⟨o, k2, k3⟩ isSubtype_stop (wpAny_pure (q h' k1)))
end
end Y
namespace Y
open PySem PySem.Spec PyProof.Rows L2
variable [bT]
section
variable {X : Cx} {ρ : List (Option D)} {m m1 : Bool} {e i : Expr} {tg : Expr} {p pos : Pos} {x : Str} {a : Addr} {kss : List (List Key)}
variable {f : Expr} {m2 : Bool}
theorem Bz {K : Frag} {H : Hp} {Z : ax} (q : Key) : In K H Z (kD q) (kV q) := by
 cases q with
 | inl n => exact av.mpr rfl
 | inr y => exact in_str.mpr rfl
end
end Y
namespace Y
open PySem PySem.Spec PyProof.Rows L2 PySem.SeqAt
variable [bT]
theorem vals2 {a b : V} {u v : Value} (h1 : RelV a u) (h2 : RelV b v) : Vals [a, b] [u, v] := .cons h1 (.cons h2 .nil)
theorem vh {P : Program} {w : World} {k : Key} {u : Value} (h : (bA P w).is k u = true) : RelV (kV k) u := by
 rw [tf] at h;rcases bq h with ⟨i, t, rfl, rfl⟩ | ⟨x, t, rfl, rfl⟩
 . exact ⟨t, rfl⟩
 . exact ⟨t, rfl⟩
section
variable {X : Cx} {pins : GR} {σ : St} {H : Hp} {s : Shared} {Z : ax} {A : Around} {P : D -> Prop} {kd : SortKind} {E : GJ} {a : Addr}
theorem rN (L : gs P) (kk : di P kd) {ds : List D} {xs : List V} {us : GO} (hP : ∀ d ∈ ds, P d /\ A.units + d.dep < cLine) (I : Inv X pins σ H s) (j : aC X.K H Z ds xs) (rv : Vals xs us) (h64 : us.length < 64) {h1 : Heap} {t1 n : Nat}
 (k1 : ∀ b o, s.heap.get? b = some o -> h1.get? b = some o) (la : s.heap.objs.size <= a) (ho : h1.get? a = some (seqObj "list" us.toArray n)) {R : Fin -> Shared -> Prop}
 (fin : ∀ s' (prs : List (V × D)), Inv X pins σ (upd H a (.lst (prs.map (·.1)))) s' -> prs.Perm (xs.zip ds) -> prs.map (·.2) = jb id ds -> R (.done (.ret .none)) s') :
 wpAny (model X.prog X.w) A (Builtin.«list.sort» ⟨[.ref a], []⟩) R E { s with heap := h1, toks := t1 } := by
 have z1 := j.length; have z2 := rv.length;have nn : ∀ b o, s.heap.get? b = some o -> b ≠ a := fun b o e => Nat.ne_of_lt (Nat.lt_of_lt_of_le (lt_size e) la);have el : ∀ u ∈ us, ∃ d, P d /\ Tells X.K H Z u d /\ A.units + d.dep < cLine := fun u hu => by
  obtain ⟨i, hi, e⟩ := List.mem_iff_getElem.mp hu;have hd : i < ds.length := by omega
  obtain ⟨v, ev, iv⟩ := j.get (i := i) (d := ds[i]) (by simp [hd]);obtain ⟨u', eu, ru⟩ := rv.get ev;obtain rfl : u' = u := by rw [<- (List.getElem?_eq_some_iff.mp eu).2]; exact e
  exact ⟨ds[i], (hP _ (getElem_mem hd)).1, ⟨v, ru, iv⟩, (hP _ (getElem_mem hd)).2⟩
 have old : ∀ (h' : Heap), (∀ b o, b ≠ a -> h1.get? b = some o -> h'.get? b = some o) -> Inv X pins σ H { s with heap := h', toks := t1 } := fun h' k => I.kept fun b o e => k b o (nn b o e) (k1 b o e);have lay : ∀ (prs : List (V × D)) (out : GP), prs.Perm (xs.zip ds) -> Vals (prs.map (·.1)) out.toList -> prs.map (·.2) = jb id ds -> R (.done (.ret .none)) { s with heap := sortedHeap h1 a us out, toks := t1 } := fun prs out pp vv e => by
  obtain ⟨m, hm⟩ := sortedHeap_at (out := out) ho;have hl : (prs.map (·.1)).length <= sizeLine := by
   rw [length_map, pp.length_eq, List.length_zip]; exact pf (by omega)
  exact fin _ prs (I.laid (t' := t1) (fun b o e => by rw [sortedHeap_old (nn b o e) (lt_size (k1 b o e))]; exact k1 b o e) la (show bz X.prog X.w _ _ _ (.lst (prs.map (·.1))) from ⟨hl, out.toList, m, vv, by simpa using hm⟩)) pp e
 have pr := kL rv j;rw [<- pairsOf_toList] at pr;by_cases emp : us = []
 . subst emp;have y0 : xs = [] := List.length_eq_zero_iff.mp (z2.trans rfl);have d0 : ds = [] := List.length_eq_zero_iff.mp (z1.trans (z2.trans rfl));subst y0 d0;refine tL (s := { s with heap := h1, toks := t1 }) (kd := kd) (κ := strKind) ho (by simp) (fun s' Q' _ ne _ => absurd rfl ne) (fun s' _ st i jj Q' hB hi => absurd hi (by simp [pairsOf])) fun t pm _ => ?_;have t0 : t = #[] := by
    have e := pm.size_eq;simp [pairsOf] at e;exact e
   exact lay [] _ (.refl _) (by rw [t0]; simp; exact .nil) (by simp [jb])
 . obtain ⟨u0, hu0⟩ := List.exists_mem_of_ne_nil us emp;obtain ⟨dd, pd, _, _⟩ := el u0 hu0;refine tL (s := { s with heap := h1, toks := t1 }) (kd := kd) (κ := uP X.K H Z P L ⟨dd, pd⟩) ho h64 (fun h' Q' kp' ne q' => ?_) (fun h' kp' => ?_) fun t pm up => ?_
   . exact uC (s := { s with heap := h', toks := t1 }) kk (old h' kp') (fun u hu => let ⟨d, a, b, _⟩ := el u hu; ⟨d, a, b⟩) ne q'
   . refine ur (s := { s with heap := h', toks := t1 }) kk L (old h' kp') (fun p hp => ?_);rw [pairsOf_toList] at hp;exact el p.1 (List.of_mem_zip hp).1
   . obtain ⟨prs, pp, vv, pw⟩ := qL (f := id) I L pr (fun q hq => (hP _ (List.of_mem_zip hq).2).1) pm up;have e2 : (xs.zip ds).map (·.2) = ds := by rw [List.map_snd_zip]; omega
     exact lay prs _ pp vv (oV L (f := id) (fun d hd => (hP d hd).1) (fun a _ b _ e => e) (by rw [<- e2]; exact pp.map _) pw)
end
end Y
namespace Y
open PySem PySem.Spec PyProof.Rows L2
end Y
namespace Y
open PySem PySem.Spec PyProof.Rows L2
end Y
namespace Y
open PySem PySem.Spec PyProof.Rows L2
namespace Sw
end Sw
end Y
namespace Y
open PySem PySem.Spec PyProof.Rows L2
namespace Tb
end Tb
end Y
namespace Y
open PySem PySem.Spec PyProof.Rows L2
end Y
namespace Y
open PySem PySem.Spec PyProof.Rows L2
end Y
namespace Y
open PySem PySem.Spec PyProof.Rows L2
end Y
namespace Y
open PySem PySem.Spec PyProof.Rows L2
end Y
namespace Y
open PySem PySem.Spec PyProof.Rows L2
end Y
namespace Y
open PySem PySem.Spec PyProof.Rows L2
end Y
namespace Y
open PySem PySem.Spec PyProof.Rows L2
namespace Rv
theorem mro : mroOf (.type "reversed") = pure [.type "reversed", .type "object"] := by rw [mroOf_type]; kernel_rfl
theorem rZ : typeLookup (.type "reversed") "__new__" = pure (some (.builtin "reversed.__new__")) := by rw [typeLookup_type, builtinLookup_eq_fast]; kernel_rfl
theorem made : Bind.madeBy (.type "reversed") = pure (some "reversed.__new__") := madeBy_type mro rZ (by decide +kernel)
theorem other : isSubtype (.type "list_reverseiterator") (.type "reversed") = pure false := by rw [isSubtype_type]; kernel_rfl
end Rv
namespace Rv
end Rv
end Y
namespace Y
open PySem PySem.Spec PyProof.Rows L2
end Y
namespace Y
open PySem PySem.Spec PyProof.Rows L2 PySem.SeqAt
section
variable {prog : Program} {w : World} {A : Around} {E : GJ} {s : Shared} {it l S : Addr} {items : GP}
abbrev Ft (prog : Program) (w : World) (A : Around) (R : Result -> Shared -> Prop) : Fin -> Shared -> Prop := fun x st => match x with
 | .done f => R (.ok f) st
 | .again c => c.quiet = true /\ codeAny (model prog w) A c R st
end
end Y
namespace Y
open PySem PySem.Spec PyProof.Rows L2 PySem.SeqAt
section
variable {prog : Program} {w : World} {A : Around} {E : GJ} {s : Shared} {a S : Addr} {es : Array (Int × Value)} {ep : Nat} {t : SetTable}
theorem DJ {Q : Unit -> Shared -> Prop} {c0 : Nat} (e : s.heap.get? S = some { cls := .type "list", data := .seq #[] c0 })
 (q : ∀ h' c, (∀ b o, b ≠ S -> s.heap.get? b = some o -> h'.get? b = some o) -> h'.get? S = some { cls := .type "list", data := .seq #[] c } -> Q () { s with heap := h' }) : wpAny (model prog w) A (Builtin.List.listTouch (.ref S)) Q E s := by
 have e1 := Heap.get?_update_self (Obj.mapSeq fun xs => xs.push Value.none) e rfl;have e2 := Heap.get?_update_self (Obj.mapSeq fun xs => xs.pop) e1 rfl;refine wpAny_bind (m := updateSeq S fun xs => xs.push .none) (wpAny_updateSeq e rfl (wpAny_updateSeq (hz := by seq_fits) e1 rfl (q _ _ (fun b o hb h => ?_) e2)));rw [Heap.get?_update_other _ _ (Ne.symm hb), Heap.get?_update_other _ _ (Ne.symm hb)];exact h
end
end Y
namespace Y
open PySem PySem.Spec PyProof.Rows L2
variable [bT]
theorem wj {P : Program} {w : World} {K : Frag} {mg mb : GN} {k : Nat} {fa a : Addr} {fd : FuncData} {x : Str} {s₁ : Shared} {vs : GO} {ns : List Int}
 (KX : K.In s₁.heap) (hns : s₁.heap.Ns mainGlobals mg) (hb : s₁.heap.Ns builtinsNs mb) (hbb : ∀ x : Str, x ≠ "__name__" -> mb x = bootBuiltins x) (hlim : s₁.heap.NoLimit) (hg : s₁.gens = #[])
 (ha : s₁.heap.get? a = some { cls := .type "list", data := .seq vs.toArray }) (hi : IntsAre vs ns) (hl : ns.length <= 63) (hr : bo k callerA)
 (hT : ∀ q ∈ bT.T, s₁.heap.get? q.1 = some (PySem.W.tabObj #[]) /\ K.lookup q.1 = none /\ PySem.isCodeTable s₁.heap q.1)
 (hbm : Bi mg s₁.heap) (F : ∀ base : Heap, K.In base -> base.Ns mainGlobals mg -> Bi mg base -> bR P w K mg base fS k fa fd [x] (qC K)) (hbind : ∀ (s : Shared) (u : Value), BindsTo s fd ⟨[u], []⟩ [(x, u)]) :
 codeAny (model P w) callerA (.call (.ref fa) ⟨[.ref a], []⟩) (fun r s' => r = .ok (.ret (.bool true)) /\ OldK s₁.heap s'.heap /\ s'.os = s₁.os /\ AllBare s'.gens) s₁ := by
 have rv := nN hi;have lenV := hi.length;have hz : ns.length <= sizeLine := Nat.le_trans hl (by decide);have aT : ∀ q ∈ bT.T, q.1 ≠ a := fun q hq z => by
  have e := (hT q hq).1;rw [z, ha] at e;cases e
 have core : ∀ H0 : Hp, (∀ b, b ≠ a -> H0 b = none) -> (H0 a = none \/ ∃ o xs, H0 a = some (.frz o (.lst xs))) -> eP K H0 a (ns.map V.int) -> gv P w H0 s₁.heap -> (H0 a ≠ none -> K.lookup a = none) ->
  codeAny (model P w) callerA (.call (.ref fa) ⟨[.ref a], []⟩) (fun r s' => r = .ok (.ret (.bool true)) /\ OldK s₁.heap s'.heap /\ s'.os = s₁.os /\ AllBare s'.gens) s₁ := by
  intro H0 hO hO2 hS hok0 hK;obtain ⟨H, hHt, hHn⟩ : ∃ H : Hp, (∀ b, (∃ q ∈ bT.T, q.1 = b) -> H b = some (.tbl #[])) /\ ∀ b, ¬ (∃ q ∈ bT.T, q.1 = b) -> H b = H0 b :=
   open Classical in ⟨fun b => if ∃ q ∈ bT.T, q.1 = b then some (.tbl #[]) else H0 b, fun b hb => if_pos hb, fun b hb => if_neg hb⟩
  have na : ¬ (∃ q ∈ bT.T, q.1 = a) := fun ⟨q, hq, z⟩ => aT q hq z;have Ha := hHn a na;have cs : ∀ b u, H b = some u -> (b = a /\ H0 a = some u) \/ (∃ q ∈ bT.T, q.1 = b) /\ u = .tbl #[] := fun b u e => by
   by_cases z : ∃ q ∈ bT.T, q.1 = b
   . rw [hHt b z] at e; cases e; exact .inr ⟨z, rfl⟩
   . rw [hHn b z] at e;by_cases z2 : b = a
     . subst z2; exact .inl ⟨rfl, e⟩
     . rw [hO b z2] at e; cases e
  have hok : gv P w H s₁.heap := fun b u e => by
   rcases cs b u e with ⟨rfl, e0⟩ | ⟨⟨q, hq, rfl⟩, rfl⟩
   . exact (hok0 _ _ e0).jw (fun b' v' hb' q => q) (fun b' q => by
      have : b' = b := by
       by_cases z : b' = b
       . exact z
       . rw [hO b' z] at q; cases q
      subst this;rcases hO2 with z | ⟨_, _, z⟩
      . rw [z] at q; cases q
      . rw [z] at q; cases q) fun b' xs q => by
      have : b' = b := by
       by_cases z : b' = b
       . exact z
       . rw [hO b' z] at q; cases q
      subst this;rcases hO2 with z | ⟨_, _, z⟩
      . rw [z] at q; cases q
      . rw [z] at q; cases q
   . exact (hT q hq).1
  have tabs : TabsOk H := fun q hq => ⟨#[], hHt q.1 ⟨q, hq, rfl⟩, trivial, fun pos cv z => by simp [codeAmong] at z⟩
  have hS' : eP K H a (ns.map V.int) := by
   rcases hS with (h | ⟨o, h⟩) | h
   . exact .inl (.inl (by rw [Ha]; exact h))
   . exact .inl (.inr ⟨o, by rw [Ha]; exact h⟩)
   . exact .inr h
  have base_of : ∀ {b : Addr} {o : Obj}, s₁.heap.get? b = some o -> H b = none -> (mU s₁.heap H).get? b = some o := fun e n => xp e n;have noA : ∀ {b : Addr} {o : Obj} {es : Array DictEntry} {ep : Nat}, s₁.heap.get? b = some o -> o.data = .dict es ep -> H b = none := fun {b o es ep} e d => by
   cases q : H b with
   | none => rfl
   | some u =>
    rcases cs b u q with ⟨rfl, _⟩ | ⟨⟨q', hq', rfl⟩, _⟩
    . rw [ha] at e; cases e; cases d
    . rw [(hT q' hq').1] at e; cases e; cases d
  have nsK : ∀ {b : Addr} {m : GN}, s₁.heap.Ns b m -> (mU s₁.heap H).Ns b m := fun {b m} ⟨o, es, ep, e, d, r⟩ => ⟨o, es, ep, base_of e (noA e d), d, r⟩
  have hKb : K.In (mU s₁.heap H) := fun b o e => base_of (KX b o e) (by
   cases q : H b with
   | none => rfl
   | some u =>
    rcases cs b u q with ⟨rfl, e0⟩ | ⟨⟨q', hq', rfl⟩, _⟩
    . rw [hK (by rw [e0]; simp)] at e; cases e
    . rw [(hT q' hq').2.1] at e; cases e)
  have hBm : Bi mg (mU s₁.heap H) := by
   obtain ⟨bm, ob, b1, b2, b3, b4, b5, b6, b7⟩ := hbm;refine ⟨bm, ob, b1, base_of b2 ?_, b3, b4, b5, b6, b7⟩
   cases q : H bm with
   | none => rfl
   | some u =>
    rcases cs bm u q with ⟨rfl, _⟩ | ⟨⟨q', hq', rfl⟩, _⟩
    . rw [ha] at b2; cases b2; injection b5 with b5; exact absurd b5 (by decide)
    . rw [(hT q' hq').1] at b2; cases b2; cases b5
  have hM : Mod K mg (mU s₁.heap H) := ⟨hKb, nsK hns, ⟨mb, nsK hb, hbb⟩, let ⟨mc, h1, h2⟩ := hlim; ⟨mc, nsK h1, h2⟩⟩
  have e0 : mF P w K mg (mU s₁.heap H) callerA [] s₁ H := ⟨rfl, hM, fun b o e => AL e, Nat.le_of_eq (vB _ _), trivial, fun b hb => absurd (show b ∈ ([] : List Addr) from hb) (by simp), hok, .of_eq hg⟩
  refine codeAny_mono ((F _ hKb (nsK hns) hBm).run callerA [] s₁ H ⟨[.ref a], []⟩ [.ref a] [.ref a] (fun v _ => v = .bl true) E0 hr e0 (hbind s₁ (.ref a)) (.cons rfl .nil) ⟨a, ns, rfl, hS', hl, tabs, fun _ => rfl⟩) fun r s' h => ?_
  cases r with
  | error e => exact False.elim h
  | ok fl =>
   cases fl with
   | next => exact False.elim h
   | brk => exact False.elim h
   | cont => exact False.elim h
   | ret u =>
    obtain ⟨v, H', os, bare, un, hok', r', q⟩ := h;have q' : v = .bl true := q;subst q';obtain rfl : u = Value.bool true := r';refine ⟨rfl, ⟨fun b o e => ?_, fun b o e => un.there b o e (by simp)⟩, os, bare⟩
    cases q : H b with
    | none => exact .inl (un.keep b o e q (by intro z; exact absurd (show b ∈ ([] : List Addr) from z) (by simp)) (by simp))
    | some u =>
     rcases cs b u q with ⟨rfl, e0'⟩ | ⟨⟨q', hq', rfl⟩, rfl⟩
     . rcases hO2 with z | ⟨ob, xs, z⟩
       . rw [z] at e0'; cases e0'
       . rw [z] at e0';cases e0';have z2 := un.frzs b ob _ q;obtain ⟨e1, _⟩ := hok b _ q;obtain ⟨e2, _⟩ := hok' b _ z2;rw [e] at e1; cases e1;exact .inl e2
     . obtain ⟨more, z⟩ := un.tbls q'.1 #[] q;have e2 := hok' _ _ z;rw [(hT q' hq').1] at e;cases e;exact .inr (.inl ⟨(hT q' hq').2.2, rfl, #[], more, rfl, e2⟩)
 cases hk : K.lookup a with
 | some o =>
  have e := KX a o hk;rw [ha] at e;cases e;exact core (fun _ => none) (fun _ _ => rfl) (.inl rfl) (.inr ⟨_, vs.toArray, _, hk, rfl, rfl, rfl, by rw [size_toArray, lenV]; exact hz, by simpa using rv⟩) (fun b u z => nomatch z) fun z => absurd rfl z
 | none =>
  refine core (fun b => if b = a then some (.frz { cls := .type "list", data := .seq vs.toArray } (.lst (ns.map V.int))) else none) (fun b hb => if_neg hb) (.inr ⟨_, _, if_pos rfl⟩) (.inl (.inr ⟨{ cls := .type "list", data := .seq vs.toArray }, if_pos rfl⟩)) (fun b u z => ?_) fun _ => hk;by_cases hb : b = a
  . have z' := (if_pos hb).symm.trans z;cases z';subst hb;exact ⟨ha, by rw [length_map]; exact hz, vs, _, rv, ha⟩
  . have z' := (if_neg hb).symm.trans z;cases z'
theorem DE {l : PySem.W.OpenLaw} {q : Program} {loose : GV} {XP : GN -> Heap -> Prop} {YP : World -> Heap -> Prop} {d : DefRec} {K : Params -> Frag} {x : Str} {k : Nat} (hn : l.most = some 63) (hdf : d.params.defaults = []) (hr : bo k callerA)
 (hY : ∀ (w : World) (h : Heap), YP w h -> (K w.params).In h)
 (hT : ∀ (w : World) (h : Heap), YP w h -> ∀ q ∈ bT.T, h.get? q.1 = some (PySem.W.tabObj #[]) /\ (K w.params).lookup q.1 = none /\ PySem.isCodeTable h q.1)
 (F : ∀ (w : World) (mg : GN) (fa : Addr) (h : Heap), (K w.params).In h -> h.Ns mainGlobals mg -> mg d.name = some (.ref fa) ->
  ∃ fd : FuncData, (∀ (s : Shared) (u : Value), BindsTo s fd ⟨[u], []⟩ [(x, u)]) /\ ∀ base : Heap, (K w.params).In base -> base.Ns mainGlobals mg -> Bi mg base -> bR l.prog w (K w.params) mg base fS k fa fd [x] (qC (K w.params))) :
 PySem.W.WalkO q loose XP YP l.row.toRowW d [] (fun f vs => PySem.call f vs) := by
 refine Att.rd hn hdf fun w s₀ s₁ mg mb fa o pm cd doc a vs ns G Y ho hd hcd hmg hobj hints hlen hg => ?_;have KX := hY w _ Y;obtain ⟨fd, hb, hF⟩ := F w mg fa _ KX G.T.g hmg;have hbm : Bi mg s₁.heap := by
  obtain ⟨bm, ob, b1, b2, b3, b4, b5, b6⟩ := G.T.bmain;refine ⟨bm, ob, b1, b3, b2, fun z => ?_, b4, b5, b6⟩;obtain ⟨o, es, ep, e, hd, _⟩ := G.T.g;rw [z, e] at b3; cases b3; rw [hd] at b6; cases b6
 exact wj KX G.T.g G.T.b G.T.builtins G.T.nolimit hg hobj hints hlen hr (hT w _ Y) hbm hF hb
structure oU (K : Frag) (x qual : Str) (st : Stmt) (f : Addr) (fd : FuncData) (c : Addr) : Prop where
 ex : ∃ (oc : Value) (od : GQ) (kV doc pm : Value) (an : GQ) (ct : Value) (osl : GL),
  fd = PySem.W.fnOf x qual (cA st) (aY st) (af st) .none kV doc pm an (.ref c) ct /\ K.lookup f = some ⟨oc, od, .func fd, osl⟩ /\ PySem.W.codeIn K (.ref c) qual = true
 kp : keepIn K (.ref f) = true
theorem tabs_ok {K : Params -> Frag} {as : List Addr} {e : ∀ P, as = (K P).map (·.1)} {ts : List Addr} {w : World} {h : Heap} (Yk : (PySem.W.kmHook K as e ts).says w h) {c P : Addr} (hm : P ∈ ts) (hl : (K w.params).lookup P = none) (hc : codeHdIn (K w.params) c P = true) :
 h.get? P = some (PySem.W.tabObj #[]) /\ (K w.params).lookup P = none /\ PySem.isCodeTable h P := by
 obtain ⟨o, vs, _, _, _, _, _, _, _, e1, e2, e3, e4, _⟩ := PySem.W.codeHd_of_K (PySem.W.km_in_of Yk) hc;exact ⟨PySem.W.km_tabs_of Yk P hm, hl, c, o, vs, e1, e2, e3, e4⟩
theorem oU.fn {K : Frag} {x qual : Str} {st : Stmt} {f c : Addr} {fd : FuncData} (F : oU K x qual st f fd c) : fo K x qual st f fd := by
 obtain ⟨oc, od, kV, doc, pm, an, ct, osl, e, lk, hcd⟩ := F.ex;exact ⟨⟨oc, od, kV, doc, pm, an, .ref c, ct, osl, e, lk, hcd⟩, F.kp⟩
theorem AW {K : Frag} {x qual : Str} {st : Stmt} {f c : Addr} {oc kV doc pm ct : Value} {od an : GQ} {osl : GL}
 (l : K.lookup f = some ⟨oc, od, .func (PySem.W.fnOf x qual (cA st) (aY st) (af st) .none kV doc pm an (.ref c) ct), osl⟩) (hc : PySem.W.codeIn K (.ref c) qual = true) (k : keepIn K (.ref f) = true) :
 oU K x qual st f (PySem.W.fnOf x qual (cA st) (aY st) (af st) .none kV doc pm an (.ref c) ct) c := ⟨⟨oc, od, kV, doc, pm, an, ct, osl, rfl, l, hc⟩, k⟩
section
variable {P : Program} {w : World} {K : Frag} {mg : GN} {base : Heap}
theorem Ax {x qual : Str} {st : Stmt} {f c : Addr} {fd : FuncData} {N ps : GV} {k : Nat} {m : Bool} {G : List D -> D -> Prop} (Fx : oU K x qual st f fd c) (S : aD N ps (af st)) (hmg : mg x = some (.ref f)) (hb : Binds K fd ps [])
 (hlen : ∀ ds d, G ds d -> ds.length = ps.length)
 (body : ∀ (A : Around) (outer : List Env) (s : Shared) (H : Hp) (E : XK) (Z : ax) (ds : List D) (d : D), bo k (A.deeper (envOfC qual (af st) s.heap.objs.size f (.ref c))) -> G ds d ->
  SD (h9 fS P w K mg base N qual (af st) f (.ref c) A outer s H E).uj ⟨m, Z, H⟩ (aY st) (gZ N ds) { nx := fun _ => d = .non, rt := fun d' => d' = d }) : Def P w K mg base (k + 1) x m G := by
 refine ⟨f, fd, ps, ?_, hmg, Fx.kp, hb⟩;obtain ⟨oc, od, kV, doc, pm, an, ct, osl, rfl, lk, hcd⟩ := Fx.ex;refine yJ lk hcd S (fun vs H Q E ⟨Z, ds, d, oz, i, g, kk⟩ => ?_) fun A outer s H vs Q E hr ⟨Z, ds, d, oz, i, g, kk⟩ => ?_
 . rw [<- i.length]; exact hlen ds d g
 . refine ⟨_, lJ.uj (body A outer s H E Z ds d hr g), [], [], fun _ => [], ?_, ra oz i, ⟨rfl, fun σ H' ⟨r, A', hl, S', e⟩ => ?_, fun σ H' ⟨r, A', hl, S', e⟩ => e.elim, fun σ H' ⟨r, A', hl, S', e⟩ => e.elim, fun v d' H' s' i' e => ?_, fun _ _ _ _ _ _ _ _ e => e.elim, fun _ _ _ _ _ _ _ _ _ _ _ _ _ e => e.elim, fun _ _ _ _ _ _ _ e => e.elim⟩⟩
   . have := i.length;simp [L2.start, gZ]; omega
   . subst e;exact kk .non H' S'.same (ba.mpr rfl)
   . subst e;exact kk v H' s' i'
end
structure oq (K : Frag) (mg : GN) (base : Heap) (c P : Addr) (qn : Str) : Prop where
 hd : codeHdIn K c P = true
 tab : (P, qn) ∈ bT.T
 one : ∀ q ∈ bT.T, q.1 = P -> q.2 = qn
 bm : Bi mg base
 gP : mainGlobals ≠ P
theorem oq.cx {X : Cx} {c P : Addr} {qn : Str} (L : oq X.K X.mg X.base c P qn) (h1 : X.env.code = .ref c) (h2 : X.env.qual ++ ("<lambda>" : Str) = qn) : yA X c P qn := ⟨h1, L.hd, L.tab, L.one, h2, L.bm, L.gP⟩
theorem gs.sub {P Q : D -> Prop} (L : gs P) (h : ∀ d, Q d -> P d) : gs Q :=
 ⟨fun a x => L.ir a (h a x), fun a b c x y z => L.tr a b c (h a x) (h b y) (h c z), fun a b x y => L.tt a b (h a x) (h b y), fun a b x y => L.cm a b (h a x) (h b y), fun a b x y => L.eq a b (h a x) (h b y)⟩
def fA (rows : GI) (p : GZ) : D := .tup [aE (endAt rows p), fz p]
def v9 (rows : GI) : D -> D
 | .tup [.int r, .int c] => .tup [aE (endAt rows (r.toNat, c.toNat)), .tup [.int r, .int c]]
 | _ => .non
theorem gk (rows : GI) (p : GZ) : v9 rows (fz p) = fA rows p := by simp [v9, fz, fA]
def uI (d : D) : Prop := ∃ (ws : GV) (p : GZ), d = .tup [aE ws, fz p]
theorem fi : gs uI := (gz (kr (uw cL) (gz fun _ => ku))).sub fun d ⟨ws, p, e⟩ => by
 subst e;refine ⟨_, rfl, ⟨_, rfl, fts_strs ws⟩, ⟨_, rfl, ⟨p.1, rfl⟩, ⟨p.2, rfl⟩, trivial⟩, trivial⟩
where
 fts_strs (ws : GV) : tG (fun _ => isStr) (ws.map D.str) := rF fun d hd => by
  obtain ⟨w, _, rfl⟩ := mem_map.mp hd;exact ⟨w, rfl⟩
theorem kind_ord : di uI (tuples' true) := .tup "list" (.inr (.inr rfl)) fun d ⟨ws, p, e⟩ => ⟨aE ws, [fz p], e, rfl, rfl⟩
theorem ia {rows : GI} {p : GZ} (h : p ∈ iG rows) : p.1 < rows.length := by
 unfold iG eY at h;obtain ⟨r, hr, h2⟩ := List.mem_flatMap.mp h;obtain ⟨a, _, rfl⟩ := mem_map.mp h2;simpa using hr
theorem qR (rows : GI) : (iG rows).length = eA rows := by
 unfold iG;rw [ju rows rows.length (Nat.le_refl _), take_length];rfl
theorem iU : ∀ ws : List Str, b0 (ws.map D.str) = 0
 | [] => rfl
 | w :: ws => by simp [b0, D.dep, iU ws]
theorem uY {k : Nat} {A : Around} {rows : GI} {p : GZ} (r : bo k A) : A.units + 2 + (fA rows p).dep < cLine := by
 have h := r.un;have e : (fA rows p).dep = 2 := by simp [fA, aE, fz, D.dep, b0, iU]
 omega
def yx (st : Stmt) : List (Str × NameKind) := match aY st with
 | [.Return (some (.Call _ _ [⟨_, .Lambda _ _ sc _, _⟩] _)) _] => sc.names
 | _ => []
def yw (ds : List D) (d : D) : Prop := ∃ (rows : GI) (p : GZ), p.1 < rows.length /\ ds = [bu rows, fz p] /\ d = fA rows p
def yp (rows : GI) : D := .lst (jb (v9 rows) ((iG rows).map fz))
def Bv (ds : List D) (d : D) : Prop := ∃ rows : List GV, eA rows < 64 /\ ds = [bu rows] /\ d = yp rows
theorem Cp {P : D -> Prop} {f : D -> D} (L : gs P) {ds : List D} (hP : ∀ d ∈ ds, P (f d)) : (jb f ds).Pairwise fun x y => br .lt (f y) (f x) = false := by
 let es : List {d // P (f d)} := ds.attach.map fun d => ⟨d.1, hP d.1 d.2⟩
 have e : ds = es.map (·.1) := by simp [es]
 have e2 : jb f ds = (es.mergeSort fun x y => !br .lt (f y.1) (f x.1)).map (·.1) := by
  unfold jb;rw [e];exact (List.map_mergeSort (f := fun z : {d // P (f d)} => z.1) (r := fun x y => !br .lt (f y.1) (f x.1)) (s := fun x y => !br .lt (f y) (f x)) (fun a _ b _ => rfl)).symm
 rw [e2, List.pairwise_map];refine (List.pairwise_mergeSort (le := fun (x y : {d // P (f d)}) => !br .lt (f y.1) (f x.1)) (fun a b c h1 h2 => ?_) (fun a b => ?_) es).imp fun h => by simpa using h
 . simp only [Bool.not_eq_true'] at *
   cases q : br .lt (f c.1) (f a.1) with
   | false => rfl
   | true =>
    cases q2 : br .lt (f a.1) (f b.1) with
    | true => rw [L.tr _ _ _ c.2 a.2 b.2 q q2] at h2; cases h2
    | false => rw [L.tt _ _ a.2 b.2 q2 h1] at q; rw [q] at h2; cases h2
 . cases q : br .lt (f b.1) (f a.1) with
   | false => simp
   | true =>
    cases q2 : br .lt (f a.1) (f b.1) with
    | false => simp
    | true => have w := L.tr _ _ _ a.2 b.2 a.2 q2 q; rw [L.ir _ a.2] at w; cases w
theorem zw (f : D -> D) (ds : List D) : (jb f ds).length = ds.length := (eZ f ds).length_eq
end Y
namespace Y
open PySem PySem.Spec PyProof.Rows L2 PySem.SeqAt
variable [bT]
theorem qV : di isStr oneType' := .one "str" (.inr (.inl rfl)) fun d ⟨x, e⟩ => by subst e; exact ⟨rfl, rfl⟩
end Y
namespace Y
open PySem PySem.Spec PyProof.Rows L2
variable [bT]
def oM (rows : GI) (p q : GZ) : Bool := br .lt (fA rows p) (fA rows q)
theorem dY (rows : GI) (p : GZ) : uI (fA rows p) := ⟨_, p, rfl⟩
theorem tY {p q : GZ} (h : fz p = fz q) : p = q := by
 unfold fz at h;injection h with h;injection h with h1 h;injection h with h2 h;injection h1 with h1;injection h2 with h2;exact Prod.ext (by omega) (by omega)
theorem yq {rows : GI} {p q : GZ} (h : fA rows p = fA rows q) : p = q := by
 unfold fA at h;injection h with h;injection h with h1 h;injection h with h2 h;exact tY h2
theorem B1 (rows : GI) (p : GZ) : oM rows p p = false := fi.ir _ (dY rows p)
theorem xn {rows : GI} {p q r : GZ} (a : oM rows p q = true) (b : oM rows q r = true) : oM rows p r = true := fi.tr _ _ _ (dY rows p) (dY rows q) (dY rows r) a b
theorem xt {rows : GI} {p q : GZ} (n : p ≠ q) (a : oM rows q p = false) : oM rows p q = true := by
 cases h : oM rows p q with
 | true => rfl
 | false => exact absurd (yq (fi.tt _ _ (dY rows p) (dY rows q) h a)) n
theorem C8 {rows : GI} {p q : GZ} (a : oM rows p q = true) : oM rows q p = false := by
 cases h : oM rows q p with
 | false => rfl
 | true => have := xn a h; rw [B1] at this; cases this
def eG (rows : GI) : List GZ := (iG rows).mergeSort fun x y => !oM rows y x
theorem yO (rows : GI) : yp rows = BC (eG rows) := by
 unfold yp BC eG jb;congr 1;refine (List.map_mergeSort (f := fz) (r := fun x y => !oM rows y x) (s := fun x y => !br .lt (v9 rows y) (v9 rows x)) fun a _ b _ => ?_).symm;rw [gk, gk];rfl
theorem fh (rows : GI) : (eG rows).Perm (iG rows) := List.mergeSort_perm _ _
theorem cZ (rows : GI) : (eG rows).length = eA rows := by rw [(fh rows).length_eq, qR]
theorem qh {α β : Type} (l : List α) (f : α -> List β) (hl : l.Nodup) (h1 : ∀ a ∈ l, (f a).Nodup) (h2 : ∀ a b x, x ∈ f a -> x ∈ f b -> a = b) : (l.flatMap f).Nodup := by
 induction l with
 | nil => simp
 | cons a l ih =>
  rw [List.flatMap_cons, List.nodup_append];rw [nodup_cons] at hl;refine ⟨h1 a (by simp), ih hl.2 fun b hb => h1 b (by simp [hb]), fun x hx y hy e => ?_⟩;subst e;obtain ⟨b, hb, hy⟩ := List.mem_flatMap.mp hy;have := h2 a b x hx hy;subst this;exact hl.1 hb
theorem sJ (rows : GI) : (iG rows).Nodup := by
 unfold iG eY;refine qh _ _ List.nodup_range (fun n _ => ?_) fun a b x ha hb => ?_
 . rw [List.nodup_iff_pairwise_ne, List.pairwise_map];refine List.Pairwise.imp ?_ (List.nodup_iff_pairwise_ne.mp List.nodup_range);intro a b h e;injection e with _ e;exact h e
 . obtain ⟨_, _, rfl⟩ := mem_map.mp ha;obtain ⟨_, _, e⟩ := mem_map.mp hb;injection e with e _;exact e.symm
theorem qK (rows : GI) : (eG rows).Nodup := (fh rows).nodup_iff.mpr (sJ rows)
theorem jh {rows : GI} {p : GZ} : p ∈ eG rows ↔ p ∈ iG rows := (fh rows).mem_iff
theorem y4 (rows : GI) : (eG rows).Pairwise fun x y => oM rows x y = true := by
 have h : (eG rows).Pairwise fun x y => (!oM rows y x) = true := by
  unfold eG;refine List.pairwise_mergeSort (le := fun x y => !oM rows y x) (fun a b c h1 h2 => ?_) (fun a b => ?_) _
  . simp only [Bool.not_eq_true'] at *
    cases q : oM rows c a with
    | false => rfl
    | true =>
     by_cases e : b = c
     . subst e; rw [h1] at q; cases q
     . have := xn (xt e h2) q;rw [h1] at this; cases this
  . cases q : oM rows b a with
    | false => simp
    | true => rw [C8 q]; simp
 have n := List.nodup_iff_pairwise_ne.mp (qK rows);refine (h.and n).imp fun {x y} h => xt h.2 (by simpa using h.1)
section
variable {K : Frag} {F : Fn} {H : Hp} {vs : St} {ρ : bX} {A : Nat -> List Addr}
theorem aW.zJ {i j : Nat} {v w : V} {si sj : Option Slot} {l1 l2 : List Addr} (hij : i ≠ j) (S : aW K F H vs ρ A) (hi : i < ρ.length) (hiv : i < vs.length) (hj : j < ρ.length) (hjv : j < vs.length) (nd1 : l1.Nodup) (nd2 : l2.Nodup) (dj : ∀ a ∈ l1, a ∉ l2)
 (eq : ∀ a, (a ∈ l1 \/ a ∈ l2) ↔ (a ∈ A i \/ a ∈ A j)) (h1 : ∀ sl, si = some sl -> et K F H (az A) l1 v sl) (h2 : ∀ sl, sj = some sl -> et K F H (az A) l2 w sl) :
 aW K F H ((vs.set i (some v)).set j (some w)) ((ρ.set i si).set j sj) (aL (aL A i l1) j l2) := by
 have ai : aL (aL A i l1) j l2 i = l1 := by rw [aS hij, aF]
 have aj : aL (aL A i l1) j l2 j = l2 := aF;have ak : ∀ {k : Nat}, k ≠ i -> k ≠ j -> aL (aL A i l1) j l2 k = A k := fun {k} q1 q2 => by rw [aS q2, aS q1]
 have two : ∀ {k : Nat} {a : Addr}, (k = i \/ k = j) -> a ∈ aL (aL A i l1) j l2 k -> a ∈ A i \/ a ∈ A j := fun {k a} hk ha => by
  rcases hk with rfl | rfl
  . rw [ai] at ha; exact (eq a).mp (.inl ha)
  . rw [aj] at ha; exact (eq a).mp (.inr ha)
 have own : az (aL (aL A i l1) j l2) = az A := by
  funext a;refine propext ⟨fun ⟨k, hk⟩ => ?_, fun ⟨k, hk⟩ => ?_⟩
  . by_cases q : k = i \/ k = j
    . rcases two q hk with z | z
      . exact ⟨i, z⟩
      . exact ⟨j, z⟩
    . rw [ak (fun z => q (.inl z)) fun z => q (.inr z)] at hk;exact ⟨k, hk⟩
  . by_cases q : k = i \/ k = j
    . have z : a ∈ A i \/ a ∈ A j := by
       rcases q with rfl | rfl
       . exact .inl hk
       . exact .inr hk
      rcases (eq a).mpr z with z | z
      . exact ⟨i, by rw [ai]; exact z⟩
      . exact ⟨j, by rw [aj]; exact z⟩
    . exact ⟨k, by rw [ak (fun z => q (.inl z)) fun z => q (.inr z)]; exact hk⟩
 have apart : ∀ {k : Nat} {a : Addr}, k ≠ i -> k ≠ j -> a ∈ A k -> ¬ (a ∈ A i \/ a ∈ A j) := fun {k a} q1 q2 ha z => by
  rcases z with z | z
  . exact q1 (S.one k i a ha z)
  . exact q2 (S.one k j a ha z)
 refine ⟨S.same, S.opn, fun k => ?_, fun k k' a hk hk' => ?_, fun k a ha => ?_, fun k a ha => ?_, fun k sl e => ?_⟩
 . by_cases q1 : k = i
   . rw [q1, ai]; exact nd1
   . by_cases q2 : k = j
     . rw [q2, aj]; exact nd2
     . rw [ak q1 q2]; exact S.nd k
 . by_cases q : k = i \/ k = j
   . by_cases q' : k' = i \/ k' = j
     . rcases q with rfl | rfl <;> rcases q' with rfl | rfl
       . rfl
       . rw [ai] at hk; rw [aj] at hk'; exact absurd hk' (dj a hk)
       . rw [aj] at hk; rw [ai] at hk'; exact absurd hk (dj a hk')
       . rfl
     . have z := two q hk;rw [ak (fun z => q' (.inl z)) fun z => q' (.inr z)] at hk';exact absurd z (apart (fun z => q' (.inl z)) (fun z => q' (.inr z)) hk')
   . by_cases q' : k' = i \/ k' = j
     . have z := two q' hk';rw [ak (fun z => q (.inl z)) fun z => q (.inr z)] at hk;exact absurd z (apart (fun z => q (.inl z)) (fun z => q (.inr z)) hk)
     . rw [ak (fun z => q (.inl z)) fun z => q (.inr z)] at hk;rw [ak (fun z => q' (.inl z)) fun z => q' (.inr z)] at hk';exact S.one k k' a hk hk'
 . have : ∃ k', a ∈ A k' := by
    have z : az (aL (aL A i l1) j l2) a := ⟨k, ha⟩
    rw [own] at z;exact z
   obtain ⟨k', z⟩ := this;exact S.new k' a z
 . have : ∃ k', a ∈ A k' := by
    have z : az (aL (aL A i l1) j l2) a := ⟨k, ha⟩
    rw [own] at z;exact z
   obtain ⟨k', z⟩ := this;exact S.lst k' a z
 . rw [own];by_cases q2 : k = j
   . subst q2;rw [List.getElem?_set_self (by rw [List.length_set]; exact hj)] at e;exact ⟨w, by rw [List.getElem?_set_self (by rw [List.length_set]; exact hjv)], by rw [aj]; exact h2 sl (Option.some.inj e)⟩
   . rw [List.getElem?_set_ne (Ne.symm q2)] at e;by_cases q1 : k = i
     . subst q1;rw [List.getElem?_set_self hi] at e;exact ⟨v, by rw [List.getElem?_set_ne (Ne.symm q2), List.getElem?_set_self hiv], by rw [ai]; exact h1 sl (Option.some.inj e)⟩
     . rw [List.getElem?_set_ne (Ne.symm q1)] at e;obtain ⟨u, a, b⟩ := S.at' k sl e;exact ⟨u, by rw [List.getElem?_set_ne (Ne.symm q2), List.getElem?_set_ne (Ne.symm q1)]; exact a, by rw [ak q1 q2]; exact b⟩
end
def mw (H : Hp) (as : List Addr) : Hp := fun b => if b ∈ as then none else H b
theorem eI {H : Hp} {as : List Addr} {b : Addr} (h : b ∉ as) : mw H as b = H b := by unfold mw; rw [if_neg h]
theorem yg {H : Hp} {as : List Addr} {b : Addr} (h : b ∈ as) : mw H as b = none := by unfold mw; rw [if_pos h]
theorem j9 {H : Hp} {as : List Addr} {b : Addr} {o : HO} (h : mw H as b = some o) : H b = some o /\ b ∉ as := by
 by_cases q : b ∈ as
 . rw [yg q] at h; cases h
 . rw [eI q] at h; exact ⟨h, q⟩
theorem gy {H : Hp} {as : List Addr} {b : Addr} (h : mw H as b = none) : b ∈ as \/ H b = none := by
 by_cases q : b ∈ as
 . exact .inl q
 . rw [eI q] at h; exact .inr h
theorem AK {H : Hp} {as : List Addr} (t : TabsOk (mw H as)) : TabsOk H := fun P hP => by
 obtain ⟨ps, e, tr, k⟩ := t P hP;refine ⟨ps, (j9 e).1, tr, fun pos cv q => ?_⟩;obtain ⟨c, rfl, hc⟩ := k pos cv q;exact ⟨c, rfl, (j9 hc).1⟩
theorem tR {H : Hp} {as : List Addr} : ao (mw H as) H := ⟨fun b o e _ => (j9 e).1, fun b ps e => ⟨ps, (j9 e).1⟩, AK⟩
mutual
def tP : Pt -> List Nat
 | .word w => cl w
 | .beg w => cl w ++ [42]
 | .fin w => 42 :: cl w
 | .any => [63]
 | .upto n => [46, 46, 48 + n]
 | .iR q => [40, 32] ++ bF [32, 124, 32] (FR q) ++ [32, 41]
def Gf : List Pt -> List GX
 | [] => []
 | p :: ps => tP p :: Gf ps
def FR : List (List Pt) -> List GX
 | [] => []
 | ps :: q => bF [32] (Gf ps) :: FR q
end
def Fj (w : Str) : Prop := cl w ≠ [] /\ (∀ c ∈ cl w, jG c = true) /\ (cl w).length <= 40
mutual
def pW : Nat -> Pt -> Prop
 | _, .word w => Fj w
 | _, .beg w => Fj w
 | _, .fin w => Fj w
 | _, .any => True
 | _, .upto n => n < 10
 | k, .iR q => ∃ j, k = j + 1 /\ q ≠ [] /\ Gb j q
def Gd : Nat -> List Pt -> Prop
 | _, [] => True
 | k, p :: ps => pW k p /\ Gd k ps
def Gb : Nat -> List (List Pt) -> Prop
 | _, [] => True
 | k, ps :: q => (ps ≠ [] /\ Gd k ps) /\ Gb k q
end
def xv (q : List (List Pt)) : List Pt := q.getLastD []
def Dq (q : List (List Pt)) (p : Pt) : List (List Pt) := q.dropLast ++ [xv q ++ [p]]
def C3 (t : GX) : Bool := !t.isEmpty && t.all jG
def DQ (t : GX) : Option Pt :=
 if C3 t then some (.word (Dh t))
 else if t = [63] then some .any
 else if t.length = 3 /\ t.take 2 = [46, 46] /\ 48 <= t.getD 2 0 /\ t.getD 2 0 <= 57 then some (.upto (t.getD 2 0 - 48))
 else if t.getLast? = some 42 /\ C3 t.dropLast = true then some (.beg (Dh t.dropLast))
 else if t.head? = some 42 /\ C3 (t.drop 1) = true then some (.fin (Dh (t.drop 1)))
 else none
def Ek (st : List (List (List Pt))) (t : GX) : List (List (List Pt)) :=
 if t = [40] then st ++ [[[]]]
 else if t = [124] then st.dropLast ++ [st.getLastD [] ++ [[]]]
 else if t = [41] then st.dropLast.dropLast ++ [Dq (st.dropLast.getLastD []) (.iR (st.getLastD []))]
 else st.dropLast ++ [Dq (st.getLastD []) ((DQ t).getD .any)]
def Gp (st : List (List (List Pt))) (t : GX) : Prop :=
 (t = [40] /\ st.length <= 20) \/ (t = [124] /\ xv (st.getLastD []) ≠ []) \/ (t = [41] /\ xv (st.getLastD []) ≠ [] /\ 2 <= st.length) \/ (∃ p k, t = tP p /\ pW k p /\ ∀ q, p ≠ .iR q)
def Good : List (List (List Pt)) -> List GX -> Prop
 | _, [] => True
 | st, t :: ts => Gp st t /\ Good (Ek st t) ts
def Bu : List Str := ["..0", "..1", "..2", "..3", "..4", "..5", "..6", "..7", "..8", "..9"]
end Y
namespace Y
open PySem PySem.Spec PyProof.Rows L2
end Y
namespace Y
open PySem PySem.Spec PyProof.Rows L2
variable [bT]
section
variable {K : Frag} {H H' : Hp} {Z : ax}
theorem bj.length : ∀ {ds : List D} {vs : List V}, bj K H Z ds vs -> ds.length = vs.length
 | [], _, h => by rw [bt.mp h]; rfl
 | d :: ds, _, h => by
  obtain ⟨v, r, rfl, _, j⟩ := aO.mp h;rw [length_cons, length_cons, bj.length j]
theorem bj.get : ∀ {ds : List D} {vs : List V} {i : Nat} {d : D}, bj K H Z ds vs -> ds[i]? = some d -> ∃ v, vs[i]? = some v /\ e9 K H Z d v
 | [], _, _, _, _, h => by simp at h
 | e :: ds, vs, 0, d, h, q => by
  obtain ⟨v, r, rfl, a, _⟩ := aO.mp h;cases q;exact ⟨v, rfl, a⟩
 | e :: ds, vs, i + 1, d, h, q => by
  obtain ⟨v, r, rfl, _, j⟩ := aO.mp h;simpa using j.get (i := i) (by simpa using q)
theorem bj.append : ∀ {ds es : List D} {vs ws : List V}, bj K H Z ds vs -> bj K H Z es ws -> bj K H Z (ds ++ es) (vs ++ ws)
 | [], _, _, _, h, k => by rw [bt.mp h]; exact k
 | d :: ds, _, _, _, h, k => by
  obtain ⟨v, r, rfl, a, j⟩ := aO.mp h;exact aO.mpr ⟨v, r ++ _, rfl, a, j.append k⟩
theorem bj.one {d : D} {v : V} (h : e9 K H Z d v) : bj K H Z [d] [v] := aO.mpr ⟨v, [], rfl, h, bt.mpr rfl⟩
theorem bj.same {ds : List D} {vs : List V} (s : ao H H') (h : bj K H Z ds vs) : bj K H' Z ds vs := h.carry (.same s)
end
def GD (fr : Bool) (d : D) : SP where
 p K F H O _ v := e9 K H (zn F O fr) d v
 vw _ f := if f && !fr then none else some d
 carry h _ c := h.carry (c fr)
 env {K F H O mine v ow fr' d'} op _ h e := by
  by_cases q : (fr' && !fr) = true
  . rw [if_pos q] at e; cases e
  . rw [if_neg q] at e;cases e;refine e9.carry (m6 op fun hf => ?_) h;subst hf;simpa using q
def x8 (fr : Bool) (s : Sh) (ds : List D) : SP where
 p K F H O mine v := ∃ l xs, mine = [l] /\ v = .ref l /\ s.at H l xs /\ bj K H (zn F O fr) ds xs
 vw ow f := if ow && (!f || fr) then some (.agg s ds) else none
 carry {K F H H' O O' mine v} h k c := by
  obtain ⟨l, xs, rfl, e, hs, i⟩ := h;obtain ⟨m, e1, e2⟩ := Sh.mo hs;exact ⟨l, xs, rfl, e, e2 H' (k l m (by simp) e1), i.carry (c fr)⟩
 env {K F H O mine v ow fr' d'} op inS h e := by
  by_cases q : (ow && (!fr' || fr)) = true
  . rw [if_pos q] at e;cases e;obtain ⟨l, xs, rfl, rfl, hs, i⟩ := h;simp at q;refine bH.mpr ⟨l, xs, rfl, hs, inS q.1 l (by simp), i.carry (m6 op fun hf => ?_)⟩;subst hf;simpa using q.2
  . rw [if_neg q] at e; cases e
def Gk (K : Frag) (ρ : List (Option D)) (d : D) : TE := fun σ H Q => ∃ Z : ax, Z.Open H /\ cy K H Z σ ρ /\ ∀ v H', ao H H' -> e9 K H' Z d v -> Q v H'
def EG (X : Cx) (ρ : List (Option D)) (e : Expr) (d : D) : Prop := PE X e (Gk X.K ρ d)
section
variable {X : Cx} {ρ : List (Option D)} {m m1 m2 : Bool} {a b o e : Expr} {d dk : D} {pos : Pos} {s : Sh} {ds : List D}
theorem aQ (i : Nat) {x : Str} {d : D} (hr : ρ[i]? = some (some d) := by rfl) (hN : X.N[i]? = some x := by rfl)
 (hv : kb X.env.scope x := by first | exact Or.inl rfl | exact Or.inr (Or.inl rfl) | exact Or.inr (Or.inr rfl)) (hd : NdX x := by decide)
 (hcd : NcX x := by decide) : EG X ρ (.Name x pos) d :=
 PE.mono (bx hN hv hd hcd) fun σ H Q z0 => aU z0 fun Z oz en k => by
  obtain ⟨v, e, i⟩ := en i d hr;exact ⟨v, e, k v H (ao.refl H) i⟩
def Sh.key (s : Sh) (d : D) (j : Option Nat) : Prop := match s with
 | .k ks => ∃ k, d = kD k /\ j = ks.findIdx? (· = k)
 | .t ks => ∃ k, d = .tup (k.map kD) /\ j = ks.findIdx? (· = k)
 | .o _ _ => False
 | .f _ ks => ∃ k, d = kD k /\ j = ks.findIdx? (· = k)
theorem fF {κ : Type} [DecidableEq κ] : ∀ (ks : List κ) (xs : List V) (k : κ), ks.length = xs.length -> dQ (ks.zip xs) k = (ks.findIdx? (· = k)).bind fun j => xs[j]?
 | [], [], _, _ => rfl
 | [], _ :: _, _, h => by cases h
 | _ :: _, [], _, h => by cases h
 | a :: ks, x :: xs, k, h => by
  have ih := fF ks xs k (by simpa using h);rw [List.zip_cons_cons, List.findIdx?_cons];by_cases q : a = k
  . simp [dQ, q]
  . have : dQ ((a, x) :: ks.zip xs) k = dQ (ks.zip xs) k := by simp [dQ, q]
    rw [this, ih];simp only [decide_eq_true_eq, q, if_false]
    cases ks.findIdx? (· = k) with
    | none => simp
    | some j => simp
theorem BQ {K : Frag} {H : Hp} {Z Z' : ax} {d : D} {j : Option Nat} {x y : V} (hx : e9 K H Z (.agg s ds) x) (hy : In K H Z' d y) (h : s.key d j) : ∃ a r, x = .ref a /\ jV H a y r /\ (∀ v, r = some v -> ∃ i d', j = some i /\ ds[i]? = some d' /\ e9 K H Z d' v) /\ r.isSome = j.isSome := by
 obtain ⟨a, xs, rfl, hs, _, hi⟩ := bH.mp hx;have key : ∀ {κ : Type} [DecidableEq κ] (ks : List κ) (k : κ), ks.length = xs.length -> j = ks.findIdx? (· = k) -> (∀ v, dQ (ks.zip xs) k = some v -> ∃ i d', j = some i /\ ds[i]? = some d' /\ e9 K H Z d' v) /\ (dQ (ks.zip xs) k).isSome = j.isSome := fun ks k hl hj => by
  have hd := hi.length;rw [fF ks xs k hl, <- hj]
  cases hq : j with
  | none => exact ⟨fun v e => (by cases e), rfl⟩
  | some i =>
   have hlt : i < ks.length := by
    rw [hq] at hj;exact (List.findIdx?_eq_some_iff_getElem.mp hj.symm).1
   have hx : xs[i]? = some xs[i] := by simp [<- hl, hlt]
   refine ⟨fun v e => ?_, by simp [<- hl, hlt]⟩;have e : xs[i]? = some v := e;obtain ⟨v', e1, e2⟩ := hi.get (i := i) (d := ds[i]) (by simp [hd, <- hl, hlt]);rw [e1] at e;cases e;exact ⟨i, _, rfl, by simp [hd, <- hl, hlt], e2⟩
 cases s with
 | k ks =>
  obtain ⟨k, rfl, hj⟩ := h;rw [lr hy];obtain ⟨e1, e2⟩ := key ks k hs.1 hj;exact ⟨a, _, rfl, .k hs.2, e1, e2⟩
 | t ks =>
  obtain ⟨k, rfl, hj⟩ := h;obtain ⟨b, ys, rfl, eb, jj⟩ := bh.mp hy;rw [rL jj] at eb;obtain ⟨e1, e2⟩ := key ks k hs.1 hj;exact ⟨a, _, rfl, .t hs.2 eb, e1, e2⟩
 | o C fs => exact h.elim
 | f b ks =>
  obtain ⟨k, rfl, hj⟩ := h;rw [lr hy];obtain ⟨e1, e2⟩ := key ks k hs.1 hj;exact ⟨a, _, rfl, .inl ⟨_, k, .inr ⟨b, hs.2⟩, rfl, rfl⟩, e1, e2⟩
theorem xP {j : Option Nat} (ha : E X m1 ρ a dk) (hb : EG X ρ b (.agg s ds)) (hk : s.key dk j) (hu : X.A.units + 1 < cLine) (hm : behindInMarks .In b = false := by rfl) : T X ρ (.Compare a [.In] [b] pos) j.isSome :=
 PT.mono (xu (CU hu ha hb) hm) fun σ H Q z0 => aU z0 fun Z oz en k => ⟨Z, oz, en, fun y H1 s1 i1 => ⟨Z, oz.same s1, en.same s1, fun x H2 s2 i2 => by
  obtain ⟨a, r, rfl, g, _, hr⟩ := BQ i2 ((i1.plain oz).same s2) hk;exact ⟨a, r, rfl, g, r.isSome, rfl, hr ▸ k H2 (s1.trans s2)⟩⟩⟩
theorem wK {j : Option Nat} (ha : E X m1 ρ a dk) (hb : EG X ρ b (.agg s ds)) (hk : s.key dk j) (hu : X.A.units + 1 < cLine) (hm : behindInMarks .NotIn b = false := by rfl) : T X ρ (.Compare a [.NotIn] [b] pos) (!j.isSome) :=
 PT.mono (xu (vk hu ha hb) hm) fun σ H Q z0 => aU z0 fun Z oz en k => ⟨Z, oz, en, fun y H1 s1 i1 => ⟨Z, oz.same s1, en.same s1, fun x H2 s2 i2 => by
  obtain ⟨a, r, rfl, g, _, hr⟩ := BQ i2 ((i1.plain oz).same s2) hk;exact ⟨a, r, rfl, g, !r.isSome, rfl, hr ▸ k H2 (s1.trans s2)⟩⟩⟩
theorem iW {j : Nat} (ho : EG X ρ o (.agg s ds)) (hi : E X m2 ρ e dk) (hk : s.key dk (some j)) (hj : ds[j]? = some d) (hn : d.zd = true) (hu : X.A.units + 1 < cLine) (hs : z9 e := by intro _ _; rfl) : E X false ρ (.Subscript o e pos) d :=
 PE.mono (t5 hu ho hi hs) fun σ H Q z0 => aU z0 fun Z oz en k => ⟨Z, oz, en, fun x H1 s1 i1 => ⟨Z, oz.same s1, en.same s1, fun y H2 s2 i2 => by
  obtain ⟨a, r, rfl, g, hv, hr⟩ := BQ (i1.same s2) (i2.plain (oz.same s1)) hk
  cases r with
  | none => cases hr
  | some v =>
   obtain ⟨i, d', e1, e2, e3⟩ := hv v rfl;cases e1;rw [hj] at e2;cases e2;exact ⟨a, v, rfl, g, k _ H2 (s1.trans s2) (e3.iR hn)⟩⟩⟩
end
section
variable {X : Cx} {F : Fn} {ρ : bX} {Q : ft} {rest : List Stmt} {e key : Expr} {pos p sp : Pos} {m1 m2 : Bool}
theorem aW.oa {K : Frag} {H : Hp} {σ hv : St} {hρ : bX} {A : Nat -> List Addr} {i : Nat} {fr : Bool} {s : Sh} {ds : List D} (S : aW K F H (σ ++ hv) (ρ ++ hρ) A) (hl : σ.length = ρ.length) (h : ρ[i]? = some (some (.gen (x8 fr s ds)))) :
 ∃ l xs, σ[i]? = some (some (.ref l)) /\ A i = [l] /\ s.at H l xs /\ bj K H (zn F (az A) fr) ds xs := by
 have hi : i < ρ.length := (List.getElem?_eq_some_iff.mp h).1;obtain ⟨v, a, l, xs, e1, rfl, e2, e3⟩ := S.at' i _ (by rw [getElem?_append_left hi]; exact h);rw [getElem?_append_left (by omega)] at a;exact ⟨l, xs, a, e1, e2, e3⟩
theorem wI {K : Frag} {hv : St} {hρ : bX} {σ : St} {H : Hp} {A : Nat -> List Addr} {i : Nat} {l : Addr} {fr : Bool} {xs : List V} {m m' : MO} {s : Sh} {ds : List D} (hl : σ.length = ρ.length) (S : aW K F H (σ ++ hv) (ρ ++ hρ) A) (h : σ[i]? = some (some (.ref l))) (hA : A i = [l]) (hx : H l = some m.ho)
 (hs : s.at (upd H l m'.ho) l xs) (j : bj K H (zn F (az A) fr) ds xs) : mM K F hv hρ (fun r => r = ρ.set i (some (.gen (x8 fr s ds)))) σ (upd H l m'.ho) := by
 have hi : i < σ.length := (List.getElem?_eq_some_iff.mp h).1;refine ⟨_, aL A i [l], by simp [hl], ?_, rfl⟩;have key := S.re (i := i) (v := .ref l) (sl := .gen (x8 fr s ds)) (l := [l]) (H2 := upd H l m'.ho) (by rw [List.length_append]; omega) (by rw [List.length_append]; omega) (S.same.fG (xs := m) (S.new i l (by rw [hA]; simp)) hx) (fun b u e _ hb => ?_) eL (fun a ha => ?_) ⟨l, xs, rfl, rfl, hs, ?_⟩
 . rw [bG (by rw [getElem?_append_left hi]; exact h), aH (by omega)] at key;exact key
 . rw [hA] at hb;have : b ≠ l := by simpa using hb
   rw [aa this]; exact e
 . have : a = l := by simpa using ha
   subst this;exact ⟨.inl (by rw [hA]; simp), m', ae⟩
 . have eqA : aL A i [l] = A := by
    funext k;by_cases q : k = i
    . rw [q, aF, hA]
    . rw [aS q]
   rw [eqA];refine j.carry (Carry.fG (xs := m) hx ?_);unfold zn;cases fr
   . exact fun z => z.2 ⟨i, by rw [hA]; simp⟩
   . exact fun z => z.2 ⟨i, by rw [hA]; simp⟩
theorem v7 (i : Nat) {x : Str} {p2 : Pos} (fr : Bool) (hr : SD X F rest (ρ.set i (some (.gen (x8 fr (.k []) [])))) Q) (hN : X.N.Nodup) (hi : X.N[i]? = some x := by rfl)
 (hx : Loc X.env.scope x := by first | exact Or.inl rfl | exact Or.inr rfl) (hρ : i < ρ.length := by exact of_decide_eq_true rfl) (hs : swapsWith (.Dict [] [] p2) (some (.Name x p)) pos.line X.env = pure false := by rfl) (hf : HfX X x := by first | exact .inl rfl | exact .inr rfl) :
 SD X F (.Assign [.Name x p] (.Dict [] [] p2) pos :: rest) ρ Q :=
 aM (PS.mono (gi hN hi hx (tZ (ρ := view true false ρ)) hs hf) fun Q' σ H z0 => d8 z0 fun hv hρ' A hl S f => ⟨_, ar S true false, S.env hl true false, fun v H1 s1 i1 => by
  obtain ⟨l, rfl, e1, e2⟩ := aZ.mp i1;refine f.nx _ H1 ⟨_, aL A i [l], by simp [hl], ?_, rfl⟩;rw [<- aH (by omega), <- aH hρ];exact S.put (by rw [List.length_append]; omega) (by rw [List.length_append]; omega) s1 eL (fun a ha => by
   have : a = l := by simpa using ha
   subst this;exact ⟨e2, .d (.k []), e1⟩) ⟨l, [], rfl, rfl, ⟨rfl, e1⟩, bt.mpr rfl⟩⟩) hr
def Sh.new (s : Sh) (d : D) (s' : Sh) : Prop := match s with
 | .k ks => ∃ k, d = kD k /\ k ∉ ks /\ ks.length < sizeLine /\ s' = .k (ks ++ [k])
 | .t ks => ∃ k, d = .tup (k.map kD) /\ k ∉ ks /\ ks.length < sizeLine /\ s' = .t (ks ++ [k])
 | .o _ _ => False
 | .f _ _ => False
theorem Ec {K : Frag} {H : Hp} {Z' : ax} {d : D} {s s' : Sh} {xs : List V} {v y : V} {a : Addr} (hs : s.at H a xs) (hy : In K H Z' d y) (h : s.new d s') : ∃ m m' : MO, H a = some m.ho /\ tF H a y v (upd H a m'.ho) /\ s'.at (upd H a m'.ho) a (xs ++ [v]) := by
 have key : ∀ {κ : Type} [DecidableEq κ] (ks : List κ) (k : κ), ks.length = xs.length -> k ∉ ks -> putK (ks.zip xs) k v = (ks ++ [k]).zip (xs ++ [v]) := fun ks k hl hk => by
  rw [xH]
  . rw [List.zip_append hl]; rfl
  . rw [fF ks xs k hl, List.findIdx?_eq_none_iff.mpr fun x hx => by simp; exact fun z => hk (z ▸ hx)];rfl
 cases s with
 | k ks =>
  obtain ⟨k, rfl, hk, hz, rfl⟩ := h;refine ⟨.d (.k _), .d (.k (putK (ks.zip xs) k v)), hs.2, ?_, by rw [List.length_append, List.length_append, hs.1]; rfl, ?_⟩
  . rw [lr hy];exact .k hs.2 (by rw [List.length_zip]; omega)
  . rw [<- key ks k hs.1 hk]; exact ae
 | t ks =>
  obtain ⟨k, rfl, hk, hz, rfl⟩ := h;obtain ⟨b, ys, rfl, eb, jj⟩ := bh.mp hy;rw [rL jj] at eb;refine ⟨.d (.t _), .d (.t (putK (ks.zip xs) k v)), hs.2, .t hs.2 eb (by rw [List.length_zip]; omega), by rw [List.length_append, List.length_append, hs.1]; rfl, ?_⟩;rw [<- key ks k hs.1 hk]; exact ae
 | o C fs => exact h.elim
 | f b ks => exact h.elim
theorem zp (i : Nat) {x : Str} {s s' : Sh} {ds : List D} (fr : Bool) {dk dv : D} (h : ρ[i]? = some (some (.gen (x8 fr s ds))) := by rfl) (hk : E X m1 (view true false ρ) key dk) (he : E X m2 (view false fr ρ) e dv) (hp : s.new dk s') (hu : X.A.units + 1 < cLine)
 (hr : SD X F rest (ρ.set i (some (.gen (x8 fr s' (ds ++ [dv]))))) Q) (hN : X.N[i]? = some x := by rfl) (hvis : kb X.env.scope x := by first | exact Or.inl rfl | exact Or.inr (Or.inl rfl) | exact Or.inr (Or.inr rfl)) (hd : NdX x := by decide) (hcd : NcX x := by decide)
 (hsw : swapsWith e (some (.Subscript (.Name x p) key sp)) pos.line X.env = pure false := by rfl) : SD X F (.Assign [.Subscript (.Name x p) key sp] e pos :: rest) ρ Q := by
 refine aM (PS.mono (uh hu (bx hN hvis hd hcd) hk he hsw) fun Q' σ H ⟨hv', hρ, A, hl, S, f⟩ => ?_) hr;obtain ⟨l, xs, e1, e2, e3, e4⟩ := S.oa hl h;refine ⟨_, ar S false fr, S.env hl false fr, fun w H1 s1 i1 => ?_⟩;have i1 : In X.K H1 (zn F (az A) fr) dv w := i1.plain (ar S false fr);refine ⟨.ref l, e1, _, (ar S true false).same s1, (S.env hl true false).same s1, fun y H2 s2 i2 => ?_⟩;have s12 := s1.trans s2;obtain ⟨m0, q1, q2⟩ := Sh.mo e3;have hat : s.at H2 l xs := q2 H2 (s12.at q1 m0.nt);obtain ⟨m, m', z1, z2, z3⟩ := Ec (v := w) hat i2 hp;exact ⟨l, _, rfl, z2, f.nx _ _ (wI hl (S.grow s12) e1 e2 z1 z3 ((e4.same s12).append (bj.one (i1.same s2).top)))⟩
end
end Y
namespace Y
open PySem PySem.Spec PyProof.Rows L2
section
variable {prog : Program} {w : World} {A : Around} {E : GJ} {s : Shared} {d S : Addr} {ep : Nat} {es : Array DictEntry} {sm : GL}
abbrev mI (es : Array DictEntry) (ep : Nat) (sm : GL) : Obj := ⟨.type "dict", none, .dict es ep, sm⟩
theorem vg {it : Addr} (hh : A.handled = none) (ne : d ≠ it) : Walks prog w A it [it, d] [it] es.size (fun i v => (es[i]?).map (·.key) = some v) (fun i h => h.IsKeyIter it d i es.size ep /\ h.get? d = some (mI es ep sm)) where
 sub := fun b hb => by rw [List.mem_singleton.mp hb]; exact mem_cons_self
 frame := fun i h h' ⟨⟨o, e1, e2⟩, st⟩ k => ⟨⟨o, k it (by simp) _ e1, e2⟩, k d (by simp) _ st⟩
 item := fun i s Q E hi ⟨st, sd⟩ q => nG st sd hi fun h' k1 k2 => q _ h' s.toks (by simp [hi]) ⟨k1, (k2.2 d ne).trans sd⟩ fun b o hb e => (k2.2 b fun z => hb (by rw [z]; exact List.mem_singleton.mpr rfl)).trans e
 done := fun s Q E ⟨st, sd⟩ q => qX hh st sd (Nat.le_refl _) fun h' k1 => q h' s.toks fun b o hb e => k1 b o (fun z => hb (by rw [z]; exact List.mem_singleton.mpr rfl)) e
 self := fun i s Q E ⟨st, _⟩ q => wpAny_pyIter_slot st.typeIs F.slot_dict_keyiterator_iter (wpAny_call_entry F.slot_dict_keyiterator_iter st.typeIs F.entry_dict_keyiterator_iter (wpAny_pure ⟨_, rfl, "dict_keyiterator", _, st.typeIs, F.slot_dict_keyiterator_next.lookup, q⟩) (F.args_dict_keyiterator_iter_1 _))
theorem oT {R : Result -> Shared -> Prop} {c0 : Nat} {res : Value} (hh : A.handled = none) (hn : (d == sysModules) = false) (hd : s.heap.get? d = some (mI es ep sm)) (hS : s.heap.get? S = some { cls := .type "list", data := .seq #[] c0 }) (hSa : S ≠ d) (hz : es.size + 2 <= sizeLine)
 (hR : ∀ h' tk acc c, (∀ b o, b ≠ S -> s.heap.get? b = some o -> h'.get? b = some o) -> h'.get? S = some { cls := .type "list", dict := none, data := .seq acc c, slots := #[] } -> acc.toList = es.toList.map (·.key) -> R (.ok (.ret res)) { s with heap := h', toks := tk }) :
 wpAny (model prog w) A.in1 (Builtin.List.listExtendWith (.ref S) (.ref d) res) (Ft prog w A R) (fun e s' => R (.error e) s') s := by
 have Ty : s.TypeIs (.ref d) "dict" := ⟨_, hd, rfl⟩
 have same : Builtin.List.listSameRef (.ref S) (.ref d) = false := by simp [Builtin.List.listSameRef, hSa]
 have hh1 : A.in1.handled = none := hh;unfold Builtin.List.listExtendWith;refine wpAny_bind (wpAny_typeOf Ty ?_);rw [if_neg (by rw [same]; decide)];have ld := lt_size hd;have lS := lt_size hS;refine wpAny_bind (m7 hn hd ?_);generalize hh2 : s.heap.push { cls := .type "dict_keyiterator", data := .fields #[.ref d, .int 0 0, .int es.size 0, .int ep 0] } = h1;have k1 : ∀ b o, s.heap.get? b = some o -> h1.get? b = some o := fun b o e => by rw [<- hh2]; exact get?_push_of_some _ e
 have it1 : h1.IsKeyIter s.heap.objs.size d 0 es.size ep := by rw [<- hh2]; exact ⟨_, get?_push_size _ rfl, rfl, rfl⟩
 have T1 : Shared.TypeIs { s with heap := h1 } (.ref d) "dict" := ⟨_, k1 _ _ hd, rfl⟩
 refine wpAny_bind (wpAny_holding (PySem.W.kdl_hint_dict T1 ?_));rw [if_pos (by decide)];refine wpAny_bind (wpAny_rule (wpAny_bind ?_));have W := vg (prog := prog) (w := w) (A := A.in1) (es := es) (ep := ep) (sm := sm) (d := d) (it := s.heap.objs.size) hh1 (Nat.ne_of_lt ld);have nS : ∀ b ∈ [s.heap.objs.size, d], b ≠ S := fun b hb z => by
  simp only [mem_cons, not_mem_nil, or_false] at hb;rcases hb with e | e
  . exact absurd lS (by rw [<- z, e]; exact Nat.lt_irrefl _)
  . exact hSa (z.symm.trans e)
 refine DJ (s := { s with heap := h1 }) (k1 _ _ hS) fun h2 c2 oth hS3 => ?_;refine wpAny_pure ⟨plainId_quiet PySem.F.plain_extend_loop _, codeAny_extend_loopS W.toS (by omega) S (fun z => nS S z rfl) res es.size 0 _ #[] _ rfl (Nat.zero_le _) (W.frame 0 _ _ ⟨it1, k1 _ _ hd⟩ fun b hb o e => oth b o (nS b hb) e) hS3 (ItemsOf.nil _) fun s' acc c m e1 e2 => ?_⟩;obtain ⟨h', g', d', tk', os'⟩ := s';have q1 : g' = s.gens := m.gens;have q2 : d' = s.drawn := m.drawn;have q3 : os' = s.os := m.os;subst q1 q2 q3;refine hR h' tk' acc c (fun b o hb e => m.heap b o (fun z => ?_) (oth b o hb (k1 b o e))) e1 ?_
 . rcases mem_cons.mp z with z | z
   . exact hb z
   . exact absurd (lt_size e) (by rw [List.mem_singleton.mp z]; exact Nat.lt_irrefl _)
 . apply List.ext_getElem?;intro i;by_cases hi : i < acc.size
   . have := e2.2 i acc[i] (Array.getElem?_eq_getElem hi);rw [getElem?_map, Array.getElem?_toList, Array.getElem?_toList, Array.getElem?_eq_getElem hi];exact this.symm
   . have h1 := e2.1;rw [List.getElem?_eq_none (by rw [Array.length_toList]; omega), List.getElem?_eq_none (by rw [length_map, Array.length_toList]; omega)]
theorem mS {Q : List Value -> Shared -> Prop} (hh : A.handled = none) (hn : (d == sysModules) = false) (hd : s.heap.get? d = some (mI es ep sm)) (hz : es.size + 2 <= sizeLine)
 (q : ∀ h' tk, (∀ b o, s.heap.get? b = some o -> h'.get? b = some o) -> Q (es.toList.map (·.key)) { s with heap := h', toks := tk }) : wpAny (model prog w) A (collect (.ref d)) Q E s := by
 have la := lt_size hd;unfold collect;refine wpAny_bind (wpAny_runValue (codeAny_builtin PySem.F.entry_proto_collect ?_));rw [Around.under_plainId PySem.F.plain_proto_collect _];refine wpAny_bind (m := newList []) (wpAny_newObj_type (wpAny_pure ⟨plainId_quiet PySem.F.plain_list_iadd _, codeAny_builtin PySem.F.entry_list_iadd ?_⟩));rw [Around.under_plainId PySem.F.plain_list_iadd _];have hS : (s.heap.push { cls := .type "list", data := .seq ([] : GO).toArray }).get? s.heap.objs.size = some { cls := .type "list", data := .seq #[] } := get?_push_size _ rfl;have run := oT (prog := prog) (w := w) (A := A) (s := { s with heap := s.heap.push { cls := .type "list", data := .seq ([] : GO).toArray } }) (res := .ref s.heap.objs.size) (R := fun r s' => ∃ h' tk acc c, r = .ok (.ret (.ref s.heap.objs.size)) /\ s' = { s with heap := h', toks := tk } /\ (∀ b o, s.heap.get? b = some o -> h'.get? b = some o) /\ h'.get? s.heap.objs.size = some { cls := .type "list", dict := none, data := .seq acc c, slots := #[] } /\ acc.toList = es.toList.map (·.key))
  hh hn (get?_push_of_some _ hd) hS (Nat.ne_of_gt la) hz fun h' tk acc c k1 k2 k3 => ⟨h', tk, acc, c, rfl, rfl, fun b o e => k1 b o (Nat.ne_of_lt (lt_size e)) (get?_push_of_some _ e), k2, k3⟩
 show wpAny _ A.in1 (Builtin.List.listExtendWith (.ref s.heap.objs.size) (.ref d) (.ref s.heap.objs.size)) _ _ _;refine wpAny_mono run (fun x s' z => ?_) fun e s' z => ?_
 . cases x with
   | done f =>
    obtain ⟨h', tk, acc, c, e, rfl, k1, k2, k3⟩ := z;cases e;exact wpAny_bind (wpAny_load k2 (wpAny_pure (k3 ▸ q h' tk k1)))
   | again c =>
    refine ⟨z.1, codeAny_mono z.2 fun r s2 y => ?_⟩;obtain ⟨h', tk, acc, c, rfl, rfl, k1, k2, k3⟩ := y;exact wpAny_bind (wpAny_load k2 (wpAny_pure (k3 ▸ q h' tk k1)))
 . obtain ⟨_, _, _, _, e', _⟩ := z;cases e'
end
end Y
namespace Y
open PySem PySem.Spec PyProof.Rows L2 PySem.SeqAt
variable [bT]
section
variable {X : Cx} {ρ : List (Option D)} {m1 : Bool} {o : Expr} {p pos : Pos} {P : D -> Prop} {kd : SortKind} {kvs : List (List Key × V)}
theorem t4 {K : Frag} {H : Hp} {Z : ax} : ∀ k : List Key, aC K H Z (k.map kD) (k.map kV)
 | [] => ay.mpr rfl
 | q :: k => ag.mpr ⟨_, _, rfl, Bz q, t4 k⟩
end
end Y
namespace Y
open PySem PySem.Spec PyProof.Rows L2
variable [bT]
theorem wU {H : Hp} {l : Addr} {m : MO} (hl : H l = some m.ho) (t : TabsOk H) : TabsOk (mw H [l]) := fun P hP => by
 obtain ⟨ps, e, tr, k⟩ := t P hP;have no : ∀ {b : Addr} {o : HO}, H b = some o -> (∀ m : MO, o ≠ m.ho) -> b ∉ [l] := fun {b o} q n z => by
  rw [List.mem_singleton.mp z, hl] at q;exact n m (Option.some.inj q).symm
 refine ⟨ps, by rw [eI (no e (by intro m z; rcases m with xs | (kvs | kvs) | _ <;> cases z))]; exact e, tr, fun pos cv q => ?_⟩;obtain ⟨c, rfl, hc⟩ := k pos cv q;exact ⟨c, rfl, by rw [eI (no hc (by intro m z; rcases m with xs | (kvs | kvs) | _ <;> cases z))]; exact hc⟩
inductive AS where
 | l (ds : List D)
 | k (ks : List Key) (ds : List D)
def AS.d : AS -> D
 | .l ds => .lst ds
 | .k ks ds => .agg (.k ks) ds
def AS.at (K : Frag) (H : Hp) (Z : ax) (a : Addr) : AS -> Prop
 | .l ds => ∃ xs, H a = some (.lst xs) /\ aC K H Z ds xs
 | .k ks ds => ∃ xs, (Sh.k ks).at H a xs /\ bj K H Z ds xs
abbrev dB := List (Str × AS)
def gN (C : Addr) (fs : dB) : D := .agg (.o C (fs.map (·.1))) (fs.map (·.2.d))
abbrev r0 := Str × AS × Addr
def iQ (ps : List r0) : dB := ps.map fun q => (q.1, q.2.1)
def bD (ps : List r0) : List Addr := ps.map fun q => q.2.2
def iL (ps : List r0) : List (Str × V) := ps.map fun q => (q.1, .ref q.2.2)
section
variable {K : Frag} {H H' : Hp} {Z Z' : ax} {a : Addr} {s : AS}
theorem AS.mo (h : s.at K H Z a) : ∃ m : MO, H a = some m.ho := by
 cases s with
 | l ds => obtain ⟨xs, e, _⟩ := h; exact ⟨.l xs, e⟩
 | k ks ds => obtain ⟨xs, e, _⟩ := h; exact ⟨.d (.k _), e.2⟩
theorem AS.carry (h : s.at K H Z a) (k : ∀ m : MO, H a = some m.ho -> H' a = some m.ho) (c : Carry K H Z H' Z') : s.at K H' Z' a := by
 cases s with
 | l ds => obtain ⟨xs, e, i⟩ := h; exact ⟨xs, k (.l xs) e, i.carry c⟩
 | k ks ds => obtain ⟨xs, e, i⟩ := h; exact ⟨xs, ⟨e.1, k (.d (.k _)) e.2⟩, i.carry c⟩
theorem AS.Gu (h : s.at K H Z a) (c : Carry K H Z H Z') (z : Z'.S a) : e9 K H Z' s.d (.ref a) := by
 cases s with
 | l ds => obtain ⟨xs, e, i⟩ := h; exact (ah.mpr ⟨a, xs, rfl, .inl ⟨e, z⟩, i.carry c⟩).top
 | k ks ds => obtain ⟨xs, e, i⟩ := h; exact bH.mpr ⟨a, xs, rfl, e, z, i.carry c⟩
theorem i9 (c : Carry K H Z H Z') : ∀ {ps : List r0}, (∀ q ∈ ps, q.2.1.at K H Z q.2.2 /\ Z'.S q.2.2) -> bj K H Z' ((iQ ps).map (·.2.d)) ((bD ps).map V.ref)
 | [], _ => bt.mpr rfl
 | q :: ps, h => aO.mpr ⟨_, _, rfl, AS.Gu (h q (by simp)).1 c (h q (by simp)).2, i9 c fun r hr => h r (by simp [hr])⟩
theorem uH (ps : List r0) : iL ps = ((iQ ps).map (·.1)).zip ((bD ps).map V.ref) := by
 induction ps with
 | nil => rfl
 | cons q ps ih =>
  simp only [iL, iQ, bD, map_cons, List.zip_cons_cons] at ih ⊢;rw [ih]
end
def gB (o : GQ) (C : Addr) (fs : dB) : SP where
 p K F H O mine v := ∃ b dx ps, (∀ a, o = some a -> b = a) /\ iQ ps = fs /\ mine = b :: bD ps /\ v = .ref b /\ H b = some (.ins C dx (iL ps)) /\ ∀ q ∈ ps, q.2.1.at K H (zn F O false) q.2.2
 vw ow f := if ow && !f then some (gN C fs) else none
 carry {K F H H' O O' mine v} h k c := by
  obtain ⟨b, dx, ps, e0, e1, rfl, e2, e3, i⟩ := h;exact ⟨b, dx, ps, e0, e1, rfl, e2, k b (.i C dx _) (by simp) e3, fun q hq => AS.carry (i q hq) (fun m e => k _ m (mem_cons_of_mem _ (mem_map.mpr ⟨q, hq, rfl⟩)) e) (c false)⟩
 env {K F H O mine v ow fr' d'} op inS h e := by
  by_cases q : (ow && !fr') = true
  . rw [if_pos q] at e;cases e;obtain ⟨b, dx, ps, _, rfl, rfl, rfl, e3, i⟩ := h;simp at q;refine bH.mpr ⟨b, (bD ps).map V.ref, rfl, ⟨by simp [iQ, bD], dx, by rw [<- uH]; exact e3⟩, inS q.1 b (by simp), i9 (m6 op fun hf => ?_) fun r hr => ⟨i r hr, inS q.1 _ (mem_cons_of_mem _ (mem_map.mpr ⟨r, hr, rfl⟩))⟩⟩;rw [q.2] at hf; cases hf
  . rw [if_neg q] at e; cases e
def vU (f : Str) (s : AS) : dB -> dB
 | [] => [(f, s)]
 | (g, t) :: r => if g = f then (g, s) :: r else (g, t) :: vU f s r
def iP (f : Str) (s : AS) (a : Addr) : List r0 -> List r0
 | [] => [(f, s, a)]
 | (g, t, c) :: r => if g = f then (g, s, a) :: r else (g, t, c) :: iP f s a r
theorem yv (f : Str) (s : AS) (a : Addr) : ∀ ps, iQ (iP f s a ps) = vU f s (iQ ps)
 | [] => rfl
 | (g, t, c) :: r => by
  have ih := yv f s a r;unfold iQ at ih ⊢;simp only [iP, vU, map_cons];split
  . rfl
  . simp only [map_cons, ih]
theorem Bc (f : Str) (s : AS) (a : Addr) : ∀ ps, iL (iP f s a ps) = eN f (.ref a) (iL ps)
 | [] => rfl
 | (g, t, c) :: r => by
  have ih := Bc f s a r;unfold iL at ih ⊢;simp only [iP, eN, map_cons];split
  . rfl
  . simp only [map_cons, ih]
theorem j8 {f : Str} {s : AS} {a : Addr} {q : r0} : ∀ {ps}, q ∈ iP f s a ps -> (q.2.1 = s /\ q.2.2 = a) \/ q ∈ ps
 | [], h => .inl (by rw [List.mem_singleton.mp h]; exact ⟨rfl, rfl⟩)
 | (g, t, c) :: r, h => by
  unfold iP at h;split at h
  . rcases mem_cons.mp h with rfl | h
    . exact .inl ⟨rfl, rfl⟩
    . exact .inr (mem_cons_of_mem _ h)
  . rcases mem_cons.mp h with rfl | h
    . exact .inr mem_cons_self
    . exact (j8 h).imp id (mem_cons_of_mem _)
theorem yY {f : Str} {s : AS} {a : Addr} : ∀ {ps}, (bD ps).Nodup -> a ∉ bD ps -> (bD (iP f s a ps)).Nodup
 | [], _, _ => by simp [iP, bD]
 | (g, t, c) :: r, h, n => by
  unfold bD at h n ⊢;rw [map_cons] at h n;obtain ⟨h1, h2⟩ := nodup_cons.mp h;have n1 : a ≠ c := fun z => n (by rw [z]; exact mem_cons_self);have n2 : a ∉ r.map (fun q => q.2.2) := fun z => n (mem_cons_of_mem _ z);unfold iP;split
  . rw [map_cons]; exact nodup_cons.mpr ⟨n2, h2⟩
  . rw [map_cons];refine nodup_cons.mpr ⟨fun z => ?_, yY h2 n2⟩;obtain ⟨q, hq, e⟩ := mem_map.mp z;rcases j8 hq with ⟨_, e2⟩ | z2
    . exact n1 (e2.symm.trans e)
    . exact h1 (mem_map.mpr ⟨q, z2, e⟩)
theorem iF {f : Str} {s0 : AS} : ∀ {ps}, (iQ ps).lookup f = some s0 -> ∃ a, (f, s0, a) ∈ ps /\ (iL ps).lookup f = some (.ref a) /\ ∀ s, bD (iP f s a ps) = bD ps /\ iL (iP f s a ps) = iL ps /\ ((bD ps).Nodup -> ∀ q ∈ iP f s a ps, (q.2.1 = s /\ q.2.2 = a) \/ q ∈ ps /\ q.2.2 ≠ a)
 | [], h => by cases h
 | (g, t, c) :: r, h => by
  have e : (iQ ((g, t, c) :: r)).lookup f = if f == g then some t else (iQ r).lookup f := by
   show ((g, t) :: iQ r).lookup f = _;rw [lookup_cons];cases f == g <;> rfl
  have e' : (iL ((g, t, c) :: r)).lookup f = if f == g then some (.ref c) else (iL r).lookup f := by
   show ((g, V.ref c) :: iL r).lookup f = _;rw [lookup_cons];cases f == g <;> rfl
  rw [e] at h;by_cases q : f = g
  . subst q;rw [if_pos (by simp)] at h;cases h;refine ⟨c, mem_cons_self, by rw [e', if_pos (by simp)], fun s => ?_⟩;have e1 : iP f s c ((f, s0, c) :: r) = (f, s, c) :: r := if_pos rfl;rw [e1];refine ⟨rfl, rfl, fun nd p hp => ?_⟩;rcases mem_cons.mp hp with rfl | hp
    . exact .inl ⟨rfl, rfl⟩
    . refine .inr ⟨mem_cons_of_mem _ hp, fun z => ?_⟩;have nd : (c :: bD r).Nodup := nd;exact (nodup_cons.mp nd).1 (mem_map.mpr ⟨p, hp, z⟩)
  . have q' : ¬ (f == g) = true := by simpa using q
    rw [if_neg q'] at h;obtain ⟨a, h1, h2, h3⟩ := iF h;refine ⟨a, mem_cons_of_mem _ h1, by rw [e', if_neg q']; exact h2, fun s => ?_⟩;obtain ⟨k1, k2, k3⟩ := h3 s;have e1 : iP f s a ((g, t, c) :: r) = (g, t, c) :: iP f s a r := if_neg (Ne.symm q);rw [e1];refine ⟨by show c :: bD (iP f s a r) = c :: bD r; rw [k1], by show (g, V.ref c) :: iL (iP f s a r) = (g, V.ref c) :: iL r; rw [k2], fun nd p hp => ?_⟩;have nd : (c :: bD r).Nodup := nd;obtain ⟨n1, n2⟩ := nodup_cons.mp nd;rcases mem_cons.mp hp with rfl | hp
    . exact .inr ⟨mem_cons_self, fun z => n1 (mem_map.mpr ⟨_, h1, z.symm⟩)⟩
    . exact (k3 n2 p hp).imp id fun z => ⟨mem_cons_of_mem _ z.1, z.2⟩
theorem bj.look {K : Frag} {H : Hp} {Z : ax} {f : Str} {d : D} : ∀ {ns : GV} {ds : List D} {xs : List V}, bj K H Z ds xs -> (ns.zip ds).lookup f = some d -> ∃ v, (ns.zip xs).lookup f = some v /\ e9 K H Z d v
 | [], _, _, _, h => by simp at h
 | _ :: _, [], _, _, h => by simp at h
 | n :: ns, e :: ds, _, i, h => by
  obtain ⟨v, r, rfl, a, j⟩ := aO.mp i;rw [List.zip_cons_cons, lookup_cons] at h ⊢
  cases q : f == n with
  | true => rw [q] at h; cases h; exact ⟨v, rfl, a⟩
  | false => rw [q] at h; exact j.look h
section
variable {X : Cx} {ρ : List (Option D)} {e : Expr} {pos : Pos} {C : Addr} {ns : GV} {ds : List D} {f : Str} {d : D}
theorem je (he : EG X ρ e (.agg (.o C ns) ds)) (hc : mD X.K C) (hn : cM X.K C f) (hl : (ns.zip ds).lookup f = some d) (hb : attributeBase e f X.env (eval e X.env) = eval e X.env := by rfl) : EG X ρ (.Attribute e f pos) d :=
 PE.mono (kz he hb) fun σ H Q z0 => aU z0 fun Z oz en k => ⟨Z, oz, en, fun v H1 s1 i1 => by
  obtain ⟨a, xs, rfl, ⟨h1, dx, h2⟩, _, i⟩ := bH.mp i1;obtain ⟨v, h3, h4⟩ := i.look hl;exact ⟨a, C, dx, _, v, rfl, h2, hc, hn, h3, k v H1 s1 h4⟩⟩
theorem EG.Gs (h : EG X ρ e d) (hn : d.zd = true) : E X false ρ e d := PE.mono h fun σ H Q z0 => aU z0 fun Z oz en k => ⟨Z, oz, en, fun v H1 s1 i1 => k v H1 s1 (i1.iR hn)⟩
theorem Bk (he : EG X ρ e (.agg (.o C ns) ds)) (hc : mD X.K C) (hn : cM X.K C f) (hl : (ns.zip ds).lookup f = some d) (ng : d.zd = true) (hb : attributeBase e f X.env (eval e X.env) = eval e X.env := by rfl) : E X false ρ (.Attribute e f pos) d := EG.Gs (je he hc hn hl hb) ng
theorem E.eg {m : Bool} (h : E X m ρ e d) : EG X ρ e d := PE.mono h fun σ H Q z0 => aU z0 fun Z oz en k => ⟨Z, oz, en, fun v H1 s1 i1 => k v H1 s1 (i1.plain oz).top⟩
end
section
variable {X : Cx} {F : Fn} {ρ : bX} {Q : ft} {rest : List Stmt} {e key : Expr} {pos p sp : Pos} {m1 m2 : Bool} {C : Addr} {fs : dB} {f : Str} {o : GQ}
theorem aW.ob {K : Frag} {H : Hp} {σ hv : St} {hρ : bX} {A : Nat -> List Addr} {i : Nat} (S : aW K F H (σ ++ hv) (ρ ++ hρ) A) (hl : σ.length = ρ.length) (h : ρ[i]? = some (some (.gen (gB o C fs)))) :
 ∃ b dx ps, (∀ a, o = some a -> b = a) /\ iQ ps = fs /\ σ[i]? = some (some (.ref b)) /\ A i = b :: bD ps /\ H b = some (.ins C dx (iL ps)) /\ ∀ q ∈ ps, q.2.1.at K H (zn F (az A) false) q.2.2 := by
 have hi : i < ρ.length := (List.getElem?_eq_some_iff.mp h).1;obtain ⟨v, a, b, dx, ps, e0, e1, e2, rfl, e3, e4⟩ := S.at' i _ (by rw [getElem?_append_left hi]; exact h);rw [getElem?_append_left (by omega)] at a;exact ⟨b, dx, ps, e0, e1, a, e2, e3, e4⟩
theorem jv {A : Nat -> List Addr} {i : Nat} {l : List Addr} (h : A i = l) : aL A i l = A := by
 funext k;by_cases q : k = i
 . rw [q, aF, h]
 . rw [aS q]
theorem sP {K : Frag} {hv : St} {hρ : bX} {σ : St} {H : Hp} {A : Nat -> List Addr} {i : Nat} {b dx a : Addr} {ps : List r0} {s : AS} {m m' : MO} (hl : σ.length = ρ.length) (S : aW K F H (σ ++ hv) (ρ ++ hρ) A) (ho : ∀ a, o = some a -> b = a) (h : σ[i]? = some (some (.ref b))) (hA : A i = b :: bD ps) (hb : H b = some (.ins C dx (iL ps)))
 (hp : ∀ q ∈ ps, q.2.1.at K H (zn F (az A) false) q.2.2) (ha : a ∈ bD ps) (hs1 : bD (iP f s a ps) = bD ps) (hs2 : iL (iP f s a ps) = iL ps) (hs3 : (bD ps).Nodup -> ∀ q ∈ iP f s a ps, (q.2.1 = s /\ q.2.2 = a) \/ q ∈ ps /\ q.2.2 ≠ a)
 (hx : H a = some m.ho) (hn : ∀ Z : ax, ¬ Z.S a -> Carry K H Z (upd H a m'.ho) Z -> Z = zn F (az A) false -> s.at K (upd H a m'.ho) Z a) : mM K F hv hρ (fun r => r = ρ.set i (some (.gen (gB o C (vU f s (iQ ps)))))) σ (upd H a m'.ho) := by
 have hi : i < σ.length := (List.getElem?_eq_some_iff.mp h).1;have own : a ∈ A i := by rw [hA]; exact mem_cons_of_mem _ ha
 have nd := S.nd i;rw [hA] at nd;obtain ⟨n1, n2⟩ := nodup_cons.mp nd;have nz : ¬ (zn F (az A) false).S a := fun z => z.2 ⟨i, own⟩;have cw : Carry K H (zn F (az A) false) (upd H a m'.ho) (zn F (az A) false) := Carry.fG (xs := m) hx nz;refine ⟨_, aL A i (A i), by simp [hl], ?_, rfl⟩;have key := S.re (i := i) (v := .ref b) (sl := .gen (gB o C (vU f s (iQ ps)))) (l := A i) (H2 := upd H a m'.ho) (by rw [List.length_append]; omega) (by rw [List.length_append]; omega) (S.same.fG (xs := m) (S.new i a own) hx) (fun c u e _ hc => ?_) (S.nd i) (fun c hc => ⟨.inl hc, ?_⟩) ?_
 . rw [bG (by rw [getElem?_append_left hi]; exact h), aH (by omega)] at key;exact key
 . have : c ≠ a := fun z => hc (by rw [z]; exact own);rw [aa this]; exact e
 . by_cases z : c = a
   . rw [z, ae]; exact ⟨m', rfl⟩
   . rw [aa z]; exact S.lst i c hc
 . rw [jv rfl];refine ⟨b, dx, iP f s a ps, ho, yv f s a ps, by rw [hs1]; exact hA, rfl, ?_, fun q hq => ?_⟩
   . have : b ≠ a := fun z => n1 (by rw [z]; exact ha);rw [aa this, hs2]; exact hb
   . rcases hs3 n2 q hq with ⟨z1, z2⟩ | ⟨z1, z2⟩
     . rw [z1, z2]; exact hn _ nz cw rfl
     . exact AS.carry (hp q z1) (fun mm e => by rw [aa z2]; exact e) cw
theorem nB (i : Nat) {x : Str} {ap cp fp : Pos} {ds : List D} {d : D} {fs' : dB} (hc : mD X.K C) (hn : cM X.K C f) (h : ρ[i]? = some (some (.gen (gB o C fs)))) (hf : fs.lookup f = some (.l ds)) (he : E X m1 (view false false ρ) e d) (hz : ds.length < 1000) (hfs : vU f (.l (ds ++ [d])) fs = fs')
 (hr : SD X F rest (ρ.set i (some (.gen (gB o C fs')))) Q)
 (hN : X.N[i]? = some x := by rfl) (hv : kb X.env.scope x := by first | exact Or.inl rfl | exact Or.inr (Or.inl rfl) | exact Or.inr (Or.inr rfl)) (hd : NdX x := by decide) (hcd : NcX x := by decide)
 (hb0 : attributeBase (.Name x p) f X.env (eval (.Name x p) X.env) = eval (.Name x p) X.env := by rfl)
 (hbase : attributeBase (.Attribute (.Name x p) f fp) "append" X.env (eval (.Attribute (.Name x p) f fp) X.env) = eval (.Attribute (.Name x p) f fp) X.env := by rfl) (hline : (ap.endLine == cp.line) = true := by rfl)
 (hs : starEach [e] X.env = [(false, eval e X.env)] := by rfl) (hsw : swapsWith (.Call (.Attribute (.Attribute (.Name x p) f fp) "append" ap) [e] [] cp) none pos.line X.env = pure false := by rfl) :
 SD X F (.Expr (.Call (.Attribute (.Attribute (.Name x p) f fp) "append" ap) [e] [] cp) pos :: rest) ρ Q := by
 subst hfs;refine aM (PS.mono (bU (fW PySem.F.plainAttrs_list PySem.F.slot_list_append PySem.F.type_list_append bP (kz (bx hN hv hd hcd) hb0) (aJ he bc (by rw [hs]; rfl)) hbase (by rw [hs]; rfl) hline (by rw [hs]; rfl) rfl) hsw) ?_) hr;rintro Q' σ H ⟨hv, hρ, A, hl, S, ff⟩;obtain ⟨b, dx, ps, e0, rfl, e1, e2, e3, e4⟩ := S.ob hl h;obtain ⟨a, h1, h2, h3⟩ := iF hf;obtain ⟨xs, ha, j⟩ := e4 _ h1;have ha : H a = some (.lst xs) := ha;refine ⟨.ref b, e1, b, C, dx, _, .ref a, rfl, e3, hc, hn, h2, .inl ⟨rfl, xs, eP.of ha⟩, _, ar S false false, S.env hl false false, fun v H1 s1 i1 => ?_⟩;have i2 : In X.K H1 (zn F (az A) false) d v := i1.plain (ar S false false);obtain ⟨k1, k2, k3⟩ := h3 (.l (ds ++ [d]));refine ⟨a, xs, v, rfl, rfl, s1.at ha, by rw [<- j.length]; exact aR (by omega), ff.nx _ _ (sP (m := .l xs) (m' := .l (xs ++ [v])) hl (S.grow s1) e0 e1 e2 (s1.at e3) (fun q hq => AS.carry (e4 q hq) (fun m e => s1.at e m.nt) (.same s1)) (mem_map.mpr ⟨_, h1, rfl⟩) k1 k2 k3 (s1.at ha) fun Z nz c ez => ?_)⟩;subst ez;exact ⟨_, ae, (((j.same s1).append (aC.one i2)).carry c)⟩
theorem vm (i : Nat) {x : Str} {fp : Pos} {ks : List Key} {ds : List D} {k : Key} {d : D} {fs' : dB} (hc : mD X.K C) (hn : cM X.K C f) (h : ρ[i]? = some (some (.gen (gB o C fs)))) (hf : fs.lookup f = some (.k ks ds)) (hk : E X m1 (view true false ρ) key (kD k)) (he : E X m2 (view false false ρ) e d)
 (hnew : k ∉ ks) (hz : ks.length < 1000) (hfs : vU f (.k (ks ++ [k]) (ds ++ [d])) fs = fs') (hu : X.A.units + 1 < cLine) (hr : SD X F rest (ρ.set i (some (.gen (gB o C fs')))) Q)
 (hN : X.N[i]? = some x := by rfl) (hv : kb X.env.scope x := by first | exact Or.inl rfl | exact Or.inr (Or.inl rfl) | exact Or.inr (Or.inr rfl)) (hd : NdX x := by decide) (hcd : NcX x := by decide)
 (hb0 : attributeBase (.Name x p) f X.env (eval (.Name x p) X.env) = eval (.Name x p) X.env := by rfl)
 (hsw : swapsWith e (some (.Subscript (.Attribute (.Name x p) f fp) key sp)) pos.line X.env = pure false := by rfl) :
 SD X F (.Assign [.Subscript (.Attribute (.Name x p) f fp) key sp] e pos :: rest) ρ Q := by
 subst hfs;refine aM (PS.mono (uh hu (kz (bx hN hv hd hcd) hb0) hk he hsw) fun Q' σ H ⟨hv', hρ, A, hl, S, ff⟩ => ?_) hr;obtain ⟨b, dx, ps, e0, rfl, e1, e2, e3, e4⟩ := S.ob hl h;obtain ⟨a, h1, h2, h3⟩ := iF hf;obtain ⟨xs, ha, j⟩ := e4 _ h1;refine ⟨_, ar S false false, S.env hl false false, fun w H1 s1 i1 => ?_⟩;have i1 : In X.K H1 (zn F (az A) false) d w := i1.plain (ar S false false);refine ⟨.ref b, e1, b, C, dx, _, .ref a, rfl, s1.at e3, hc, hn, h2, _, (ar S true false).same s1, (S.env hl true false).same s1, fun y H2 s2 i2 => ?_⟩;have s12 := s1.trans s2;have ha2 : (Sh.k ks).at H2 a xs := ⟨ha.1, s12.at ha.2⟩
 have hnw : (Sh.k ks).new (kD k) (.k (ks ++ [k])) := ⟨k, rfl, hnew, by rw [sizeLine_eq]; omega, rfl⟩
 obtain ⟨m, m', z1, z2, z3⟩ := Ec (v := w) ha2 i2 hnw;obtain ⟨k1, k2, k3⟩ := h3 (.k (ks ++ [k]) (ds ++ [d]));refine ⟨a, _, rfl, z2, ff.nx _ _ (sP hl (S.grow s12) e0 e1 e2 (s12.at e3) (fun q hq => AS.carry (e4 q hq) (fun m e => s12.at e m.nt) (.same s12)) (mem_map.mpr ⟨_, h1, rfl⟩) k1 k2 k3 z1 fun Z nz c ez => ?_)⟩;subst ez;exact ⟨_, z3, ((j.same s12).append (bj.one (i1.same s2).top)).carry c⟩
end
theorem qW {κ : Type} [DecidableEq κ] {ks : List κ} {xs : List V} {k : κ} (hl : ks.length = xs.length) (hk : k ∈ ks) : ∃ v, dQ (ks.zip xs) k = some v := by
 rw [fF ks xs k hl]
 cases q : ks.findIdx? (· = k) with
 | none => have := List.findIdx?_eq_none_iff.mp q k hk; simp at this
 | some j =>
  have hj := (List.findIdx?_eq_some_iff_getElem.mp q).1;exact ⟨xs[j], by simp [<- hl, hj]⟩
section
variable {K : Frag} {H : Hp} {Z : ax} {k : Key}
def jT (k : Key) (kp : List (Key × D)) : List (Key × D) := kp.filter fun q => decide (q.1 ≠ k)
theorem kA : ∀ {kp : List (Key × D)} {xs : List V}, bj K H Z (kp.map (·.2)) xs -> ∃ ys, kJ ((kp.map (·.1)).zip xs) k = ((jT k kp).map (·.1)).zip ys /\ bj K H Z ((jT k kp).map (·.2)) ys
 | [], _, h => ⟨[], rfl, bt.mpr rfl⟩
 | q :: kp, _, h => by
  obtain ⟨v, r, rfl, a, j⟩ := aO.mp h;obtain ⟨ys, e1, e2⟩ := kA j;unfold kJ jT at e1 ⊢;unfold jT at e2;rw [map_cons, List.zip_cons_cons, List.filter_cons, List.filter_cons];by_cases z : q.1 = k
  . have : ¬ decide (q.1 ≠ k) = true := by simp [z]
    rw [if_neg this, if_neg this];exact ⟨ys, e1, e2⟩
  . have : decide (q.1 ≠ k) = true := by simp [z]
    rw [if_pos this, if_pos this, e1];exact ⟨v :: ys, rfl, aO.mpr ⟨v, ys, rfl, a, e2⟩⟩
end
section
variable {X : Cx} {F : Fn} {ρ : bX} {Q : ft} {rest : List Stmt} {e key : Expr} {pos p sp : Pos} {m1 m2 : Bool} {C : Addr} {fs : dB} {f : Str} {o : GQ}
theorem wd (i : Nat) {x : Str} {ap cp fp : Pos} {kp : List (Key × D)} {k : Key} {fs' : dB} (hc : mD X.K C) (hn : cM X.K C f) (h : ρ[i]? = some (some (.gen (gB o C fs)))) (hf : fs.lookup f = some (.k (kp.map (·.1)) (kp.map (·.2)))) (he : E X m1 (view true false ρ) e (kD k)) (hk : k ∈ kp.map (·.1))
 (hfs : vU f (.k ((jT k kp).map (·.1)) ((jT k kp).map (·.2))) fs = fs') (hr : SD X F rest (ρ.set i (some (.gen (gB o C fs')))) Q)
 (hN : X.N[i]? = some x := by rfl) (hv : kb X.env.scope x := by first | exact Or.inl rfl | exact Or.inr (Or.inl rfl) | exact Or.inr (Or.inr rfl)) (hd : NdX x := by decide) (hcd : NcX x := by decide)
 (hb0 : attributeBase (.Name x p) f X.env (eval (.Name x p) X.env) = eval (.Name x p) X.env := by rfl)
 (M : M1 X (.Attribute (.Name x p) f fp) "pop" ap e cp := by exact ⟨rfl, rfl, rfl, rfl⟩) (hsw : swapsWith (.Call (.Attribute (.Attribute (.Name x p) f fp) "pop" ap) [e] [] cp) none pos.line X.env = pure false := by rfl) :
 SD X F (.Expr (.Call (.Attribute (.Attribute (.Name x p) f fp) "pop" ap) [e] [] cp) pos :: rest) ρ Q := by
 subst hfs;refine aM (PS.mono (bU (rl (kz (bx hN hv hd hcd) hb0) he M) hsw) ?_) hr;rintro Q' σ H ⟨hv, hρ, A, hl, S, ff⟩;obtain ⟨b, dx, ps, e0, rfl, e1, e2, e3, e4⟩ := S.ob hl h;obtain ⟨a, h1, h2, h3⟩ := iF hf;obtain ⟨xs, ha, j⟩ := e4 _ h1;refine ⟨.ref b, e1, b, C, dx, _, .ref a, rfl, e3, hc, hn, h2, a, rfl, .inl ⟨_, .inl ha.2⟩, _, ar S true false, S.env hl true false, fun y H1 s1 i1 => ?_⟩;obtain ⟨v, hval⟩ := qW (k := k) ha.1 hk;obtain ⟨ys, g1, g2⟩ := kA (k := k) (j.same s1);obtain ⟨k1, k2, k3⟩ := h3 (.k ((jT k kp).map (·.1)) ((jT k kp).map (·.2)));refine ⟨_, k, v, s1.at ha.2, lr (i1.plain (ar S true false)), hval, ff.nx _ _ (sP (m := .d (.k _)) (m' := .d (.k _)) hl (S.grow s1) e0 e1 e2 (s1.at e3) (fun q hq => AS.carry (e4 q hq) (fun m e => s1.at e m.nt) (.same s1)) (mem_map.mpr ⟨_, h1, rfl⟩) k1 k2 k3 (s1.at ha.2) fun Z nz c ez => ?_)⟩;subst ez;refine ⟨ys, ⟨by have := g2.length; simpa using this, ?_⟩, g2.carry c⟩;rw [g1] at *;exact ae
theorem zM (i : Nat) {x : Str} {ap cp : Pos} (fr : Bool) {kp : List (Key × D)} {k : Key} (h : ρ[i]? = some (some (.gen (x8 fr (.k (kp.map (·.1))) (kp.map (·.2)))))) (he : E X m1 (view true false ρ) e (kD k)) (hk : k ∈ kp.map (·.1))
 (hr : SD X F rest (ρ.set i (some (.gen (x8 fr (.k ((jT k kp).map (·.1))) ((jT k kp).map (·.2)))))) Q)
 (hN : X.N[i]? = some x := by rfl) (hv : kb X.env.scope x := by first | exact Or.inl rfl | exact Or.inr (Or.inl rfl) | exact Or.inr (Or.inr rfl)) (hd : NdX x := by decide) (hcd : NcX x := by decide)
 (M : M1 X (.Name x p) "pop" ap e cp := by exact ⟨rfl, rfl, rfl, rfl⟩) (hsw : swapsWith (.Call (.Attribute (.Name x p) "pop" ap) [e] [] cp) none pos.line X.env = pure false := by rfl) :
 SD X F (.Expr (.Call (.Attribute (.Name x p) "pop" ap) [e] [] cp) pos :: rest) ρ Q := by
 refine aM (PS.mono (bU (rl (bx hN hv hd hcd) he M) hsw) ?_) hr;rintro Q' σ H ⟨hv, hρ, A, hl, S, ff⟩;obtain ⟨l, xs, e1, e2, e3, j⟩ := S.oa hl h;refine ⟨.ref l, e1, l, rfl, .inl ⟨_, .inl e3.2⟩, _, ar S true false, S.env hl true false, fun y H1 s1 i1 => ?_⟩;obtain ⟨v, hval⟩ := qW (k := k) e3.1 hk;obtain ⟨ys, g1, g2⟩ := kA (k := k) (j.same s1);refine ⟨_, k, v, s1.at e3.2, lr (i1.plain (ar S true false)), hval, ff.nx _ _ (wI (m := .d (.k _)) (m' := .d (.k _)) hl (S.grow s1) e1 e2 (s1.at e3.2) ?_ g2)⟩;refine ⟨by have := g2.length; simpa using this, ?_⟩;rw [g1] at *;exact ae
def ya (d : D) (s : AS) : Prop := ∀ (K : Frag) (H0 H : Hp) (v : V), In K H (nw H0) d v -> ∃ l, v = .ref l /\ H0 l = none /\ ∀ Z : ax, s.at K H Z l
theorem oJ {ds : List D} (fl : aV ds = true) : ya (.lst ds) (.l ds) := fun K H0 H v i => by
 obtain ⟨l, xs, rfl, at', j⟩ := ah.mp i;rcases at' with z | z
 . exact ⟨l, rfl, z.2, fun Z => ⟨xs, z.1, j.cT fl⟩⟩
 . exact AN z.1
theorem z7 : ya (.dct (.k [])) (.k [] []) := fun K H0 H v i => by
 obtain ⟨l, rfl, e, z⟩ := aZ.mp i;exact ⟨l, rfl, z, fun Z => ⟨[], ⟨rfl, e⟩, bt.mpr rfl⟩⟩
theorem gp (i : Nat) {x : Str} {fp : Pos} {d : D} {s : AS} {fs' : dB} (hc : mD X.K C) (hn : cM X.K C f) (h : ρ[i]? = some (some (.gen (gB o C fs)))) (he : E X true (view true false ρ) e d) (hna : ya d s) (hz : fs.length < 1000) (hfs : vU f s fs = fs') (hr : SD X F rest (ρ.set i (some (.gen (gB o C fs')))) Q)
 (hN : X.N[i]? = some x := by rfl) (hv : kb X.env.scope x := by first | exact Or.inl rfl | exact Or.inr (Or.inl rfl) | exact Or.inr (Or.inr rfl)) (hd : NdX x := by decide) (hcd : NcX x := by decide)
 (hsw : swapsWith e (some (.Attribute (.Name x p) f fp)) pos.line X.env = pure false := by rfl) : SD X F (.Assign [.Attribute (.Name x p) f fp] e pos :: rest) ρ Q := by
 subst hfs;refine aM (PS.mono (BE (bx hN hv hd hcd) he hsw) ?_) hr;rintro Q' σ H ⟨hv, hρ, A, hl, S, ff⟩;obtain ⟨b, dx, ps, e0, rfl, e1, e2, e3, e4⟩ := S.ob hl h;have hi : i < σ.length := (List.getElem?_eq_some_iff.mp e1).1;refine ⟨_, ar S true false, S.env hl true false, fun y H1 s1 i1 => ?_⟩;obtain ⟨l, rfl, hl0, hat⟩ := hna X.K H H1 y i1;obtain ⟨m, hm⟩ := AS.mo (hat BU);have nd := S.nd i;rw [e2] at nd;obtain ⟨n1, n2⟩ := nodup_cons.mp nd;have lno : l ∉ b :: bD ps := fun z => by
  obtain ⟨m, e⟩ := S.lst i l (by rw [e2]; exact z);rw [hl0] at e; cases e
 have lb : l ≠ b := fun z => lno (by rw [z]; exact mem_cons_self);have S1 := S.grow s1;have mem' : ∀ {a : Addr}, a ∈ bD (iP f s l ps) -> a = l \/ a ∈ bD ps := fun {a} ha => by
  obtain ⟨q, hq, rfl⟩ := mem_map.mp ha;rcases j8 hq with z | z
  . exact .inl z.2
  . exact .inr (mem_map.mpr ⟨q, z, rfl⟩)
 have nb : b ∉ bD (iP f s l ps) := fun z => (mem' z).elim (fun z => lb z.symm) n1;refine ⟨.ref b, e1, b, C, dx, _, rfl, s1.at e3, hc, hn, by simpa [iL, iQ] using hz, ff.nx _ _ ⟨_, aL A i (b :: bD (iP f s l ps)), by simp [hl], ?_, rfl⟩⟩;have keep : ∀ a (o : HO), a ≠ b -> H1 a = some o -> upd H1 b (.ins C dx (eN f (.ref l) (iL ps))) a = some o := fun a o n e => by rw [aa n]; exact e
 have key := S.re (i := i) (v := .ref b) (sl := .gen (gB o C (vU f s (iQ ps)))) (l := b :: bD (iP f s l ps)) (H2 := upd H1 b (.ins C dx (eN f (.ref l) (iL ps)))) (by rw [List.length_append]; omega) (by rw [List.length_append]; omega)
  ((S.same.trans s1).fG (xs := .i C dx _) (S.new i b (by rw [e2]; exact mem_cons_self)) (s1.at e3)) (fun c u e n hc => keep c u (fun z => hc (by rw [e2, z]; exact mem_cons_self)) (s1.get c u e n)) (nodup_cons.mpr ⟨nb, yY n2 fun z => lno (mem_cons_of_mem _ z)⟩) (fun c hc => ?_) ?_
 . rw [bG (by rw [getElem?_append_left hi]; exact e1), aH (by omega)] at key;exact key
 . rcases mem_cons.mp hc with rfl | hc
   . exact ⟨.inl (by rw [e2]; exact mem_cons_self), .i C dx _, ae⟩
   . rcases mem' hc with rfl | hc
     . exact ⟨.inr hl0, m, keep _ _ lb hm⟩
     . have ho : c ∈ A i := by rw [e2]; exact mem_cons_of_mem _ hc
       obtain ⟨m', e⟩ := S1.lst i c ho;exact ⟨.inl ho, m', keep _ _ (fun z => n1 (by rw [<- z]; exact hc)) e⟩
 . have cw : Carry X.K H (zn F (az A) false) (upd H1 b (.ins C dx (eN f (.ref l) (iL ps)))) (zn F (az (aL A i (b :: bD (iP f s l ps)))) false) := ij S (fun c u e n hc => keep c u (fun z => hc (by rw [e2, z]; exact mem_cons_self)) (s1.get c u e n)) (fun a ha => by
    rcases mem_cons.mp ha with rfl | ha
    . exact .inl (by rw [e2]; exact mem_cons_self)
    . rcases mem' ha with rfl | ha
      . exact .inr hl0
      . exact .inl (by rw [e2]; exact mem_cons_of_mem _ ha)) false
   refine ⟨b, dx, iP f s l ps, e0, yv f s l ps, rfl, rfl, by rw [Bc]; exact ae, fun q hq => ?_⟩;rcases j8 hq with ⟨z1, z2⟩ | z
   . rw [z1, z2];refine AS.carry (hat ⟨true, fun _ => False⟩) (fun mm e => keep _ _ lb e) ⟨fun a m e z => z.elim, fun m => Bool.noConfusion (show true = false from m), fun a xs e => ?_⟩;exact keep a _ (fun z => by rw [z, s1.at e3] at e; cases e) e
   . have qa : q.2.2 ≠ b := fun w => n1 (by rw [<- w]; exact mem_map.mpr ⟨q, z, rfl⟩);exact AS.carry (e4 q z) (fun mm e => keep _ _ qa (s1.at e mm.nt)) cw
end
theorem nc {H : Hp} {as : List Addr} (hl : ∀ a ∈ as, ∃ m : MO, H a = some m.ho) (t : TabsOk H) : TabsOk (mw H as) := fun P hP => by
 obtain ⟨ps, e, tr, k⟩ := t P hP;have no : ∀ {b : Addr} {o : HO}, H b = some o -> (∀ m : MO, o ≠ m.ho) -> b ∉ as := fun {b o} q n z => by
  obtain ⟨m, e⟩ := hl b z;rw [q] at e;exact n m (Option.some.inj e)
 refine ⟨ps, by rw [eI (no e (by intro m z; rcases m with xs | (kvs | kvs) | _ <;> cases z))]; exact e, tr, fun pos cv q => ?_⟩;obtain ⟨c, rfl, hc⟩ := k pos cv q;exact ⟨c, rfl, by rw [eI (no hc (by intro m z; rcases m with xs | (kvs | kvs) | _ <;> cases z))]; exact hc⟩
theorem jq {H0 H : Hp} {as : List Addr} (s : ao H0 H) (hn : ∀ a ∈ as, H0 a = none) (hl : ∀ a ∈ as, ∃ m : MO, H a = some m.ho) : ao H0 (mw H as) := by
 have no : ∀ {b : Addr} {o : HO}, H0 b = some o -> b ∉ as := fun {b o} q z => by rw [hn b z] at q; cases q
 exact ⟨fun b o e n => by rw [eI (no e)]; exact s.get b o e n, fun b ps e => by rw [eI (no e)]; exact s.tbl b ps e, fun t => nc hl (s.tabs t)⟩
def Cg (K : Frag) (C : Addr) (G : dB -> List D -> dB -> D -> Prop) : Sp := fun vs H Q _ => ∃ (Z : ax) (xs : List V) (b dx : Addr) (ps : List r0) (ds : List D) (fs' : dB) (d : D), vs = .ref b :: xs /\ Z.Open H /\ aC K H Z ds xs /\ H b = some (.ins C dx (iL ps)) /\ (b :: bD ps).Nodup /\
 (∀ a ∈ b :: bD ps, ¬ Z.S a) /\ (∀ q ∈ ps, q.2.1.at K H Z q.2.2) /\ G (iQ ps) ds fs' d /\
 ∀ (H' : Hp) (dx' : Addr) (ps' : List r0) (rs : List Addr) (v : V), iQ ps' = fs' -> ao (mw H (b :: bD ps)) H' -> H' b = some (.ins C dx' (iL ps')) -> (b :: bD ps' ++ rs).Nodup -> (∀ a ∈ b :: bD ps' ++ rs, (a ∈ b :: bD ps \/ H a = none) /\ ∃ m : MO, H' a = some m.ho) ->
  (∀ q ∈ ps', q.2.1.at K H' ⟨Z.m, fun a => (Z.S a \/ a ∈ b :: bD ps) /\ a ∉ b :: bD ps' ++ rs⟩ q.2.2) -> In K H' ⟨true, fun a => a ∈ rs⟩ d v -> Q v H'
def startB (N : GV) (ds : List D) (b C : Addr) (fs : dB) : bX := some (.gen (gB (some b) C fs)) :: (ds.map (fun d => some (.pl false d)) ++ List.replicate (N.length - (ds.length + 1)) none)
theorem vC {K : Frag} {Z : ax} {H : Hp} {N : GV} {ds : List D} {xs : List V} {b C dx : Addr} {ps : List r0} (oz : Z.Open H) (h : aC K H Z ds xs) (hb : H b = some (.ins C dx (iL ps))) (nd : (b :: bD ps).Nodup) (nz : ∀ a ∈ b :: bD ps, ¬ Z.S a) (hp : ∀ q ∈ ps, q.2.1.at K H Z q.2.2) :
 aW K ⟨true, ⟨Z.m, fun a => Z.S a \/ a ∈ b :: bD ps⟩, mw H (b :: bD ps)⟩ H (L2.start N (.ref b :: xs) ++ []) (startB N ds b C (iQ ps) ++ []) (aL (fun _ => []) 0 (b :: bD ps)) := by
 have own : ∀ {i : Nat} {a : Addr}, a ∈ aL (fun _ => []) 0 (b :: bD ps) i -> i = 0 /\ a ∈ b :: bD ps := fun {i a} ha => by
  by_cases q : i = 0
  . rw [q, aF] at ha; exact ⟨q, ha⟩
  . rw [aS q] at ha; cases ha
 have mos : ∀ a ∈ b :: bD ps, ∃ m : MO, H a = some m.ho := fun a ha => by
  rcases mem_cons.mp ha with rfl | ha
  . exact ⟨.i C dx _, hb⟩
  . obtain ⟨q, hq, rfl⟩ := mem_map.mp ha;exact AS.mo (hp q hq)
 have cz : Carry K H Z H (zn ⟨true, ⟨Z.m, fun a => Z.S a \/ a ∈ b :: bD ps⟩, mw H (b :: bD ps)⟩ (az (aL (fun _ => []) 0 (b :: bD ps))) false) := ⟨fun a m q z => ⟨q, .inl z, fun ⟨j, hj⟩ => nz a (own hj).2 z⟩, fun m => ⟨m, fun _ _ q => q⟩, fun _ _ q => q⟩
 refine ⟨tR, ⟨fun a q => ?_, nc mos oz.tb⟩, fun i => ?_, fun i j a ha hb => (own ha).1.trans (own hb).1.symm, fun i a ha => yg (own ha).2, fun i a ha => mos a (own ha).2, fun i sl e => ?_⟩
 . rcases gy q with z | z
   . exact .inr z
   . exact .inl (oz.op a z)
 . by_cases q : i = 0
   . rw [q, aF]; exact nd
   . rw [aS q]; exact List.nodup_nil
 . rw [append_nil] at e ⊢;unfold startB at e;unfold L2.start
   cases i with
   | zero =>
    cases e;exact ⟨.ref b, rfl, b, dx, ps, fun a e => Option.some.inj e, rfl, aF, rfl, hb, fun q hq => AS.carry (hp q hq) (fun _ e => e) cz⟩
   | succ i =>
    rw [List.getElem?_cons_succ] at e;have hlen := h.length;by_cases hi : i < ds.length
    . rw [getElem?_append_left (by simpa using hi), getElem?_map, List.getElem?_eq_getElem hi] at e;have e' : some (Slot.pl false ds[i]) = some sl := by simpa using e
      cases e';obtain ⟨v, e1, e2⟩ := h.get (i := i) (d := ds[i]) (by simp [hi]);refine ⟨v, by rw [map_cons, cons_append, List.getElem?_cons_succ, getElem?_append_left (by rw [length_map]; omega), getElem?_map, e1]; rfl, ?_⟩;exact In.carry cz e2
    . rw [getElem?_append_right (by simpa using hi), List.getElem?_replicate] at e;split at e <;> cases e
def FU (K : Frag) (F : Fn) (b C : Addr) (fs' : dB) (d : D) (mine : List Addr) (H' : Hp) (v : V) : Prop := ∃ (dx' : Addr) (ps' : List r0) (rs : List Addr), iQ ps' = fs' /\ mine = b :: bD ps' /\ H' b = some (.ins C dx' (iL ps')) /\
 (∀ q ∈ ps', q.2.1.at K H' ⟨F.Z.m, fun a => F.Z.S a /\ a ∉ mine ++ rs⟩ q.2.2) /\ rs.Nodup /\ (∀ a ∈ rs, a ∉ mine /\ F.H a = none /\ ∃ m : MO, H' a = some m.ho) /\ In K H' ⟨true, fun a => a ∈ rs⟩ d v
def BH (K : Frag) (F : Fn) (b C : Addr) (fs' : dB) (d : D) : ft where
 nx r := d = .non /\ r[0]? = some (some (.gen (gB (some b) C fs')))
 rt _ := False
 rtS _ A H' v := FU K F b C fs' d (A 0) H' v
section
variable {P : Program} {w : World} {K : Frag} {mg : GN} {base : Heap}
theorem EN {x qual : Str} {st : Stmt} {f C : Addr} {fd : FuncData} {N ps : GV} {k : Nat} {G : dB -> List D -> dB -> D -> Prop} (Fx : fo K x qual st f fd) (S : aD N ps (af st)) (hlen : ∀ fs ds fs' d, G fs ds fs' d -> ds.length + 1 = ps.length) (hN : ps.length <= N.length)
 (body : ∀ (cdv : Value) (A : Around) (outer : List Env) (s : Shared) (H : Hp) (E : XK) (F : Fn) (b : Addr) (fs : dB) (ds : List D) (fs' : dB) (d : D), bo k (A.deeper (envOfC qual (af st) s.heap.objs.size f cdv)) -> G fs ds fs' d ->
  SD (h9 fS P w K mg base N qual (af st) f cdv A outer s H E).uj F (aY st) (startB N ds b C fs) (BH K F b C fs' d)) : bR P w K mg base fS (k + 1) f fd ps (Cg K C G) := by
 refine Fx.ok S (fun vs H Q E ⟨Z, xs, b, dx, qs, ds, fs', d, e, oz, i, _, _, _, _, g, kk⟩ => ?_) (fun cdv A outer s H vs Q E hr ⟨Z, xs, b, dx, qs, ds, fs', d, e, oz, i, hb, nd, nz, hp, g, kk⟩ => ?_)
 . rw [e, length_cons, <- i.length]; exact hlen _ _ _ _ g
 . subst e;have hil := i.length;have hln := hlen _ _ _ _ g;have fin : ∀ {σ : L2.St} {r : bX} {A' : Nat -> List Addr} {H' : Hp} {v : V}, aW K ⟨true, ⟨Z.m, fun a => Z.S a \/ a ∈ b :: bD qs⟩, mw H (b :: bD qs)⟩ H' (σ ++ []) (r ++ []) A' -> FU K ⟨true, ⟨Z.m, fun a => Z.S a \/ a ∈ b :: bD qs⟩, mw H (b :: bD qs)⟩ b C fs' d (A' 0) H' v -> Q v H' := fun {σ r A' H' v} S' ⟨dx', ps', rs, e1, e2, e3, e4, e5, e6, e7⟩ => by
    have nd' := S'.nd 0;rw [e2] at nd';refine kk H' dx' ps' rs v e1 S'.same e3 ?_ (fun a ha => ?_) (fun q hq => ?_) e7
    . refine List.nodup_append.mpr ⟨nd', e5, fun a ha c hc z => (e6 c hc).1 ?_⟩;rw [e2, <- z]; exact ha
    . rcases mem_append.mp ha with ha | ha
      . have h0 : a ∈ A' 0 := by rw [e2]; exact ha
        exact ⟨gy (S'.new 0 a h0), S'.lst 0 a h0⟩
      . exact ⟨gy (e6 a ha).2.1, (e6 a ha).2.2⟩
    . have := e4 q hq;rw [e2] at this;exact this
   refine ⟨_, body cdv A outer s H E _ b _ ds fs' d hr g, [], [], _, ?_, vC oz i hb nd nz hp, ⟨rfl, fun σ H' ⟨r, A', hl', S', hd0, e⟩ => ?_, fun σ H' ⟨r, A', hl, S', e⟩ => e.elim, fun σ H' ⟨r, A', hl, S', e⟩ => e.elim, fun _ _ _ _ _ e => e.elim, fun _ _ _ _ _ _ _ _ e => e.elim, fun _ _ _ _ _ _ _ _ _ _ _ _ _ e => e.elim, fun σ H' r A' v hl S' e => fin S' e⟩⟩
   . simp [L2.start, startB]; omega
   . obtain ⟨b', dx', ps', h0, h1, h2, h3, h4, h5⟩ := S'.ob hl' e;cases h0 b rfl;subst hd0;refine fin S' ⟨dx', ps', [], h1, h3, h4, fun q hq => AS.carry (h5 q hq) (fun _ e => e) ⟨fun a m q z => ⟨q, z.1, fun w => z.2 ⟨0, by simpa using w⟩⟩, fun m => ⟨m, fun _ _ q => q⟩, fun _ _ q => q⟩, List.nodup_nil, fun a ha => by simp at ha, ba.mpr rfl⟩
end
section
variable {X : Cx} {F : Fn} {ρ : bX} {Q : ft} {rest : List Stmt} {e : Expr} {es : List Expr} {ds : List D} {pos p py cp ap : Pos} {m1 : Bool} {b C : Addr} {fs fs' : dB} {o : GQ}
theorem zZ {d : D} (h : ρ[0]? = some (some (.gen (gB (some b) C fs')))) (he : E X true (view true false ρ) e d) : SD X F (.Return (some e) pos :: rest) ρ (BH X.K F b C fs' d) :=
 fV (N := fun _ => False) (PS.mono (pO he) fun Q' σ H z0 => d8 z0 fun hv hρ A hl S f => ⟨_, ar S true false, S.env hl true false, fun v H1 s1 i1 => by
  obtain ⟨b', dx, ps, e0, e1, e2, e3, e4, e5⟩ := S.ob hl h;cases e0 b rfl;obtain ⟨as, q1, q2⟩ := In.collect (Z := nw H) rfl (show In X.K H1 (nw H) d v from i1);obtain ⟨rs, nd, hrs⟩ := ED as;refine f.rtS σ H1 ρ A v hl (S.grow s1) ⟨dx, ps, rs, e1, e3, s1.at e4, fun q hq => AS.carry (e5 q hq) (fun m e => s1.at e m.nt) ⟨fun a m q z => ⟨s1.at q m.nt, z.1, fun w => ?_⟩, fun m => ⟨m, fun _ _ q => q.same s1⟩, fun _ _ q => s1.at q⟩, nd, fun a ha => ?_, q2.carry ⟨fun a m q z => ⟨q, (hrs a).mpr z⟩, fun m => Bool.noConfusion (show true = false from m), fun _ _ q => q⟩⟩
  . rcases mem_append.mp w with w | w
    . exact z.2 ⟨0, w⟩
    . have n0 : H a = none := (q1 a ((hrs a).mp w)).1;rw [n0] at q; cases q
  . have n0 : H a = none := (q1 a ((hrs a).mp ha)).1;refine ⟨fun z => ?_, S.same.free n0, (q1 a ((hrs a).mp ha)).2⟩;obtain ⟨m, q⟩ := S.lst 0 a z;rw [n0] at q; cases q⟩) fun _ n => n.elim
theorem xB (j : Nat) {x : Str} {ds : List D} (h : ρ[0]? = some (some (.gen (gB (some b) C fs')))) (hj : ρ[j]? = some (some (.ow true ds))) (fl : aV ds = true) (j0 : j ≠ 0) (hN : X.N[j]? = some x := by rfl) (hv : kb X.env.scope x := by first | exact Or.inl rfl | exact Or.inr (Or.inl rfl) | exact Or.inr (Or.inr rfl))
 (hd : NdX x := by decide) (hcd : NcX x := by decide) : SD X F (.Return (some (.Name x p)) pos :: rest) ρ (BH X.K F b C fs' (.lst ds)) :=
 fV (N := fun _ => False) (PS.mono (pO (bx hN hv hd hcd)) fun Q' σ H z0 => d8 z0 fun hv hρ A hl S f => by
  obtain ⟨b', dx, ps, e0, e1, e2, e3, e4, e5⟩ := S.ob hl h;cases e0 b rfl;obtain ⟨l, xs, g1, g2, g3, g4⟩ := S.ow hl hj;have hlj : l ∈ A j := by rw [g2]; simp
  refine ⟨.ref l, g1, f.rtS σ H ρ A (.ref l) hl S ⟨dx, ps, [l], e1, e3, e4, fun q hq => AS.carry (e5 q hq) (fun m e => e) ⟨fun a m q z => ⟨q, z.1, fun w => ?_⟩, fun m => ⟨m, fun _ _ q => q⟩, fun _ _ q => q⟩, eL, fun a ha => ?_, ah.mpr ⟨l, xs, rfl, .inl ⟨g3, by simp⟩, g4.cT fl⟩⟩⟩
  . rcases mem_append.mp w with w | w
    . exact z.2 ⟨0, w⟩
    . rw [List.mem_singleton.mp w] at z;exact z.2 ⟨j, hlj⟩
  . rw [List.mem_singleton.mp ha];exact ⟨fun z => j0 (S.one j 0 l hlj z), S.new j l hlj, .l xs, g3⟩) fun _ n => n.elim
structure mz (P : Program) (w : World) (K : Frag) (mg : GN) (base : Heap) (k : Nat) (C : Addr) (x : Str) (G : dB -> List D -> dB -> D -> Prop) : Prop where
 ex : ∃ f fd ps, bR P w K mg base fS k f fd ps (Cg K C G) /\ Meth K C x f /\ Binds K fd ps []
theorem jm {ps : List r0} {m : Str} : (iQ ps).lookup m = none -> (iL ps).lookup m = none := by
 induction ps with
 | nil => exact fun _ => rfl
 | cons q ps ih =>
  intro h;have h : List.lookup m ((q.1, q.2.1) :: iQ ps) = none := h;show List.lookup m ((q.1, V.ref q.2.2) :: iL ps) = none;rw [lookup_cons] at h ⊢
  cases z : m == q.1 with
  | true => rw [z] at h; cases h
  | false => rw [z] at h; exact ih h
theorem mZ {K : Frag} {hv : St} {hρ : bX} {σ : St} {H H1 H' : Hp} {A : Nat -> List Addr} {i : Nat} {dx' : Addr} {ps ps' : List r0} {rs l2 : List Addr} (S : aW K F H (σ ++ hv) (ρ ++ hρ) A) (hA : A i = b :: bD ps) (s1 : ao H H1) (hi : i < ρ.length) (hiv : i < σ.length) (sm : ao (mw H1 (b :: bD ps)) H') (hb : H' b = some (.ins C dx' (iL ps')))
 (nd : (b :: bD ps' ++ rs).Nodup) (ha : ∀ a ∈ b :: bD ps' ++ rs, (a ∈ b :: bD ps \/ H1 a = none) /\ ∃ m : MO, H' a = some m.ho) (h2 : ∀ a ∈ l2, a ∈ rs) (n2 : l2.Nodup) (sl : Slot)
 (hsl : et K F H' (az (aL A i (b :: bD ps' ++ l2))) (b :: bD ps' ++ l2) (.ref b) sl) : aW K F H' ((σ ++ hv).set i (some (.ref b))) ((ρ ++ hρ).set i (some sl)) (aL A i (b :: bD ps' ++ l2)) := by
 have mos : ∀ a ∈ b :: bD ps, ∃ m : MO, H1 a = some m.ho := fun a ha => by
  obtain ⟨m, e⟩ := S.lst i a (by rw [hA]; exact ha);exact ⟨m, s1.at e m.nt⟩
 refine S.re (by rw [List.length_append]; omega) (by rw [List.length_append]; omega) ((jq (S.same.trans s1) (fun a ha => S.new i a (by rw [hA]; exact ha)) mos).trans sm) (fun c o e n hc => sm.get c o (by rw [eI (by rw [hA] at hc; exact hc)]; exact s1.get c o e n) n) ?_ (fun a h => ?_) hsl
 . refine List.nodup_append.mpr ⟨(List.nodup_append.mp nd).1, n2, fun a h1 c hc => (List.nodup_append.mp nd).2.2 a h1 c (h2 c hc)⟩
 . have h' : a ∈ b :: bD ps' ++ rs := by
    rcases mem_append.mp h with h | h
    . exact List.mem_append_left _ h
    . exact mem_append_right _ (h2 a h)
   obtain ⟨z, m⟩ := ha a h';refine ⟨?_, m⟩;rw [hA];exact z.imp id s1.free
theorem nU {K : Frag} {vs : St} {ρ' : bX} {H H1 H' : Hp} {A : Nat -> List Addr} {i : Nat} {mine l rs : List Addr} (S : aW K F H vs ρ' A) (hA : A i = mine) (s1 : ao H H1) (hl : ∀ a ∈ l, (a ∈ mine \/ H1 a = none) /\ a ∈ rs) :
 Carry K H' ⟨(zn F (az A) false).m, fun a => ((zn F (az A) false).S a \/ a ∈ mine) /\ a ∉ rs⟩ H' (zn F (az (aL A i l)) false) := by
 refine ⟨fun a m q z => ⟨q, ?_, fun ⟨k, hk⟩ => ?_⟩, fun m => ⟨m, fun _ _ q => q⟩, fun _ _ q => q⟩
 . rcases z.1 with z | z
   . exact z.1
   . exact S.opn.op a (S.new i a (by rw [hA]; exact z))
 . by_cases ki : k = i
   . rw [ki, aF] at hk;exact z.2 (hl a hk).2
   . rw [aS ki] at hk;rcases z.1 with z | z
     . exact z.2 ⟨k, hk⟩
     . exact ki (S.one k i a hk (by rw [hA]; exact z))
end
def EL (K : Frag) (C : Addr) (m : Str) (G : dB -> List D -> dB -> D -> Prop) (i : Nat) (ρ : List (Option D)) (ds : List D) : TE := fun σ H Q => ∃ (b dx : Addr) (fs : List (Str × V)), σ[i]? = some (some (.ref b)) /\ H b = some (.ins C dx fs) /\ fs.lookup m = none /\
 ∃ Z : ax, Z.Open H /\ cy K H Z σ ρ /\ ∀ vs H1, ao H H1 -> aC K H1 Z ds vs -> Cg K C G (.ref b :: vs) H1 Q E0
section
variable {X : Cx} {F : Fn} {ρ : bX} {Q : ft} {rest : List Stmt} {e ce : Expr} {es : List Expr} {ds : List D} {pos p py cp ap : Pos} {C : Addr} {fs fs' : dB} {o : GQ} {k : Nat} {m y x : Str} {G : dB -> List D -> dB -> D -> Prop} {rv : List (Option D)} {i : Nat} {d : D}
theorem Bm (Df : mz X.prog X.w X.K X.mg X.base k C m G) (hc : mD X.K C) (hr : bo k X.A) (ha : EA X rv (e :: es) ds)
 (hN : X.N[i]? = some y := by rfl) (hv : kb X.env.scope y := by first | exact Or.inl rfl | exact Or.inr (Or.inl rfl) | exact Or.inr (Or.inr rfl)) (hd : NdX y := by decide) (hcd : NcX y := by decide)
 (hst : starEach (e :: es) X.env = (false, eval e X.env) :: starEach es X.env := by rfl) (hpl : (backTo cp (starEach es X.env)).any (·.1) = false := by rfl) {pl : Sem Bool}
 (ht : eval (.Call (.Attribute (.Name y py) m ap) (e :: es) [] cp) X.env = (do
  let ov <- eval (.Name y py) X.env
  standAt ap.atName
  let (f, first) <- holding [ov] (getMethod ov m pl)
  callWith cp f first (backTo cp (starEach (e :: es) X.env)) (backToKw cp (keywordEach [] X.env))) := by rfl) :
 PE X (.Call (.Attribute (.Name y py) m ap) (e :: es) [] cp) (EL X.K C m G i rv ds) := by
 obtain ⟨f, fd, ps, h1, h2, h3⟩ := Df.ex;refine PE.mono (tT (bx hN hv hd hcd) hc h2 h1 hr h3 .nil jF ha hst hpl ht) fun σ H Q ⟨b, dx, fs, e1, e2, e3, Z, oz, en, kq⟩ => ⟨.ref b, e1, b, dx, fs, rfl, e2, e3, Z, oz, en, fun vs H1 s1 i1 => ?_⟩
 show Cg X.K C G (.ref b :: (vs ++ [])) H1 Q E0;rw [append_nil];exact kq vs H1 s1 i1
theorem sk (Df : mz X.prog X.w X.K X.mg X.base k C m G) (hc : mD X.K C) (hr : bo k X.A)
 (hN : X.N[i]? = some y := by rfl) (hv : kb X.env.scope y := by first | exact Or.inl rfl | exact Or.inr (Or.inl rfl) | exact Or.inr (Or.inr rfl)) (hd : NdX y := by decide) (hcd : NcX y := by decide) {pl : Sem Bool}
 (ht : eval (.Call (.Attribute (.Name y py) m ap) [] [] cp) X.env = (do
  let ov <- eval (.Name y py) X.env
  standAt ap.atName
  let (f, first) <- holding [ov] (getMethod ov m pl)
  callWith cp f first (backTo cp (starEach [] X.env)) (backToKw cp (keywordEach [] X.env))) := by rfl) :
 PE X (.Call (.Attribute (.Name y py) m ap) [] [] cp) (EL X.K C m G i rv []) := by
 obtain ⟨f, fd, ps, h1, h2, h3⟩ := Df.ex;refine PE.mono (qI (bx hN hv hd hcd) hc h2 h1 hr h3 .nil jF ht) fun σ H Q ⟨b, dx, fs, e1, e2, e3, Z, oz, en, kq⟩ => ⟨.ref b, e1, b, dx, fs, rfl, e2, e3, ?_⟩
 exact kq [] H (ao.refl H) (ay.mpr rfl)
theorem lO (i : Nat) (ow : Bool) (hp : PE X ce (EL X.K C m G i (view ow false ρ) ds)) (h : ρ[i]? = some (some (.gen (gB o C fs)))) (hm : fs.lookup m = none) (g : G fs ds fs' d) (hr : SD X F rest (ρ.set i (some (.gen (gB o C fs')))) Q)
 (hsw : swapsWith ce none pos.line X.env = pure false := by rfl) (hfl : ow = true -> aV ds = true := by intro h; first | rfl | cases h) : SD X F (.Expr ce pos :: rest) ρ Q := by
 refine aM (PS.mono (bU hp hsw) ?_) hr;rintro Q' σ H ⟨hv, hρ, A, hl, S, ff⟩;obtain ⟨b, dx, ps, e0, rfl, e1, e2, e3, e4⟩ := S.ob hl h;have hi : i < σ.length := (List.getElem?_eq_some_iff.mp e1).1;refine ⟨b, dx, _, e1, e3, jm hm, _, ar S ow false, S.env hl ow false, fun vs H1 s1 i1 => ?_⟩;have i1 : aC X.K H1 (vz F (az A) false false) ds vs := by
  cases ow
  . exact i1
  . exact i1.cT (hfl rfl)
 refine ⟨_, vs, b, dx, ps, ds, fs', d, rfl, (ar S false false).same s1, i1, s1.at e3, by rw [<- e2]; exact S.nd i, fun a ha z => z.2 ⟨i, by rw [e2]; exact ha⟩, fun q hq => AS.carry (e4 q hq) (fun m e => s1.at e m.nt) (.same s1), g, fun H' dx' ps' rs v h1 sm h2 nd ha hq _ => ff.nx _ _ ⟨_, aL A i (b :: bD ps' ++ []), by simp [hl], ?_, rfl⟩⟩;subst h1;have key := mZ (l2 := []) S e2 s1 (by omega) hi sm h2 nd ha (fun a z => by cases z) List.nodup_nil (.gen (gB o C (iQ ps'))) ⟨b, dx', ps', e0, rfl, append_nil _, rfl, h2, fun q hq' => AS.carry (hq q hq') (fun _ e => e) (nU S e2 s1 fun a h => ?_)⟩
 . rw [bG (by rw [getElem?_append_left hi]; exact e1), aH (by omega)] at key;exact key
 . rw [append_nil] at h;have h' := List.mem_append_left rs h;exact ⟨(ha a h').1, h'⟩
theorem uL (i j : Nat) (ow : Bool) {ds1 : List D} (hij : i ≠ j) (hp : PE X ce (EL X.K C m G i (view ow false ρ) ds)) (h : ρ[i]? = some (some (.gen (gB o C fs)))) (hm : fs.lookup m = none) (g : G fs ds fs' (.lst ds1)) (fl : aV ds1 = true) (hr : SD X F rest ((ρ.set i (some (.gen (gB o C fs')))).set j (some (.ow true ds1))) Q)
 (hN : X.N.Nodup) (hi : X.N[j]? = some x := by rfl) (hx : Loc X.env.scope x := by first | exact Or.inl rfl | exact Or.inr rfl) (hρj : j < ρ.length := by exact of_decide_eq_true rfl) (hs : swapsWith ce (some (.Name x p)) pos.line X.env = pure false := by rfl) (hf : HfX X x := by first | exact .inl rfl | exact .inr rfl) (hfl : ow = true -> aV ds = true := by intro h; first | rfl | cases h) :
 SD X F (.Assign [.Name x p] ce pos :: rest) ρ Q := by
 refine aM (PS.mono (gi hN hi hx hp hs hf) ?_) hr;rintro Q' σ H ⟨hv, hρ, A, hl, S, ff⟩;obtain ⟨b, dx, ps, e0, rfl, e1, e2, e3, e4⟩ := S.ob hl h;have hi : i < σ.length := (List.getElem?_eq_some_iff.mp e1).1;refine ⟨b, dx, _, e1, e3, jm hm, _, ar S ow false, S.env hl ow false, fun vs H1 s1 i1 => ?_⟩;have i1 : aC X.K H1 (vz F (az A) false false) ds vs := by
  cases ow
  . exact i1
  . exact i1.cT (hfl rfl)
 refine ⟨_, vs, b, dx, ps, ds, fs', .lst ds1, rfl, (ar S false false).same s1, i1, s1.at e3, by rw [<- e2]; exact S.nd i, fun a ha z => z.2 ⟨i, by rw [e2]; exact ha⟩, fun q hq => AS.carry (e4 q hq) (fun m e => s1.at e m.nt) (.same s1), g, fun H' dx' ps' rs v h1 sm h2 nd ha hq iv => ?_⟩;subst h1;obtain ⟨l, xs, rfl, at', jl⟩ := ah.mp iv;obtain ⟨g1, g2⟩ : H' l = some (.lst xs) /\ l ∈ rs := by
  rcases at' with z | z
  . exact z
  . exact absurd z.1 (by simp)
 -- what x had is forgotten
 have S0 := S.re (i := j) (v := .ref l) (sl := .rf (.ref l)) (l := []) (H2 := H) (by rw [List.length_append]; omega) (by rw [List.length_append]; omega) S.same (fun c o e _ _ => e) List.nodup_nil (fun a ha => by simp at ha) rfl;rw [aH (by omega), aH hρj] at S0;have e2' : aL A j [] i = b :: bD ps := by rw [aS hij]; exact e2
 have S1 := mZ (l2 := [l]) S0 e2' s1 (i := i) (by simp; omega) (by simpa using hi) sm h2 nd ha (fun a z => by rw [List.mem_singleton.mp z]; exact g2) eL (.rf (.ref b)) rfl;have nd2 := List.nodup_append.mp nd;have cz := nU (H' := H') (rs := b :: bD ps' ++ rs) S0 e2' s1 (l := b :: bD ps' ++ [l]) fun a h => by
  have h' : a ∈ b :: bD ps' ++ rs := by
   rcases mem_append.mp h with h | h
   . exact List.mem_append_left _ h
   . exact mem_append_right _ (by rw [List.mem_singleton.mp h]; exact g2)
  exact ⟨(ha a h').1, h'⟩
 have cz0 : Carry X.K H' ⟨(vz F (az A) false false).m, fun a => ((vz F (az A) false false).S a \/ a ∈ b :: bD ps) /\ a ∉ b :: bD ps' ++ rs⟩ H' ⟨(zn F (az (aL A j [])) false).m, fun a => ((zn F (az (aL A j [])) false).S a \/ a ∈ b :: bD ps) /\ a ∉ b :: bD ps' ++ rs⟩ := by
  refine ⟨fun a mm q z => ⟨q, z.1.imp (fun z => ⟨z.1, fun ⟨k, hk⟩ => ?_⟩) id, z.2⟩, fun mm => ⟨mm, fun _ _ q => q⟩, fun _ _ q => q⟩;by_cases kj : k = j
  . rw [kj, aF] at hk; cases hk
  . rw [aS kj] at hk; exact z.2 ⟨k, hk⟩
 have ai : aL (aL A j []) i (b :: bD ps' ++ [l]) i = b :: bD ps' ++ [l] := aF;have aj : aL (aL A j []) i (b :: bD ps' ++ [l]) j = [] := by rw [aS (Ne.symm hij), aF]
 have S2 := S1.zJ (i := i) (j := j) (v := .ref b) (w := .ref l) (si := some (.gen (gB o C (iQ ps')))) (sj := some (.ow true ds1)) (l1 := b :: bD ps') (l2 := [l]) hij (by simp; omega) (by simp; omega) (by simp; omega) (by simp; omega) nd2.1 eL
  (fun a h1 h2 => nd2.2.2 a h1 a (by rw [List.mem_singleton.mp h2]; exact g2) rfl) (fun a => by rw [ai, aj]; simp [or_assoc]) (fun sl e => ?_) fun sl e => ?_
 . refine ff.nx _ _ ⟨_, aL (aL (aL (aL A j []) i (b :: bD ps' ++ [l])) i (b :: bD ps')) j [l], by simp [hl], ?_, rfl⟩;have f1 : (((((σ.set j (some (V.ref l)) ++ hv).set i (some (.ref b))).set i (some (.ref b))).set j (some (.ref l)))) = σ.set j (some (.ref l)) ++ hv := by
    rw [List.set_set, bG (l := σ.set j (some (V.ref l)) ++ hv) (i := i) (by rw [getElem?_append_left (by simpa using hi), List.getElem?_set_ne (Ne.symm hij)]; exact e1), aH (by simp; omega), List.set_set]
   have f2 : (((((ρ.set j (some (Slot.rf (V.ref l))) ++ hρ).set i (some (Slot.rf (V.ref b)))).set i (some (.gen (gB o C (iQ ps'))))).set j (some (.ow true ds1)))) = (ρ.set i (some (.gen (gB o C (iQ ps'))))).set j (some (.ow true ds1)) ++ hρ := by
    rw [List.set_set, aH (by simp; omega), aH (by simp; omega), List.set_comm _ _ (Ne.symm hij), List.set_set]
   rw [f1, f2] at S2;exact S2
 . cases e;exact ⟨b, dx', ps', e0, rfl, rfl, rfl, h2, fun q hq' => AS.carry (hq q hq') (fun _ e => e) ⟨fun a mm q z => cz.l a mm q (cz0.l a mm q z).2, fun mm => ⟨(cz.r (cz0.r mm).1).1, fun a xs q => q⟩, fun _ _ q => q⟩⟩
 . cases e;exact ⟨l, xs, rfl, rfl, g1, jl.cT fl⟩
theorem rB (j : Nat) {f : Addr} {fd : FuncData} {ps : GV} {cn : Str} (M : Mk X.K C f) (Fk : bR X.prog X.w X.K X.mg X.base fS k f fd ps (Cg X.K C G)) (hr0 : bo (k + 1) X.A) (hg : Gl X cn) (hmg : X.mg cn = some (.ref C)) (hb : Binds X.K fd ps []) (g : G [] [] fs' .non) (hr : SD X F rest (ρ.set j (some (.gen (gB none C fs')))) Q)
 (hN : X.N.Nodup) (hi : X.N[j]? = some x := by rfl) (hx : Loc X.env.scope x := by first | exact Or.inl rfl | exact Or.inr rfl) (hρj : j < ρ.length := by exact of_decide_eq_true rfl) (hdb : NdX cn := by decide) (hs : swapsWith (.Call (.Name cn py) [] [] cp) (some (.Name x p)) pos.line X.env = pure false := by rfl) (hf : HfX X x := by first | exact .inl rfl | exact .inr rfl) :
 SD X F (.Assign [.Name x p] (.Call (.Name cn py) [] [] cp) pos :: rest) ρ Q := by
 refine aM (PS.mono (gi hN hi hx (xa M Fk hr0 hg hmg hb .nil jF hdb) hs hf) ?_) hr;rintro Q' σ H ⟨hv, hρ, A, hl, S, ff⟩;intro b dx hb0 hd0 ne;have s1 : ao H (upd (upd H dx (.own b)) b (.ins C dx [])) := (aB hd0).trans (aB (by rw [aa (Ne.symm ne)]; exact hb0));have hb1 : (upd (upd H dx (.own b)) b (.ins C dx [])) b = some (.ins C dx []) := ae;have oz := (cN S false).same s1;refine ⟨⟨(zn F (az A) false).m, fun a => (zn F (az A) false).S a /\ a ≠ b⟩, [], b, dx, [], [], fs', .non, rfl, ⟨fun a q => ⟨oz.op a q, fun z => by rw [z, hb1] at q; cases q⟩, oz.tb⟩, ay.mpr rfl, hb1, by simp [bD], fun a ha z => z.2 (by simpa [bD] using ha), fun q hq => (by cases hq), g, fun H' dx' ps' rs v h1 sm h2 nd ha hq iv => ⟨ba.mp iv, ff.nx _ _ ⟨_, aL A j (b :: bD ps'), by simp [hl], ?_, rfl⟩⟩⟩;subst h1;have mine : ∀ a ∈ b :: bD ps', H a = none /\ ∃ m : MO, H' a = some m.ho := fun a h => by
  obtain ⟨z, m⟩ := ha a (List.mem_append_left _ h);refine ⟨?_, m⟩;rcases z with z | z
  . rw [List.mem_singleton.mp (show a ∈ [b] from z)]; exact hb0
  . exact s1.free z
 have sH : ao H H' := (jq s1 (fun a h => by rw [List.mem_singleton.mp (show a ∈ [b] from h)]; exact hb0) fun a h => ⟨.i C dx [], by rw [List.mem_singleton.mp (show a ∈ [b] from h)]; exact hb1⟩).trans sm;rw [<- aH (by omega), <- aH hρj];refine S.put (by rw [List.length_append]; omega) (by rw [List.length_append]; omega) sH (List.nodup_append.mp nd).1 mine ⟨b, dx', ps', fun a z => (by cases z), rfl, rfl, rfl, h2, fun q hq' => AS.carry (hq q hq') (fun _ e => e) ⟨fun a mm q z => ⟨q, ?_, fun ⟨k, hk⟩ => ?_⟩, fun mm => ⟨mm, fun _ _ q => q⟩, fun _ _ q => q⟩⟩
 . rcases z.1 with z1 | z1
   . exact z1.1.1
   . exact absurd (List.mem_append_left _ (by rw [List.mem_singleton.mp (show a ∈ [b] from z1)]; exact mem_cons_self)) z.2
 . by_cases kj : k = j
   . rw [kj, aF] at hk;exact z.2 (List.mem_append_left _ hk)
   . rw [aS kj] at hk;rcases z.1 with z1 | z1
     . exact z1.1.2 ⟨k, hk⟩
     . exact z.2 (List.mem_append_left _ (by rw [List.mem_singleton.mp (show a ∈ [b] from z1)]; exact mem_cons_self))
end
def pF (K : Frag) (m : Bool) (G : List D -> D -> Prop) : Sp := fun vs H Q _ => ∃ (Z : ax) (ds : List D) (d : D), Z.Open H /\ bj K H Z ds vs /\ G ds d /\ ∀ v H', ao H H' -> In K H' (out m Z H) d v -> Q v H'
def Dg (X : Cx) (ρ : List (Option D)) (es : List Expr) (ds : List D) : Prop := PA X es (fun σ H Q => ∃ Z : ax, Z.Open H /\ cy X.K H Z σ ρ /\ ∀ vs H', ao H H' -> bj X.K H' Z ds vs -> Q vs H')
section
variable {X : Cx} {ρ : List (Option D)} {m m1 : Bool} {e o : Expr} {es : List Expr} {d : D} {ds : List D} {pos p ap cp : Pos}
theorem zv : Dg X ρ [] [] := PA.mono bc fun σ H Q z0 => aU z0 fun Z oz en k => k [] H (ao.refl H) (bt.mpr rfl)
theorem xo (ha : EG X ρ e d) (hr : Dg X ρ es ds) (hs : starEach (e :: es) X.env = (false, eval e X.env) :: starEach es X.env := by rfl) : Dg X ρ (e :: es) (d :: ds) :=
 PA.mono (aJ ha hr hs) fun σ H Q z0 => aU z0 fun Z oz en k => ⟨Z, oz, en, fun v H1 s1 i1 => ⟨Z, oz.same s1, en.same s1, fun vs H2 s2 i2 => k (v :: vs) H2 (s1.trans s2) (aO.mpr ⟨v, vs, rfl, i1.same s2, i2⟩)⟩⟩
theorem dX (ha : EG X ρ e d) (hs : starEach (e :: []) X.env = (false, eval e X.env) :: starEach [] X.env := by rfl) : Dg X ρ [e] [d] := xo ha zv hs
end
structure eU (P : Program) (w : World) (K : Frag) (mg : GN) (base : Heap) (k : Nat) (C : Addr) (x : Str) (m : Bool) (G : List D -> D -> Prop) : Prop where
 ex : ∃ f fd ps, bR P w K mg base fS k f fd ps (pF K m G) /\ Meth K C x f /\ Binds K fd ps []
structure Ah (P : Program) (w : World) (K : Frag) (mg : GN) (base : Heap) (k : Nat) (x : Str) (m : Bool) (G : List D -> D -> Prop) : Prop where
 ex : ∃ f fd ps, bR P w K mg base fS k f fd ps (pF K m G) /\ mg x = some (.ref f) /\ keepIn K (.ref f) = true /\ Binds K fd ps []
theorem bj.jm {K : Frag} {H : Hp} {Z : ax} {f : Str} : ∀ {ns : GV} {ds : List D} {xs : List V}, bj K H Z ds xs -> (ns.zip ds).lookup f = none -> (ns.zip xs).lookup f = none
 | [], _, _, _, _ => rfl
 | _ :: _, [], _, i, _ => by rw [bt.mp i]; rfl
 | n :: ns, e :: ds, _, i, h => by
  obtain ⟨v, r, rfl, a, j⟩ := aO.mp i;rw [List.zip_cons_cons, lookup_cons] at h ⊢
  cases q : f == n with
  | true => rw [q] at h; cases h
  | false => rw [q] at h; exact j.jm h
section
variable {X : Cx} {ρ : List (Option D)} {m m1 : Bool} {e o : Expr} {es : List Expr} {d : D} {ds : List D} {pos p ap cp : Pos} {k : Nat} {C : Addr} {x : Str} {G : List D -> D -> Prop} {ns : GV} {os : List D}
theorem pQ (Df : Ah X.prog X.w X.K X.mg X.base k x m G) (hr : bo k X.A) (ha : Dg X ρ (e :: es) ds) (h : G ds d) (hg : Gl X x := by rfl) (hdb : NdX x := by decide)
 (he : starEach (e :: es) X.env = (false, eval e X.env) :: starEach es X.env := by rfl) (hpl : (backTo pos (starEach es X.env)).any (·.1) = false := by rfl) : E X m ρ (.Call (.Name x p) (e :: es) [] pos) d := by
 obtain ⟨f, fd, ps, a, b, c, dd⟩ := Df.ex;exact PE.mono (oO a hr hg b c dd .nil jF ha hdb he hpl) fun σ H Q z0 => aU z0 fun Z oz en k => ⟨Z, oz, en, fun vs H1 s1 i1 => by
  show pF X.K m G (vs ++ []) H1 Q E0;rw [append_nil];exact ⟨Z, ds, d, oz.same s1, i1, h, fun v H' s' i => k v H' (s1.trans s') (i.later s1)⟩⟩
theorem i5 (Df : eU X.prog X.w X.K X.mg X.base k C x m G) (hc : mD X.K C) (hr : bo k X.A) (ho : EG X ρ o (.agg (.o C ns) os)) (hm : (ns.zip os).lookup x = none) (ha : Dg X ρ (e :: es) ds) (h : G (.agg (.o C ns) os :: ds) d)
 (hst : starEach (e :: es) X.env = (false, eval e X.env) :: starEach es X.env := by rfl) (hpl : (backTo cp (starEach es X.env)).any (·.1) = false := by rfl) {pl : Sem Bool}
 (ht : eval (.Call (.Attribute o x ap) (e :: es) [] cp) X.env = (do
  let ov <- eval o X.env
  standAt ap.atName
  let (f, first) <- holding [ov] (getMethod ov x pl)
  callWith cp f first (backTo cp (starEach (e :: es) X.env)) (backToKw cp (keywordEach [] X.env))) := by rfl) : E X m ρ (.Call (.Attribute o x ap) (e :: es) [] cp) d := by
 obtain ⟨f, fd, ps, h1, h2, h3⟩ := Df.ex;refine PE.mono (tT ho hc h2 h1 hr h3 .nil jF ha hst hpl ht) fun σ H Q ⟨Z, oz, en, kq⟩ => ⟨Z, oz, en, fun v H1 s1 i1 => ?_⟩
 obtain ⟨a, xs, rfl, ⟨g1, dx, g2⟩, g3, g4⟩ := bH.mp i1;refine ⟨a, dx, _, rfl, g2, g4.jm hm, Z, oz.same s1, en.same s1, fun vs H2 s2 i2 => ?_⟩;show pF X.K m G (.ref a :: (vs ++ [])) H2 Q E0;rw [append_nil];exact ⟨Z, _, d, oz.same (s1.trans s2), aO.mpr ⟨_, _, rfl, i1.same s2, i2⟩, h, fun v H' s' i => kq v H' ((s1.trans s2).trans s') (i.later (s1.trans s2))⟩
theorem eB (Df : eU X.prog X.w X.K X.mg X.base k C x m G) (hc : mD X.K C) (hr : bo k X.A) (ho : EG X ρ o (.agg (.o C ns) os)) (hm : (ns.zip os).lookup x = none) (h : G [.agg (.o C ns) os] d) {pl : Sem Bool}
 (ht : eval (.Call (.Attribute o x ap) [] [] cp) X.env = (do
  let ov <- eval o X.env
  standAt ap.atName
  let (f, first) <- holding [ov] (getMethod ov x pl)
  callWith cp f first (backTo cp (starEach [] X.env)) (backToKw cp (keywordEach [] X.env))) := by rfl) : E X m ρ (.Call (.Attribute o x ap) [] [] cp) d := by
 obtain ⟨f, fd, ps, h1, h2, h3⟩ := Df.ex;refine PE.mono (qI ho hc h2 h1 hr h3 .nil jF ht) fun σ H Q ⟨Z, oz, en, kq⟩ => ⟨Z, oz, en, fun v H1 s1 i1 => ?_⟩
 obtain ⟨a, xs, rfl, ⟨g1, dx, g2⟩, g3, g4⟩ := bH.mp i1;refine ⟨a, dx, _, rfl, g2, g4.jm hm, ?_⟩;exact ⟨Z, _, d, oz.same s1, bj.one i1, h, fun v H' s' i => kq v H' (s1.trans s') (i.later s1)⟩
end
def er (d : D) : Slot := if d.zd then .pl false d else .gen (GD false d)
def gn (N : GV) (ds : List D) : bX := ds.map (fun d => some (er d)) ++ List.replicate (N.length - ds.length) none
theorem kR {K : Frag} {Z : ax} {H : Hp} {m : Bool} {N : GV} {ds : List D} {vs : List V} (oz : Z.Open H) (h : bj K H Z ds vs) : aW K ⟨m, Z, H⟩ H (L2.start N vs ++ []) (gn N ds ++ []) (fun _ => []) := by
 refine ⟨ao.refl H, oz, fun _ => List.nodup_nil, fun i j a ha => by simp at ha, fun i a ha => by simp at ha, fun i a ha => by simp at ha, fun i sl e => ?_⟩;rw [append_nil] at e ⊢;unfold gn at e;unfold L2.start;by_cases hi : i < ds.length
 . rw [getElem?_append_left (by simpa using hi), getElem?_map] at e;have hd : ds[i]? = some ds[i] := by simp [hi]
   rw [hd] at e;have e' : some (er ds[i]) = some sl := by simpa using e
   cases e';obtain ⟨v, a, b⟩ := h.get hd;have hv : i < vs.length := (List.getElem?_eq_some_iff.mp a).1;refine ⟨v, by rw [getElem?_append_left (by simpa using hv), getElem?_map, a]; rfl, ?_⟩;have c : Carry K H Z H (zn ⟨m, Z, H⟩ (az fun _ => []) false) := Carry.of (ao.refl H) (fun a xs e z => ⟨z, fun ⟨j, hj⟩ => by simp at hj⟩) fun m => m;unfold er;split
   . next n => exact In.carry c (b.iR n)
   . exact e9.carry c b
 . rw [getElem?_append_right (by simpa using hi), List.getElem?_replicate] at e;split at e <;> cases e
section
variable {P : Program} {w : World} {K : Frag} {mg : GN} {base : Heap}
theorem vL {x qual : Str} {st : Stmt} {f : Addr} {fd : FuncData} {N ps : GV} {k : Nat} {m : Bool} {G : List D -> D -> Prop} (Fx : fo K x qual st f fd) (S : aD N ps (af st)) (hlen : ∀ ds d, G ds d -> ds.length = ps.length)
 (body : ∀ (cdv : Value) (A : Around) (outer : List Env) (s : Shared) (H : Hp) (E : XK) (Z : ax) (ds : List D) (d : D), bo k (A.deeper (envOfC qual (af st) s.heap.objs.size f cdv)) -> G ds d ->
  SD (h9 fS P w K mg base N qual (af st) f cdv A outer s H E).uj ⟨m, Z, H⟩ (aY st) (gn N ds) { nx := fun _ => d = .non, rt := fun d' => d' = d }) : bR P w K mg base fS (k + 1) f fd ps (pF K m G) := by
 refine Fx.ok S (fun vs H Q E ⟨Z, ds, d, oz, i, g, kk⟩ => ?_) (fun cdv A outer s H vs Q E hr ⟨Z, ds, d, oz, i, g, kk⟩ => ?_)
 . rw [<- i.length]; exact hlen ds d g
 . refine ⟨_, body cdv A outer s H E Z ds d hr g, [], [], fun _ => [], ?_, kR oz i, ⟨rfl, fun σ H' ⟨r, A', hl, S', e⟩ => ?_, fun σ H' ⟨r, A', hl, S', e⟩ => e.elim, fun σ H' ⟨r, A', hl, S', e⟩ => e.elim, fun v d' H' s' i' e => ?_, fun _ _ _ _ _ _ _ _ e => e.elim, fun _ _ _ _ _ _ _ _ _ _ _ _ _ e => e.elim, fun _ _ _ _ _ _ _ e => e.elim⟩⟩
   . have := i.length;simp [L2.start, gn]; omega
   . subst e;exact kk .non H' S'.same (ba.mpr rfl)
   . subst e;exact kk v H' s' i'
theorem Dn {x qual : Str} {st : Stmt} {f c : Addr} {fd : FuncData} {N ps : GV} {k : Nat} {m : Bool} {G : List D -> D -> Prop} (Fx : oU K x qual st f fd c) (S : aD N ps (af st)) (hlen : ∀ ds d, G ds d -> ds.length = ps.length)
 (body : ∀ (A : Around) (outer : List Env) (s : Shared) (H : Hp) (E : XK) (Z : ax) (ds : List D) (d : D), bo k (A.deeper (envOfC qual (af st) s.heap.objs.size f (.ref c))) -> G ds d ->
  SD (h9 fS P w K mg base N qual (af st) f (.ref c) A outer s H E).uj ⟨m, Z, H⟩ (aY st) (gn N ds) { nx := fun _ => d = .non, rt := fun d' => d' = d }) : bR P w K mg base fS (k + 1) f fd ps (pF K m G) := by
 obtain ⟨oc, od, kV, doc, pm, an, ct, osl, rfl, lk, hcd⟩ := Fx.ex;refine yJ lk hcd S (fun vs H Q E ⟨Z, ds, d, oz, i, g, kk⟩ => ?_) fun A outer s H vs Q E hr ⟨Z, ds, d, oz, i, g, kk⟩ => ?_
 . rw [<- i.length]; exact hlen ds d g
 . refine ⟨_, lJ.uj (body A outer s H E Z ds d hr g), [], [], fun _ => [], ?_, kR oz i, ⟨rfl, fun σ H' ⟨r, A', hl, S', e⟩ => ?_, fun σ H' ⟨r, A', hl, S', e⟩ => e.elim, fun σ H' ⟨r, A', hl, S', e⟩ => e.elim, fun v d' H' s' i' e => ?_, fun _ _ _ _ _ _ _ _ e => e.elim, fun _ _ _ _ _ _ _ _ _ _ _ _ _ e => e.elim, fun _ _ _ _ _ _ _ e => e.elim⟩⟩
   . have := i.length;simp [L2.start, gn]; omega
   . subst e;exact kk .non H' S'.same (ba.mpr rfl)
   . subst e;exact kk v H' s' i'
end
end Y
namespace Y
open PySem PySem.Spec PyProof.Rows L2 PySem.SeqAt
variable [bT]
mutual
def D.ld : D -> Bool
 | .dct _ => false
 | .agg _ _ => false
 | .lst ds => ze ds
 | .tup ds => ze ds
 | _ => true
def ze : List D -> Bool
 | [] => true
 | d :: ds => D.ld d && ze ds
end
section
variable {K : Frag} {H H' : Hp} {Z Z' : ax}
mutual
theorem In.ld (l : ∀ a (xs : List V), H a = some (.lst xs) -> Z.S a -> H' a = some (.lst xs) /\ Z'.S a) (r : Z.m = false -> Z'.m = false /\ ∀ a xs, RO K H a xs -> RO K H' a xs) (t : ∀ a (xs : List V), H a = some (.tup xs) -> H' a = some (.tup xs)) : ∀ {d : D} {v : V}, D.ld d = true -> In K H Z d v -> In K H' Z' d v
 | .non, _, _, h => by unfold In at h ⊢; exact h
 | .bl _, _, _, h => by unfold In at h ⊢; exact h
 | .int _, _, _, h => by unfold In at h ⊢; exact h
 | .str _, _, _, h => by unfold In at h ⊢; exact h
 | .ktup _, _, _, h => by unfold In at h ⊢; exact h
 | .dct _, _, f, _ => by unfold D.ld at f; cases f
 | .agg _ _, _, f, _ => by unfold D.ld at f; cases f
 | .lst ds, v, f, h => by
  unfold D.ld at f;obtain ⟨a, xs, e, at', i⟩ := ah.mp h;refine ah.mpr ⟨a, xs, e, ?_, aC.ld l r t f i⟩;rcases at' with ⟨h1, h2⟩ | ⟨h1, h2⟩
  . exact .inl (l a xs h1 h2)
  . exact .inr ⟨(r h1).1, (r h1).2 a xs h2⟩
 | .tup ds, v, f, h => by
  unfold D.ld at f;obtain ⟨a, xs, e, h1, i⟩ := bh.mp h;exact bh.mpr ⟨a, xs, e, t a xs h1, aC.ld l r t f i⟩
theorem aC.ld (l : ∀ a (xs : List V), H a = some (.lst xs) -> Z.S a -> H' a = some (.lst xs) /\ Z'.S a) (r : Z.m = false -> Z'.m = false /\ ∀ a xs, RO K H a xs -> RO K H' a xs) (t : ∀ a (xs : List V), H a = some (.tup xs) -> H' a = some (.tup xs)) : ∀ {ds : List D} {vs : List V}, ze ds = true -> aC K H Z ds vs -> aC K H' Z' ds vs
 | [], _, _, h => by unfold aC at h ⊢; exact h
 | d :: ds, vs, f, h => by
  unfold ze at f;rw [Bool.and_eq_true] at f;obtain ⟨v, rr, e, i, j⟩ := ag.mp h;exact ag.mpr ⟨v, rr, e, In.ld l r t f.1 i, aC.ld l r t f.2 j⟩
end
end
section
variable {P : Program} {w : World} {K : Frag} {mg : GN} {base : Heap}
theorem qr {H H' : Hp} {h : Heap} {d : Addr} {m : MO} (ok : gv P w H h) (hd : H d = some m.ho) (e : ∀ b, b ≠ d -> H' b = H b) (hd' : ∀ o, H' d = some o -> bz P w H' h d o) : gv P w H' h := fun b o q => by
 by_cases z : b = d
 . subst z; exact hd' o q
 . rw [e b z] at q;have keep : ∀ {c : Addr} {u : HO}, H c = some u -> (∀ m : MO, u ≠ m.ho) -> H' c = some u := fun {c u} q n => by
    rw [e c fun w => by rw [w, hd] at q; exact n m (Option.some.inj q).symm]; exact q
   exact (ok b o q).jw (fun _ _ _ q => q) (fun c q => keep q (by intro m z; rcases m with xs | (kvs | kvs) | _ <;> cases z)) fun c xs q => keep q (by intro m z; rcases m with xs | (kvs | kvs) | _ <;> cases z)
theorem bR.frozen {k : Nat} {f : Addr} {fd : FuncData} {ps : GV} {sp sp' : Sp} (F : bR P w K mg base fS k f fd ps sp')
 (h : ∀ vs H Q E, sp vs H Q E -> ∃ d kvs, H d = some (.dK kvs) /\ ∀ o, sp' vs (upd H d (.frz o (.dK kvs))) (fun v H' => Q v (upd H' d (.dK kvs))) E) : bR P w K mg base fS k f fd ps sp where
 len vs H Q E q := by
  obtain ⟨d, kvs, _, q'⟩ := h vs H Q E q;exact F.len _ _ _ _ (q' ⟨.none, none, .plain, #[]⟩)
 run A outer s H args us vs Q E hr e0 hb rv hs := by
  obtain ⟨d, kvs, hd, q'⟩ := h vs H Q E hs;obtain ⟨o, ho⟩ : ∃ o, s.heap.get? d = some o := by
   obtain ⟨_, _, _, _, o, _, _, h1, _⟩ := tM e0.hok hd;exact ⟨o, h1⟩
  have ne : ∀ {b : Addr}, H b = none -> b ≠ d := fun {b} q z => by rw [z, hd] at q; cases q
  have okF : gv P w (upd H d (.frz o (.dK kvs))) s.heap := qr (m := .d (.k kvs)) e0.hok hd (fun b z => aa z) fun u q => by
   rw [ae] at q;cases q;refine ⟨ho, (e0.hok d _ hd).jw (fun _ _ _ q => q) (fun c q => ?_) fun c xs q => ?_⟩
   . rw [aa fun z => by rw [z, hd] at q; cases q]; exact q
   . rw [aa fun z => by rw [z, hd] at q; cases q]; exact q
  have e1 : mF P w K mg base A outer s (upd H d (.frz o (.dK kvs))) := ⟨e0.frames, e0.mod, fun b u q => ⟨(e0.bs b u q).1, by rw [aa (ne (e0.bs b u q).2)]; exact (e0.bs b u q).2⟩, e0.bsz, e0.gX, fun b hb => by rw [aa (ne (e0.frf b hb))]; exact e0.frf b hb, okF, e0.bare⟩
  refine codeAny_mono (F.run A outer s _ args us vs _ E hr e1 hb rv (q' o)) fun r s' hq => ?_
  cases r with
  | error e => exact hq
  | ok fl =>
   cases fl with
   | next => exact hq
   | brk => exact hq
   | cont => exact hq
   | ret u =>
    obtain ⟨v, H', os, bare, un, hok, r', q⟩ := hq;have hd' : H' d = some (.frz o (.dK kvs)) := un.frzs d o _ ae;refine ⟨v, upd H' d (.dK kvs), os, bare, ⟨fun b u e n hb hx => ?_, fun b u e n hb hx => ?_, fun b u e n hx => ?_, un.there, fun b xs e => ?_, fun b u u' e => ?_, fun b pp e => ?_⟩, qr (m := .d (.f o kvs)) hok hd' (fun b z => aa z) fun u q => ?_, r', q⟩
    . exact un.keep b u e (by rw [aa (ne n)]; exact n) hb hx
    . exact un.slot b u e (by rw [aa (ne n)]; exact n) hb hx
    . rw [aa (ne n)]; exact un.free b u e (by rw [aa (ne n)]; exact n) hx
    . have z : b ≠ d := fun z => by rw [z, hd] at e; cases e
      rw [aa z]; exact un.tups b xs (by rw [aa z]; exact e)
    . have z : b ≠ d := fun z => by rw [z, hd] at e; cases e
      rw [aa z]; exact un.frzs b u u' (by rw [aa z]; exact e)
    . have z : b ≠ d := fun z => by rw [z, hd] at e; cases e
      rw [aa z]; exact un.tbls b pp (by rw [aa z]; exact e)
    . rw [ae] at q;cases q;refine ((hok d _ hd').2).jw (fun _ _ _ q => q) (fun c q => ?_) fun c xs q => ?_
      . rw [aa fun z => by rw [z, hd'] at q; cases q]; exact q
      . rw [aa fun z => by rw [z, hd'] at q; cases q]; exact q
end
theorem gU {P : Program} {w : World} : ∀ {es : List DictEntry} {kvs : List (Key × V)} {vs : List (Key × Value)}, KV kvs vs -> Pairs (bA P w) es vs -> Vals (kvs.map fun q => kV q.1) (es.map (·.key))
 | _, _, _, .nil, .nil => .nil
 | _, _, _, .cons r t, .cons h1 _ t2 => by
  refine .cons ?_ (gU t t2);have h2 := vh h1;rw [<- r.1] at h2;exact h2
def FP (d : Addr) (b : Obj) (kvs : List (Key × V)) : It := ⟨fun i H => i < kvs.length /\ H d = some (.frz b (.dK kvs)), fun i H x H' => H' = H /\ ∃ kv, kvs[i]? = some kv /\ x = kV kv.1, fun i H => kvs.length <= i /\ H d = some (.frz b (.dK kvs))⟩
theorem xF {xs : List V} {us : GO} (r : Vals xs us) : ∀ {i : Nat} {x : V}, xs[i]? = some x -> ∃ u, us[i]? = some u /\ RelV x u := by
 induction r with
 | nil => intro i x h; simp at h
 | cons a r ih =>
  intro i x h
  cases i with
  | zero => cases h; exact ⟨_, rfl, a⟩
  | succ i => simpa using ih (i := i) (by simpa using h)
theorem xJ {P : Program} {w : World} {K : Frag} {tg : Expr} (it d : Addr) {es : Array DictEntry} {ep : Nat} {sm : GL} {kvs : List (Key × V)} (rv : Vals (kvs.map fun q => kV q.1) (es.toList.map (·.key))) :
 Turn P w K tg (FP d (mI es ep sm) kvs) [it] it (fun i h => h.IsKeyIter it d i es.size ep) where
 mem := by simp
 obj := fun i h ⟨o, e, c, dt⟩ b hb => by
  obtain rfl : b = it := by simpa using hb
  exact ⟨o, e, fun v z => by rw [dt] at z; cases z⟩
 keep := fun i h h' ⟨o, ho, r⟩ k => ⟨o, k it (by simp) o ho, r⟩
 item := by
  intro X hP hw hK hc i pins s σ H E I hf st hg;subst hP hw hK;obtain ⟨f0, f1, f2, f3, f4, f5⟩ := hf it (by simp);obtain ⟨hg, hd⟩ : i < kvs.length /\ H d = some (.frz (mI es ep sm) (.dK kvs)) := hg;have hz : kvs.length = es.size := by have := rv.length; simpa using this
  have hi : i < es.size := by omega
  obtain ⟨u, hu, ru⟩ := xF rv (i := i) (x := kV kvs[i].1) (by simp [hg]);have key : es[i].key = u := by simpa [hi] using hu
  refine nG st ((show bz X.prog X.w H s.heap d (.frz (mI es ep sm) (.dK kvs)) from I.hok d _ hd)).1 hi fun h' st' sb => ?_;rw [key];have I1 : Inv X pins σ H { s with heap := h' } := I.turned (t' := s.toks) (fun b o hb e => (sb.2 b hb).trans e) f0 f1 f3 f4 f5;obtain ⟨o, e, c, dt⟩ := id st';exact ⟨_, rfl, qA (s := { s with heap := h' }) e c dt (by decide) ⟨kV kvs[i].1, H, I1, ru, ⟨rfl, kvs[i], by simp [hg], rfl⟩, st', fun b hb => (hf b hb).1⟩⟩
 done := by
  intro X hP hw hK hc i pins s σ H E I hf st hg;subst hP hw hK;obtain ⟨f0, f1, f2, f3, f4, f5⟩ := hf it (by simp);obtain ⟨hg, hd⟩ : kvs.length <= i /\ H d = some (.frz (mI es ep sm) (.dK kvs)) := hg;have hz : kvs.length = es.size := by have := rv.length; simpa using this
  exact qX (I.ok.hd hc) st ((show bz X.prog X.w H s.heap d (.frz (mI es ep sm) (.dK kvs)) from I.hok d _ hd)).1 (by omega) fun h' eb => ⟨rfl, I.turned (t' := s.toks) (fun b o hb e => eb b o hb e) f0 f1 f3 f4 f5⟩
 self := fun _ _ _ _ _ st h => wpAny_pyIter_keyiter st h
section
variable {X : Cx} {ρ : List (Option D)} {m m1 : Bool} {e o : Expr} {tg : Expr} {p pos : Pos} {b : Obj} {ks : List Key} {ds : List D}
theorem BD (he : EG X ρ e (.agg (.f b ks) ds)) : IT X tg false ρ e (ks.map kD) := by
 intro pins s σ H R I ⟨Z, oz, en, k⟩;refine cg (he pins s σ H (fun v H1 => ao H H1 /\ e9 X.K H1 Z (.agg (.f b ks) ds) v) I ⟨Z, oz, en, fun v H1 s1 i1 => ⟨s1, i1⟩⟩) fun u s1 ⟨x, H1, I1, rx, sm, i1⟩ => ?_;obtain ⟨d, xs, rfl, ⟨hl, hd⟩, hz, _⟩ := bH.mp i1;obtain rfl : u = Value.ref d := rx;obtain ⟨hget, _⟩ := (show bz X.prog X.w H1 s1.heap d (.frz b (.dK (ks.zip xs))) from I1.hok d _ hd)
 obtain ⟨_, nS, vs, kv, ⟨c, dc, da, sl⟩, es, ep, h1, ⟨h2, h3, h3'⟩, h4, _, h6, _⟩ := iB I1.hok (.inr ⟨b, hd⟩);subst h2 h3 h3' h4;rw [hget] at h1;cases h1;have rv := gU kv h6;have fp : ∀ c ∈ [s1.heap.objs.size], gW X pins H1 c := fun c hc => by
  obtain rfl : c = s1.heap.objs.size := by simpa using hc
  exact I1.ro (Nat.le_refl _) (I1.hok.fresh (Nat.le_refl _))
 have lz : (ks.zip xs).length = ks.length := by rw [List.length_zip]; omega
 refine m7 nS hget ⟨s1.heap.objs.size, [s1.heap.objs.size], _, FP d (mI es ep #[]) (ks.zip xs), H1, rfl, I1.kept (t' := s1.toks) fun b o e => get?_push_of_some _ e, xJ (sm := #[]) _ d rv, ⟨_, get?_push_size _ rfl, rfl, rfl⟩, fp, k _ H1 [.ref d] [.dct (.f (mI es ep #[]) (ks.zip xs))] sm (aC.one (aZ.mpr ⟨d, rfl, hd, hz⟩)) ⟨fun Z2 H2 o2 j2 i dd e => ?_, fun Z2 H2 o2 j2 => ?_⟩⟩
 . obtain ⟨w, r, e1, j3, _⟩ := ag.mp j2;cases e1;obtain ⟨d', e2, hd2, _⟩ := aZ.mp j3;cases e2;obtain ⟨kk, hks, rfl⟩ : ∃ q, ks[i]? = some q /\ kD q = dd := by simpa [getElem?_map] using e
   have hi : i < ks.length := (List.getElem?_eq_some_iff.mp hks).1;refine ⟨⟨by omega, hd2⟩, fun y H3 ⟨e1, q, e2, e3⟩ => ?_⟩;subst e1 e3;obtain ⟨q1, q2⟩ := List.getElem?_zip_eq_some.mp (show (ks.zip xs)[i]? = some (q.1, q.2) from e2);rw [hks] at q1;cases q1;exact ⟨ao.refl _, Bz _⟩
 . obtain ⟨w, r, e1, j3, _⟩ := ag.mp j2;cases e1;obtain ⟨d', e2, hd2, _⟩ := aZ.mp j3;cases e2;exact ⟨by rw [lz, length_map]; exact Nat.le_refl _, hd2⟩
theorem mx : jO X (.builtin "sorted") (fun xs H Q => ∃ (d : Addr) (kvs : List (Key × V)) (P : D -> Prop) (kd : SortKind), xs = [V.ref d] /\ Rd H d (.dK kvs) /\ gs P /\ di P kd /\ (∀ q ∈ kvs, P (kD q.1) /\ X.A.units + 2 + (kD q.1).dep < cLine) /\ kvs.length < 64 /\ X.A.handled = none /\
 ∀ a H' ys, H a = none -> H' = upd H a (.lst ys) -> (∀ Z : ax, aC X.K H' Z (jb id (kvs.map fun q => kD q.1)) ys) -> Q (.ref a) H') := by
 intro pins s σ H xs us Q I r h;obtain ⟨d, kvs, P, kd, rfl, hd, L, kk, hP, h64, hh, fin⟩ := h;obtain ⟨u, rfl, ru⟩ := vals1 r;cases ru;obtain ⟨_, nS, vs, kv, ⟨c, dc, da, sl⟩, es, ep, h1, ⟨h2, h3, h3'⟩, h4, _, h6, _⟩ := iB I.hok hd;subst h2 h3 h3' h4;have rv := gU kv h6;have hl : es.size = kvs.length := by have := rv.length; simpa using this.symm
 refine Calls.call_function_entry kind_sorted plain_sorted entry_sorted (args_sorted1 _) ?_;unfold Builtin.«sorted»;refine wpAny_bind (m := checkCount "sorted" 1 1 _) (wpAny_pure ?_);refine wpAny_bind (mS (show X.A.in1.handled = none from hh) nS h1 (by rw [sizeLine_eq]; omega) fun h' tk keep => ?_);have I1 : Inv X pins σ H { s with heap := h', toks := tk } := I.kept keep;refine wpAny_bind (wpAny_newList ?_ (by rw [length_map, Array.length_toList, sizeLine_eq]; omega));generalize hbs : es.toList.map (·.key) = bs at rv;have hbl : bs.length = kvs.length := by rw [<- rv.length, length_map]
 have hoL : (h'.push (seqObj "list" bs.toArray 0)).get? h'.objs.size = some (seqObj "list" bs.toArray 0) := get?_push_size _ rfl;have kp : ∀ b o, h'.get? b = some o -> (h'.push (seqObj "list" bs.toArray 0)).get? b = some o := fun b o e => get?_push_of_some _ e;have jU : ∀ Z : ax, aC X.K H Z (kvs.map fun q => kD q.1) (kvs.map fun q => kV q.1) := fun Z => by
  have := t4 (K := X.K) (H := H) (Z := Z) (kvs.map (·.1))
  rwa [map_map, map_map] at this
 refine wpAny_bind (wpAny_holding (wpAny_call_entry slot_list_sort ⟨_, hoL, rfl⟩ entry_list_sort (rN (s := { s with heap := h', toks := tk }) (Z := ⟨true, fun _ => True⟩) (t1 := tk) L kk (fun d hd => by
  obtain ⟨q, hq, rfl⟩ := mem_map.mp hd;exact hP q hq) I1 (jU _) rv (by rw [hbl]; omega) kp (Nat.le_refl _) hoL fun s3 prs I3 pp e3 => ⟨_, rfl, ?_⟩) (args_list_sort _)))
 have Ha : H h'.objs.size = none := I1.hok.fresh (Nat.le_refl _);refine wpAny_pure ⟨_, rfl, .ref h'.objs.size, _, I3, rfl, fin _ _ _ Ha rfl fun Z => ?_⟩;have j0 := g5 fun z hz => n8 (jU Z) z (pp.mem_iff.mp hz);rw [e3] at j0;exact j0.same (aB Ha)
theorem lU {P : D -> Prop} {kd : SortKind} {s : Sh} (hsh : s = .k ks \/ s = .f b ks) (ho : EG X ρ o (.agg s ds)) (L : gs P) (kk : di P kd) (hP : ∀ k ∈ ks, P (kD k) /\ X.A.units + 2 + (kD k).dep < cLine) (h64 : ks.length < 64) (hh : X.A.handled = none) (hm : X.mg "sorted" = none)
 (hg : Gl X "sorted" := by rfl) (hs : starEach [o] X.env = [(false, eval o X.env)] := by rfl) :
 E X true ρ (.Call (.Name "sorted" p) [o] [] pos) (.lst (jb id (ks.map kD))) :=
 PE.mono (fC mx hg hm boot_sorted (aJ ho bc (by rw [hs]; rfl)) (by decide) (by decide) (by rw [hs]; rfl) rfl) fun σ H Q z0 => aU z0 fun Z oz en k => ⟨Z, oz, en, fun x H1 s1 i1 => by
  obtain ⟨d, xs, rfl, e, _, _⟩ := bH.mp i1;obtain ⟨hl, hd⟩ : ks.length = xs.length /\ Rd H1 d (.dK (ks.zip xs)) := by
   rcases hsh with rfl | rfl
   . exact ⟨e.1, .inl e.2⟩
   . exact ⟨e.1, .inr ⟨b, e.2⟩⟩
  have em : (ks.zip xs).map (fun q => kD q.1) = ks.map kD := by
   have e1 : (ks.zip xs).map (·.1) = ks := List.map_fst_zip (Nat.le_of_eq hl);have e2 : (ks.zip xs).map (fun q => kD q.1) = ((ks.zip xs).map (·.1)).map kD := by rw [map_map]; rfl
   rw [e2, e1]
  refine ⟨d, _, P, kd, rfl, hd, L, kk, fun q hq => hP q.1 ?_, by rw [List.length_zip]; omega, hh, fun a H' ys ha eH j => ?_⟩
  . exact (List.of_mem_zip (show (q.1, q.2) ∈ ks.zip xs from hq)).1
  . subst eH;rw [em] at j;exact k (.ref a) _ (s1.trans (aB ha)) (ah.mpr ⟨a, ys, rfl, .inl ⟨ae, s1.free ha⟩, j _⟩)⟩
end
end Y
namespace Y
open PySem PySem.Spec PyProof.Rows L2
variable [bT]
abbrev Tx := List (Str × List GV)
def cS (T : Tx) : List (Key × D) := T.map fun q => (.inr q.1, bu q.2)
def jK (T : Tx) : AS := .k ((cS T).map (·.1)) ((cS T).map (·.2))
def zb (T : Tx) : List D := T.map fun q => .str q.1
def kG (T : Tx) : List Str := (jb id (zb T)).map CJ
theorem yz (T : Tx) : (kG T).map D.str = jb id (zb T) := by
 unfold kG;rw [map_map]
 conv => rhs; rw [<- List.map_id (jb id (zb T))]
 refine map_congr_left fun d hd => ?_;obtain ⟨q, _, rfl⟩ := mem_map.mp ((eZ id (zb T)).mem_iff.mp hd);rfl
theorem gc (T : Tx) : (kG T).Perm (T.map (·.1)) := by
 have h := (eZ id (zb T)).map CJ;have e : (zb T).map CJ = T.map (·.1) := by
  unfold zb;rw [map_map];rfl
 rw [e] at h;exact h
theorem BS {T : Tx} (nd : (T.map (·.1)).Nodup) : (kG T).Pairwise fun x y => br .lt (.str x) (.str y) = true := by
 have h := Cp (P := isStr) (f := id) cL (ds := zb T) fun d hd => by
  obtain ⟨q, _, rfl⟩ := mem_map.mp hd;exact ⟨_, rfl⟩
 rw [<- yz, List.pairwise_map] at h;have n2 : (kG T).Pairwise (· ≠ ·) := (gc T).nodup_iff.mpr nd;refine (h.and n2).imp fun {x y} hh => ?_
 cases q : br .lt (.str x) (.str y) with
 | true => rfl
 | false => exact absurd (by have := cL.tt _ _ ⟨x, rfl⟩ ⟨y, rfl⟩ q hh.1; injection this) hh.2
def mC (T : Tx) (n : Str) : List GV := (T.lookup n).getD []
theorem fq {T : Tx} (nd : (T.map (·.1)).Nodup) {q : Str × List GV} (h : q ∈ T) : mC T q.1 = q.2 := by
 unfold mC
 induction T with
 | nil => cases h
 | cons p T ih =>
  rw [map_cons] at nd;obtain ⟨n1, n2⟩ := nodup_cons.mp nd;obtain ⟨a, b⟩ := p;rw [lookup_cons];rcases mem_cons.mp h with rfl | h
  . simp
  . have : (q.1 == a) = false := beq_eq_false_iff_ne.mpr fun z => n1 (by rw [<- z]; exact mem_map.mpr ⟨q, h, rfl⟩);rw [this];exact ih n2 h
def mj (T : Tx) : Tx := (kG T).map fun n => (n, mC T n)
theorem iu {T : Tx} (nd : (T.map (·.1)).Nodup) : (mj T).Perm T := by
 have h := (gc T).map fun n => (n, mC T n)
 rw [map_map] at h;have e : T.map ((fun n => (n, mC T n)) ∘ (·.1)) = T := by
  conv => rhs; rw [<- List.map_id T]
  refine map_congr_left fun q hq => ?_;simp only [Function.comp, id, fq nd hq]
 rw [e] at h;exact h
def zR (q : Str × List GV) : List ((Str × Nat) × List Str) := q.2.zipIdx.map fun z => ((q.1, z.2), z.1)
def zT (T : Tx) : List ((Str × Nat) × List Str) := (mj T).flatMap zR
def dg (T : Tx) : List (Str × Nat) := (zT T).map (·.1)
def d5 (T : Tx) : List GV := (zT T).map (·.2)
def xN (p : Str × Nat) : D := .tup [.str p.1, .int (p.2 : Nat)]
theorem ue {q : Str × List GV} {z : (Str × Nat) × List Str} (h : z ∈ zR q) : z.1.1 = q.1 /\ q.2[z.1.2]? = some z.2 := by
 obtain ⟨y, hy, rfl⟩ := mem_map.mp h;have := List.mem_zipIdx_iff_getElem?.mp hy;exact ⟨rfl, this⟩
theorem DZ {T : Tx} (nd : (T.map (·.1)).Nodup) {z : (Str × Nat) × List Str} (h : z ∈ zT T) : (mC T z.1.1)[z.1.2]? = some z.2 := by
 obtain ⟨q, hq, hz⟩ := List.mem_flatMap.mp h;obtain ⟨e1, e2⟩ := ue hz;rw [e1, fq nd ((iu nd).mem_iff.mp hq)];exact e2
abbrev u4 := Str × Nat × Nat
def dy (t : u4) : D := .tup [.str t.1, .int (t.2.1 : Nat), .int (t.2.2 : Nat)]
def oY (T : Tx) (p : GZ) : u4 := (((dg T).getD p.1 ("", 0)).1, ((dg T).getD p.1 ("", 0)).2, p.2)
def my (z : (Str × Nat) × List Str) : List u4 := (List.range z.2.length).map fun a => (z.1.1, z.1.2, a)
def p7 (T : Tx) : List u4 := T.flatMap fun q => (zR q).flatMap my
theorem sf {α β : Type} (l : List α) (d : α) (g : α -> List β) : (List.range l.length).flatMap (fun i => g (l.getD i d)) = l.flatMap g := by
 conv => rhs; rw [show l = (List.range l.length).map fun i => l.getD i d from by
  apply List.ext_getElem (by simp);intro i h1 h2;simp [h1]]
 rw [List.flatMap_map]
theorem iA {α β : Type} {f g : α -> List β} : ∀ {l : List α}, (∀ a ∈ l, f a = g a) -> l.flatMap f = l.flatMap g
 | [], _ => rfl
 | a :: l, h => by rw [List.flatMap_cons, List.flatMap_cons, h a (by simp), iA fun b hb => h b (by simp [hb])]
theorem BO (T : Tx) : (iG (d5 T)).map (oY T) = p7 (mj T) := by
 have e : p7 (mj T) = (zT T).flatMap my := by
  unfold p7 zT;rw [List.flatMap_assoc]
 have hl : (d5 T).length = (zT T).length := by simp [d5]
 rw [e, <- sf (zT T) ((("", 0), []) : (Str × Nat) × List Str) my];unfold iG eY;rw [List.map_flatMap, hl];refine iA fun i hi => ?_;have hi : i < (zT T).length := by simpa using hi
 unfold my;rw [map_map];have e1 : (d5 T).getD i [] = (zT T)[i].2 := by simp [d5, hi]
 have e2 : (zT T).getD i (("", 0), []) = (zT T)[i] := by simp [hi]
 have e3 : (dg T).getD i ("", 0) = (zT T)[i].1 := by simp [dg, hi]
 rw [e1, e2];refine map_congr_left fun a _ => ?_;simp only [Function.comp, oY, e3]
theorem xq {T T' : Tx} (h : T.Perm T') : (p7 T).Perm (p7 T') := h.flatMap_right _
def FV (x y : Str × Nat) : Prop := br .lt (.str x.1) (.str y.1) = true \/ x.1 = y.1 /\ x.2 < y.2
theorem zH {T : Tx} (nd : (T.map (·.1)).Nodup) : (dg T).Pairwise FV := by
 unfold dg zT;rw [List.map_flatMap];refine List.pairwise_flatMap.mpr ⟨fun q _ => ?_, ?_⟩
 . unfold zR;rw [map_map, List.pairwise_map];have h : q.2.zipIdx.Pairwise fun a b => a.2 < b.2 := by
    have : (q.2.zipIdx.map (·.2)).Pairwise (· < ·) := by
     rw [List.zipIdx_map_snd, <- List.range_eq_range'];exact List.pairwise_lt_range
    rwa [List.pairwise_map] at this
   exact h.imp fun h => .inr ⟨rfl, h⟩
 . have h := BS nd;unfold mj;rw [List.pairwise_map];refine h.imp fun {x y} h a ha b hb => .inl ?_;obtain ⟨z, hz, rfl⟩ := mem_map.mp ha;obtain ⟨z', hz', rfl⟩ := mem_map.mp hb;rw [(ue hz).1, (ue hz').1];exact h
theorem CM {x y : Str} (h : br .lt (.str x) (.str y) = true) : br .lt (.str y) (.str x) = false /\ x ≠ y := by
 refine ⟨?_, fun e => ?_⟩
 . cases q : br .lt (.str y) (.str x) with
   | false => rfl
   | true =>
    have := cL.tr _ _ _ ⟨x, rfl⟩ ⟨y, rfl⟩ ⟨x, rfl⟩ h q;rw [cL.ir _ ⟨x, rfl⟩] at this; cases this
 . rw [e, cL.ir _ ⟨y, rfl⟩] at h; cases h
theorem wM (x y : Str × Nat) (a b : Nat) (h : FV x y) : br .lt (dy (x.1, x.2, a)) (dy (y.1, y.2, b)) = true /\ br .lt (dy (y.1, y.2, b)) (dy (x.1, x.2, a)) = false := by
 unfold dy;rcases h with h | ⟨h1, h2⟩
 . obtain ⟨h3, h4⟩ := CM h;have h3' : Od.lt.str y.1 x.1 = false := by simpa [br] using h3
   have h' : Od.lt.str x.1 y.1 = true := by simpa [br] using h
   simp [br, bV, aP, h4, Ne.symm h4, h', h3']
 . have n1 : ¬ (x.2 : Int) = (y.2 : Int) := by omega
   have n2 : ¬ (y.2 : Int) = (x.2 : Int) := by omega
   have n3 : ¬ (y.2 < x.2) := by omega
   simp [br, bV, aP, h1, n1, n2, Od.int, h2, n3]
theorem xl (x y : GZ) (h : x.1 < y.1) : br .lt (fz x) (fz y) = true /\ br .lt (fz y) (fz x) = false := by
 have n1 : ¬ (x.1 : Int) = (y.1 : Int) := by omega
 have n2 : ¬ (y.1 : Int) = (x.1 : Int) := by omega
 have n3 : ¬ (y.1 < x.1) := by omega
 unfold fz;simp [br, bV, aP, n1, n2, Od.int, h, n3]
theorem jA {T : Tx} (nd : (T.map (·.1)).Nodup) {p q : GZ} (hp : p.1 < (d5 T).length) (hq : q.1 < (d5 T).length) : br .lt (dy (oY T p)) (dy (oY T q)) = br .lt (fz p) (fz q) := by
 have hl : (d5 T).length = (dg T).length := by simp [d5, dg]
 have up := List.pairwise_iff_getElem.mp (zH nd);have hp' : p.1 < (dg T).length := by omega
 have hq' : q.1 < (dg T).length := by omega
 have ep : (dg T).getD p.1 ("", 0) = (dg T)[p.1] := by simp [hp']
 have eq : (dg T).getD q.1 ("", 0) = (dg T)[q.1] := by simp [hq']
 unfold oY;rw [ep, eq];rcases Nat.lt_trichotomy p.1 q.1 with h | h | h
 . rw [(wM _ _ p.2 q.2 (up p.1 q.1 hp' hq' h)).1, (xl p q h).1]
 . obtain ⟨i, a⟩ := p;obtain ⟨j, b⟩ := q;have h : i = j := h;subst h;simp [dy, fz, br, bV, aP]
 . rw [(wM _ _ q.2 p.2 (up q.1 p.1 hq' hp' h)).2, (xl q p h).2]
def yk (T : Tx) (t : u4) : List Str := ((mC T t.1).getD t.2.1 []).drop t.2.2
theorem uu {T : Tx} (nd : (T.map (·.1)).Nodup) {p : GZ} (hp : p.1 < (d5 T).length) : yk T (oY T p) = endAt (d5 T) p := by
 have hz : p.1 < (zT T).length := by simpa [d5] using hp
 have e3 : (dg T).getD p.1 ("", 0) = (zT T)[p.1].1 := by simp [dg, hz]
 have e1 : (d5 T).getD p.1 [] = (zT T)[p.1].2 := by simp [d5, hz]
 have := DZ nd (getElem_mem hz);unfold yk oY endAt;rw [e3, e1];simp [this]
def oQ (T : Tx) (t : u4) : D := .tup [aE (yk T t), dy t]
def pZ (d : D) : Prop := ∃ (ws : GV) (t : u4), d = .tup [aE ws, dy t]
theorem p8 : gs pZ := (gz (kr (uw cL) (gz (kr cL ku)))).sub fun d ⟨ws, p, e⟩ => by
 subst e;exact ⟨_, rfl, ⟨_, rfl, fi.fts_strs ws⟩, ⟨_, rfl, ⟨p.1, rfl⟩, ⟨p.2.1, rfl⟩, ⟨p.2.2, rfl⟩, trivial⟩, trivial⟩
theorem uW : di pZ (tuples' true) := .tup "list" (.inr (.inr rfl)) fun d ⟨ws, p, e⟩ => ⟨aE ws, [dy p], e, rfl, rfl⟩
def A3 (T : Tx) : D -> D
 | .tup [.str n, .int r, .int c] => .tup [aE (yk T (n, r.toNat, c.toNat)), .tup [.str n, .int r, .int c]]
 | _ => .non
theorem dM (T : Tx) (t : u4) : A3 T (dy t) = oQ T t := by simp [A3, dy, oQ]
def aN (T : Tx) : List u4 := (eG (d5 T)).map (oY T)
theorem qF {T : Tx} (nd : (T.map (·.1)).Nodup) : (aN T).map dy = jb (A3 T) ((p7 T).map dy) := by
 refine oV (P := pZ) p8 (fun d hd => ?_) (fun a ha b hb e => ?_) ?_ ?_
 . obtain ⟨t, _, rfl⟩ := mem_map.mp hd;rw [dM];exact ⟨_, t, rfl⟩
 . obtain ⟨t, _, rfl⟩ := mem_map.mp ha;obtain ⟨u, _, rfl⟩ := mem_map.mp hb;rw [dM, dM] at e;unfold oQ at e;injection e with e;injection e with _ e;injection e with e _
 . refine List.Perm.map _ ?_;unfold aN;refine ((fh (d5 T)).map (oY T)).trans ?_;rw [BO];exact xq (iu nd)
 . unfold aN;rw [List.pairwise_map, List.pairwise_map];have up := (y4 (d5 T))
   refine List.Pairwise.imp_of_mem (fun {x y} hx hy h => ?_) up;have hx' := ia (jh.mp hx);have hy' := ia (jh.mp hy);rw [dM, dM];unfold oQ;rw [uu nd hx', uu nd hy'];have key : br .lt (.tup [aE (endAt (d5 T) y), dy (oY T y)]) (.tup [aE (endAt (d5 T) x), dy (oY T x)]) = br .lt (fA (d5 T) y) (fA (d5 T) x) := by
    unfold fA;simp only [br, bV];split
    . have l3 : gs (isTup (Fu isStr isInt)) := gz (kr cL ku);have p3 : ∀ t, isTup (Fu isStr isInt) (dy t) := fun t => ⟨_, rfl, ⟨t.1, rfl⟩, ⟨t.2.1, rfl⟩, ⟨t.2.2, rfl⟩, trivial⟩
      have l2 : gs (isTup fun _ => isInt) := gz fun _ => ku;have p2 : ∀ t, isTup (fun _ => isInt) (fz t) := fun t => ⟨_, rfl, ⟨t.1, rfl⟩, ⟨t.2, rfl⟩, trivial⟩
      have e1 := jA nd hy' hx';have e2 := jA nd hx' hy';have hd : aP (dy (oY T y)) (dy (oY T x)) = aP (fz y) (fz x) := by
       by_cases z : y = x
       . subst z; rw [bw, bw]
       . have n1 : fz y ≠ fz x := fun w => z (tY w);have n2 : dy (oY T y) ≠ dy (oY T x) := fun w => by
          rw [w, l3.ir _ (p3 _)] at e1;rw [w, l3.ir _ (p3 _)] at e2;exact n1 (l2.tt _ _ (p2 y) (p2 x) e1.symm e2.symm)
         have q1 : aP (dy (oY T y)) (dy (oY T x)) = false := by
          cases q : aP (dy (oY T y)) (dy (oY T x)) with
          | false => rfl
          | true => exact absurd (l3.eq _ _ (p3 _) (p3 _) q) n2
         have q2 : aP (fz y) (fz x) = false := by
          cases q : aP (fz y) (fz x) with
          | false => rfl
          | true => exact absurd (l2.eq _ _ (p2 _) (p2 _) q) n1
         rw [q1, q2]
      rw [hd];split
      . rfl
      . have := jA nd hy' hx';simpa [br] using this
    . rfl
   rw [key];have as : oM (d5 T) y x = false := by
    cases q : oM (d5 T) y x with
    | false => rfl
    | true =>
     have t := fi.tr _ _ _ ⟨_, x, rfl⟩ ⟨_, y, rfl⟩ ⟨_, x, rfl⟩ (show br .lt (fA (d5 T) x) (fA (d5 T) y) = true from h) q;rw [fi.ir _ ⟨_, x, rfl⟩] at t; cases t
   exact as
section
variable {X : Cx} {ρ : List (Option D)} {m m1 m2 : Bool} {a b : Expr} {ds es : List D} {d : D} {p pos : Pos}
theorem uO : kQ X (binaryOp .Add) (fun x y H Q => ∃ l b xs zs, x = .ref l /\ y = .ref b /\ rH X.K H l xs /\ rH X.K H b zs /\ xs ≠ [] /\ zs ≠ [] /\ xs.length + zs.length <= sizeLine /\ ∀ p, H p = none -> Q (.ref p) (upd H p (.tup (xs ++ zs)))) := by
 intro pins s σ H x y v u Q I rx ry h;obtain ⟨l, b, xs, zs, rfl, rfl, hH, hB, n1, n2, hz, q⟩ := h;cases rx;cases ry;obtain ⟨its, r, ⟨⟨c1, d1, a1, s1⟩, e1, hc1, n1', hd1⟩, z1⟩ := I.tuple hH;obtain ⟨its2, r2, ⟨⟨c2, d2, a2, s2⟩, e2, hc2, n2', hd2⟩, z2⟩ := I.tuple hB;dsimp only at hc1 hd1 hc2 hd2;subst hc1 hd1 hc2 hd2;have h1 := r.length;have h2 := r2.length;have ne1 : its ≠ [] := fun z => n1 (List.eq_nil_of_length_eq_zero (by rw [h1, z]; rfl));have ne2 : its2 ≠ [] := fun z => n2 (List.eq_nil_of_length_eq_zero (by rw [h2, z]; rfl));refine concat_meets ⟨_, e1, rfl⟩ ⟨_, e2, rfl⟩ noFill_tuple_add seq_tuple_add F.slot_tuple_add F.entry_tuple_add (F.args_tuple_add_2 _ _) (tuple_addW2 l b its.toArray its2.toArray n1' n2' d1 d2 s1 s2 (by simpa using ne1) (by simpa using ne2) (by rw [size_toArray, size_toArray]; omega)) ⟨e1, e2, ?_⟩;have ea : its.toArray ++ its2.toArray = (its ++ its2).toArray := by simp
 rw [ea];exact ⟨.ref _, _, I.laid (o := .tup (xs ++ zs)) (t' := s.toks) (fun _ _ q => get?_push_of_some _ q) (Nat.le_refl _) ⟨by rw [List.length_append]; omega, _, r.append r2, ⟨_, get?_push_size _ rfl, rfl, _, rfl⟩⟩, rfl, q _ I.fresh⟩
theorem B7 (ha : E X m1 ρ a (.tup ds)) (hb : E X m2 ρ b (.tup es)) (n1 : ds ≠ []) (n2 : es ≠ []) (hz : ds.length + es.length <= 1000) (hf : m = true -> aV ds = true /\ aV es = true := by intro h; first | cases h | exact ⟨rfl, rfl⟩) : E X m ρ (.BinOp a .Add b pos) (.tup (ds ++ es)) :=
 PE.mono (Bp uO ha hb) fun σ H Q z0 => aU z0 fun Z oz en k => ⟨Z, oz, en, fun x H1 s1 i1 => ⟨Z, oz.same s1, en.same s1, fun y H2 s2 i2 => by
  have s := s1.trans s2;obtain ⟨p, xs, rfl, lq, j⟩ := bh.mp (In.same s2 (i1.plain oz));obtain ⟨p', ys, rfl, lq', j'⟩ := bh.mp (i2.plain (oz.same s1));have l1 := j.length;have l2 := j'.length;refine ⟨p, p', xs, ys, rfl, rfl, .inl (.inl lq), .inl (.inl lq'), fun z => n1 (List.eq_nil_of_length_eq_zero (by rw [l1, z]; rfl)), fun z => n2 (List.eq_nil_of_length_eq_zero (by rw [l2, z]; rfl)), Nat.le_trans (by omega) (Nat.le_of_lt (aR (Nat.le_refl _))), fun q hq => k (.ref q) _ (s.trans (aB hq)) ?_⟩;have i0 : In X.K (upd H2 q (.tup (xs ++ ys))) Z (.tup (ds ++ es)) (.ref q) := bh.mpr ⟨q, _, rfl, ae, (j.append j').same (aB hq)⟩;cases m
  . exact i0
  . refine In.cT (dZ fun d hd => ?_) i0;rcases mem_append.mp hd with hd | hd
    . exact e8 (hf rfl).1 d hd
    . exact e8 (hf rfl).2 d hd⟩⟩
theorem Dz {lo hi : Option Expr} {l u : Option Int} {p2 : Pos} (ha : E X m1 ρ a (.tup ds)) (hl : EO X ρ lo l) (hu : EO X ρ hi u) (fl : aV ds = true) (hw : (cut ds l u).length ≠ ds.length) : E X m ρ (.Subscript a (.Slice lo hi none p2) pos) (.tup (cut ds l u)) :=
 PE.mono (lK BM ha hl hu) fun σ H Q z0 => aU z0 fun Z oz en k => ⟨Z, oz, en, fun x H1 s1 i1 => ⟨Z, oz.same s1, en.same s1, fun H2 s2 => ⟨Z, oz.same (s1.trans s2), en.same (s1.trans s2), fun H3 s3 => by
  have s := (s1.trans s2).trans s3;have i3 : In X.K H3 (out m1 Z H) (.tup ds) x := In.same (s2.trans s3) i1;obtain ⟨p, xs, rfl, lq, j⟩ := bh.mp i3;have jc := j.cut l u;have e1 := j.length;have e2 := jc.length;refine ⟨p, xs, rfl, .inl (.inl lq), fun z => hw ?_, fun q hq => k (.ref q) _ (s.trans (aB hq)) ?_⟩
  . unfold Y.cut;rw [e1, z.1, z.2, List.drop_zero, Nat.sub_zero, List.take_of_length_le (by omega)];exact e1
  . refine In.cT (Z := out m1 Z H) ?_ (bh.mpr ⟨q, _, rfl, ae, jc.same (aB hq)⟩);refine dZ fun d hd => e8 fl d ?_;unfold Y.cut at hd;exact List.mem_of_mem_drop (List.mem_of_mem_take hd)⟩⟩⟩
end
structure eX (K : Frag) (mg : GN) (c : Str) (C : Addr) (fs : GV) : Prop where
 cl : mD K C
 no : ∀ f ∈ fs, cM K C f
 mg : mg c = some (.ref C)
theorem Def.alias {P : Program} {w : World} {K : Frag} {mg : GN} {base : Heap} {k : Nat} {x y : Str} {m : Bool} {G : List D -> D -> Prop} {f : Addr} (h : Def P w K mg base k x m G) (e : mg y = some (.ref f)) (e' : mg x = some (.ref f)) : Def P w K mg base k y m G := by
 obtain ⟨f', fd, ps, a, b, c, d⟩ := h.ex;rw [e'] at b;cases b;exact ⟨f, fd, ps, a, e, c, d⟩
abbrev wx : List Str := ["texts", "origins", "together", "order"]
def EE (T : Tx) : AS := .l ((dg T).map xN)
def E5 (T : Tx) : AS := .l ((d5 T).map aE)
def xx (T : Tx) : AS := .l ((eG (d5 T)).map fz)
def fc (T : Tx) : dB := [("texts", jK T), ("origins", EE T), ("together", E5 T), ("order", xx T)]
structure ud (T : Tx) : Prop where
 nd : (T.map (·.1)).Nodup
 few : T.length < 64
 eA : eA (d5 T) < 64
 rows : (d5 T).length < 500
theorem jo {α : Type} {f : α -> D} (h : ∀ a, (f a).flat = true) (l : List α) : aV (l.map f) = true := dZ fun d hd => by
 obtain ⟨a, _, rfl⟩ := mem_map.mp hd;exact h a
def pA (C : Addr) (ds : List D) (d : D) : Prop := ∃ (fs : dB) (T : Tx), fs.lookup ("texts" : Str) = some (jK T) /\ T.length < 64 /\ ds = [gN C fs] /\ d = aE (kG T)
def yS (C : Addr) (ds : List D) (d : D) : Prop := ∃ (T : Tx) (n : Str), n ∈ T.map (·.1) /\ ds = [gN C (fc T), .str n] /\ d = .non
def wJ (C : Addr) (ds : List D) (d : D) : Prop := ∃ (T : Tx) (n : Str), ud T /\ n ∈ T.map (·.1) /\ (mC T n).length < 500 /\ ds = [gN C (fc T), .str n] /\ d = bu (mC T n)
def toD (t : Nat × List Int) : D := .tup (.int (t.1 : Nat) :: t.2.map D.int)
def Gj (T : Tx) (t : Nat × List Int) : D := .tup ([.str ((dg T).getD t.1 ("", 0)).1, .int ((((dg T).getD t.1 ("", 0)).2 : Nat) : Int)] ++ t.2.map D.int)
def uN (C : Addr) (ds : List D) (d : D) : Prop := ∃ (T : Tx) (ts : List (Nat × List Int)), (∀ t ∈ ts, t.1 < (dg T).length /\ t.2 ≠ [] /\ t.2.length <= 2) /\ ts.length <= 5000 /\ ds = [gN C (fc T), .lst (ts.map toD)] /\ d = .lst (ts.map (Gj T))
def pH (C : Addr) (ds : List D) (d : D) : Prop := ∃ T : Tx, ud T /\ ds = [gN C (fc T)] /\ d = .lst ((aN T).map dy)
def eT (T : Tx) (n : Str) : List Int := ((aN T).zipIdx.filter fun z => decide (z.1.1 = n)).map fun z => ((z.2 : Nat) : Int)
def sE (C : Addr) (ds : List D) (d : D) : Prop := ∃ (T : Tx) (n : Str), ud T /\ ds = [gN C (fc T), .str n] /\ d = .lst ((eT T n).map D.int)
def Ac (fs : dB) (ds : List D) (fs' : dB) (d : D) : Prop := ∃ T : Tx, ud T /\ (fs = ([("texts", jK T)] : dB) \/ ∃ a b c, fs = ([("texts", jK T), ("origins", a), ("together", b), ("order", c)] : dB)) /\ ds = [] /\ fs' = fc T /\ d = .non
def Bd (fs : dB) (ds : List D) (fs' : dB) (d : D) : Prop := fs = [] /\ ds = [] /\ fs' = fc [] /\ d = .non
def DF (fs : dB) (ds : List D) (fs' : dB) (d : D) : Prop := ∃ (T : Tx) (n z : Str), n ∉ T.map (·.1) /\ ud (T ++ [(n, cj z)]) /\ z.length <= 2000 /\ fH z /\ fs = fc T /\ ds = [.str n, .str z] /\ fs' = fc (T ++ [(n, cj z)]) /\ d = .lst ((eT (T ++ [(n, cj z)]) n).map D.int)
def h8 (T : Tx) (n : Str) : Tx := T.filter fun q => decide (q.1 ≠ n)
def Bw (fs : dB) (ds : List D) (fs' : dB) (d : D) : Prop := ∃ (T : Tx) (n : Str), n ∈ T.map (·.1) /\ ud T /\ ud (h8 T n) /\ fs = fc T /\ ds = [.str n] /\ fs' = fc (h8 T n) /\ d = .lst ((eT T n).map D.int)
theorem qG (T : Tx) (n : Str) : jT (.inr n) (cS T) = cS (h8 T n) := by
 unfold jT cS h8;rw [filter_map];congr 1;refine List.filter_congr fun q _ => ?_;simp
theorem ef (T : Tx) : (cS T).map (·.1) = (T.map (·.1)).map Sum.inr := by
 unfold cS;rw [map_map, map_map];rfl
theorem zP (T : Tx) (n : Str) (r : GI) : jK (T ++ [(n, r)]) = .k ((cS T).map (·.1) ++ [.inr n]) ((cS T).map (·.2) ++ [bu r]) := by
 unfold jK cS;simp
theorem pL {T : Tx} {n : Str} (h : n ∈ T.map (·.1)) : (.inr n : Key) ∈ (cS T).map (·.1) := by
 rw [ef];exact mem_map.mpr ⟨n, h, rfl⟩
theorem iZ {T : Tx} {n : Str} (h : n ∉ T.map (·.1)) : (.inr n : Key) ∉ (cS T).map (·.1) := by
 rw [ef];intro z;obtain ⟨m, hm, e⟩ := mem_map.mp z;cases e;exact h hm
theorem iV {T : Tx} (nd : (T.map (·.1)).Nodup) {n : Str} (h : n ∈ T.map (·.1)) : ∃ j, (Sh.k ((cS T).map (·.1))).key (.str n) (some j) /\ ((cS T).map (·.2))[j]? = some (bu (mC T n)) := by
 cases q : ((cS T).map (·.1)).findIdx? (· = (.inr n : Key)) with
 | none =>
  have := List.findIdx?_eq_none_iff.mp q _ (pL h);simp at this
 | some j =>
  obtain ⟨h1, h2, _⟩ := List.findIdx?_eq_some_iff_getElem.mp q;have hj : j < T.length := by simpa [cS] using h1
  refine ⟨j, ⟨.inr n, rfl, q.symm⟩, ?_⟩;have e : T[j].1 = n := by
   have := of_decide_eq_true h2;simpa [cS] using this
  have e2 := fq nd (getElem_mem hj);rw [e] at e2;simp [cS, hj, e2]
theorem qz {T : Tx} {n : Str} (h : n ∉ T.map (·.1)) : (Sh.k ((cS T).map (·.1))).key (.str n) none := by
 refine ⟨.inr n, rfl, (List.findIdx?_eq_none_iff.mpr fun x hx => ?_).symm⟩;simp;exact fun z => iZ h (z ▸ hx)
theorem xi {f : Str} : ∀ {fs : dB} {s : AS}, fs.lookup f = some s -> ((fs.map (·.1)).zip (fs.map (·.2.d))).lookup f = some s.d
 | [], _, h => by cases h
 | (g, t) :: fs, s, h => by
  rw [lookup_cons] at h;rw [map_cons, map_cons, List.zip_cons_cons, lookup_cons]
  cases q : f == g with
  | true => rw [q] at h; cases h; rfl
  | false => rw [q] at h; exact xi h
theorem cF {f : Str} : ∀ {fs : dB}, fs.lookup f = none -> ((fs.map (·.1)).zip (fs.map (·.2.d))).lookup f = none
 | [], _ => rfl
 | (g, t) :: fs, h => by
  rw [lookup_cons] at h;rw [map_cons, map_cons, List.zip_cons_cons, lookup_cons]
  cases q : f == g with
  | true => rw [q] at h; cases h
  | false => rw [q] at h; exact cF h
theorem nh {k : Nat} {A : Around} {x : Str} (r : bo k A) : A.units + 2 + (kD (.inr x)).dep < cLine := by
 have h := r.un;have e : (kD (.inr x)).dep = 0 := rfl;omega
theorem wO {k : Nat} {A : Around} {Tt : Tx} {t : u4} (r : bo k A) : A.units + 2 + (oQ Tt t).dep < cLine := by
 have h := r.un;have e : (oQ Tt t).dep = 2 := by simp [oQ, aE, dy, D.dep, b0, iU]
 omega
theorem gK (T : Tx) (n : Str) : eT T n = ((List.range (aN T).length).filter fun i => decide (((aN T).getD i ("", 0, 0)).1 = n)).map fun i => ((i : Nat) : Int) := by
 unfold eT;have e : (aN T).zipIdx = (List.range (aN T).length).map fun i => ((aN T).getD i ("", 0, 0), i) := by
  apply List.ext_getElem (by simp);intro i h1 h2;simp at h1;simp [h1]
 rw [e, filter_map, map_map];rfl
theorem ug {T : Tx} {n : Str} (h : n ∈ T.map (·.1)) : ∃ j, (Sh.k ((cS T).map (·.1))).key (.str n) (some j) := by
 cases q : ((cS T).map (·.1)).findIdx? (· = (.inr n : Key)) with
 | none =>
  have := List.findIdx?_eq_none_iff.mp q _ (pL h);simp at this
 | some j => exact ⟨j, .inr n, rfl, q.symm⟩
theorem tu {T : Tx} {p : GZ} (h : p ∈ eG (d5 T)) : p.1 < (dg T).length := by
 have := ia (jh.mp h);simpa [d5, dg] using this
theorem Ap {α : Type} (a : α) (l : List α) : cut (a :: l) (some 1) none = l := by
 have e := kN (α := α) (a :: l) 1;simpa using e
def Bq (K : Frag) (F : Fn) (ρ : bX) (σ : St) (H : Hp) (A : Nat -> List Addr) : Prop := ∃ hv hρ, σ.length = ρ.length /\ aW K F H (σ ++ hv) (ρ ++ hρ) A
def FW (K : Frag) (F : Fn) (ρ : bX) (d : D) : TE := fun σ H Q => ∃ A, Bq K F ρ σ H A /\ ∀ v H1, ao H H1 -> In K H1 (zn F (az A) false) d v -> Q v H1
def Di (K : Frag) (F : Fn) (ρ : bX) (ds : List D) : TI := fun σ H R => ∃ A, Bq K F ρ σ H A /\ ∀ J H1 vs cG, ao H H1 -> aC K H1 (zn F (az A) false) cG vs -> rY K J vs cG ds -> R J H1
section
variable {X : Cx} {F : Fn} {ρ : bX} {Q : ft} {rest body : List Stmt} {e key a : Expr} {es : List Expr} {pos p sp pt : Pos} {ds : List D} {m1 : Bool} {C : Addr} {fs : dB} {f : Str} {o : GQ} {kt : Nat}
theorem p5 {tg iter : Expr} {g : TG} (G : D -> bX -> bX) (P : Nat -> bX -> Prop) (hi : PI X tg iter (Di X.K F ρ ds)) (h0 : P 0 ρ) (hg : PG X tg g)
 (hG : ∀ n d r (hv : St) (hρ : bX) (σ : St) (H H1 : Hp) (A : Nat -> List Addr) (v : V) (Q : St -> Hp -> Prop), ds[n]? = some d -> P n r -> σ.length = r.length -> aW X.K F H (σ ++ hv) (r ++ hρ) A -> ao H H1 -> In X.K H1 (zn F (az A) false) d v ->
  (∀ σ' H', mM X.K F hv hρ (fun r' => r' = G d r) σ' H' -> Q σ' H') -> g v σ H1 Q)
 (hb : ∀ n d r, ds[n]? = some d -> P n r -> SD X F body (G d r) { Q with nx := P (n + 1), ct := P (n + 1), bk := fun r => SD X F rest r Q }) (hd : ∀ r, P ds.length r -> SD X F rest r Q)
 (hc : X.calm = true := by rfl) (hs : ∀ x, foldedSetIterable iter X.env x = pure x := by intro _; rfl) (hp : PassesOwn (model X.prog X.w) X.A X.env X.xe := by exact PassesOwn.never) : SD X F (.For tg iter body [] pos :: rest) ρ Q := by
 refine fV (N := fun r => SD X F rest r Q) ?_ fun _ h => h;refine PS.mono (B5 (g := g) (tb := fun Q' σ H => ∃ n d r, ds[n]? = some d /\ P n r /\ tS X.K F (G d r) { Q with nx := P (n + 1), ct := P (n + 1), bk := fun r => SD X F rest r Q } Q' σ H) hp hc hi hg
  (fun pins s σ H Q' I ⟨n, d, r, e, pr, q⟩ => hb n d r e pr pins s σ H Q' I q) hs) fun Q' σ H z0 => d8 z0 fun hv hρ A hl S f => ?_
 refine ⟨A, ⟨hv, hρ, hl, S⟩, fun J H1 vs cG s1 iz Y => ?_⟩;have hsv := iz.length;refine ⟨fun n m σ H => m = ds.length - n /\ n <= ds.length /\ ∃ r A, P n r /\ σ.length = r.length /\ aW X.K F H (σ ++ (hv ++ vs.map some)) (r ++ (hρ ++ Cy false cG)) A, ⟨_, rfl, Nat.zero_le _, ρ, A, h0, hl, (S.grow s1).hide hl f.hl iz⟩, ?_⟩;rintro n m σ1 H2 ⟨rfl, hn, r, A1, pr, hl1, S1⟩;have iz1 := S1.cG hl1 f.hl hsv;by_cases hlt : n < ds.length
 . have hdn : ds[n]? = some ds[n] := by simp [hlt]
   obtain ⟨go, yl⟩ := Y.go _ H2 (cN S1 false) iz1 n ds[n] hdn;refine .inr ⟨go, mM X.K F (hv ++ vs.map some) (hρ ++ Cy false cG) (P (n + 1)), fun σ' H' ⟨r', A', hl', S', p'⟩ => ⟨ds.length - (n + 1), by omega, rfl, hlt, r', A', p', hl', S'⟩, fun y H3 hy => ?_⟩;obtain ⟨s3, iy⟩ := yl y H3 hy;refine hG n ds[n] r _ _ σ1 H2 H3 A1 y _ hdn pr hl1 S1 s3 iy fun σ4 H4 ⟨r4, A4, hl4, S4, e4⟩ => ?_;subst e4;refine ⟨n, ds[n], r, hdn, pr, _, _, A4, hl4, S4, ⟨by simp [Cy, f.hl, hsv], fun _ _ h => h, fun σ5 H5 ⟨r5, A5, hl5, S5, q5⟩ => f.nx σ5 H5 ⟨r5, A5, hl5, S5.om hl5 f.hl, q5⟩, fun _ _ h => h, f.rt, f.rtT, fun σ6 H6 r6 A6 v6 d6 as6 hl6 S6 => f.rtM σ6 H6 r6 A6 v6 d6 as6 hl6 (S6.om hl6 f.hl), fun σ6 H6 r6 A6 v6 hl6 S6 => f.rtS σ6 H6 r6 A6 v6 hl6 (S6.om hl6 f.hl)⟩⟩
 . have e : n = ds.length := by omega
   subst e;exact .inl ⟨Y.stop _ H2 (cN S1 false) iz1, f.nx _ _ ⟨r, A1, hl1, S1.om hl1 f.hl, hd r pr⟩⟩
theorem PI.Fc {tg iter : Expr} (h : IT X tg true (view true false ρ) iter ds) : PI X tg iter (Di X.K F ρ ds) := PI.mono h fun σ H R ⟨A, ⟨hv, hρ, hl, S⟩, k⟩ => ⟨_, ar S true false, S.env hl true false, fun J H1 vs cG s1 i1 Y => k J H1 vs cG s1 (i1.up (cN S false)) Y⟩
theorem PI.FX {tg iter : Expr} {mi : Bool} (h : IT X tg mi (view false false ρ) iter ds) : PI X tg iter (Di X.K F ρ ds) := PI.mono h fun σ H R ⟨A, ⟨hv, hρ, hl, S⟩, k⟩ => ⟨_, ar S false false, S.env hl false false, fun J H1 vs cG s1 i1 Y => k J H1 vs cG s1 (by
 cases mi
 . exact i1
 . exact i1.up (cN S false)) Y⟩
theorem cb (k : Nat) {x : Str} {px : Pos} {iter : Expr} {mi : Bool} (P : Nat -> bX -> Prop) (hi : IT X (.Name x px) mi (view false false ρ) iter ds) (fl : ∀ d ∈ ds, d.flat = true) (h0 : P 0 ρ) (hlen : ∀ n r, P n r -> k < r.length)
 (hb : ∀ (n : Nat) d r, ds[n]? = some d -> P n r -> SD X F body (r.set k (some (.pl true d))) { Q with nx := P (n + 1), ct := P (n + 1), bk := fun r => SD X F rest r Q }) (hd : ∀ r, P ds.length r -> SD X F rest r Q)
 (hN : X.N.Nodup) (hx : X.N[k]? = some x := by rfl) (hxl : Loc X.env.scope x := by first | exact Or.inl rfl | exact Or.inr rfl) (hf : HfX X x := by first | exact .inl rfl | exact .inr rfl) (hc : X.calm = true := by rfl)
 (hs : ∀ x, foldedSetIterable iter X.env x = pure x := by intro _; rfl) (hp : PassesOwn (model X.prog X.w) X.A X.env X.xe := by exact PassesOwn.never) : SD X F (.For (.Name x px) iter body [] pos :: rest) ρ Q :=
 p5 (fun d r => r.set k (some (.pl true d))) P (PI.FX hi) h0 (fj hN hx hxl hf) (fun n d r hv hρ σ H H1 A v q e pr hl S s i h => h _ _ (kX hl S (hlen n r pr) s (i.cT (fl d (mem_of_getElem? e))))) hb hd hc hs hp
theorem yf (k : Nat) {x : Str} {px : Pos} {iter : Expr} (P : Nat -> bX -> Prop) (hi : PI X (.Name x px) iter (Di X.K F ρ ds)) (h0 : P 0 ρ) (hlen : ∀ n r, P n r -> k < r.length)
 (hb : ∀ n d r, ds[n]? = some d -> P n r -> SD X F body (r.set k (some (.pl false d))) { Q with nx := P (n + 1), ct := P (n + 1), bk := fun r => SD X F rest r Q }) (hd : ∀ r, P ds.length r -> SD X F rest r Q)
 (hN : X.N.Nodup) (hx : X.N[k]? = some x := by rfl) (hxl : Loc X.env.scope x := by first | exact Or.inl rfl | exact Or.inr rfl) (hf : HfX X x := by first | exact .inl rfl | exact .inr rfl) (hc : X.calm = true := by rfl)
 (hs : ∀ x, foldedSetIterable iter X.env x = pure x := by intro _; rfl) (hp : PassesOwn (model X.prog X.w) X.A X.env X.xe := by exact PassesOwn.never) : SD X F (.For (.Name x px) iter body [] pos :: rest) ρ Q :=
 p5 (fun d r => r.set k (some (.pl false d))) P hi h0 (fj hN hx hxl hf) (fun n d r hv hρ σ H H1 A v q e pr hl S s i h => h _ _ (kX hl S (hlen n r pr) s i)) hb hd hc hs hp
theorem ql (k l : Nat) {x y : Str} {px py : Pos} {iter : Expr} (P : Nat -> bX -> Prop) (hi : PI X (.Tuple [.Name x px, .Name y py] kt pt) iter (Di X.K F ρ ds)) (h0 : P 0 ρ) (hlen : ∀ n r, P n r -> k < r.length /\ l < r.length) (hpair : ∀ d ∈ ds, ∃ d1 d2, d = .tup [d1, d2])
 (hb : ∀ n d1 d2 r, ds[n]? = some (.tup [d1, d2]) -> P n r -> SD X F body ((r.set k (some (.pl false d1))).set l (some (.pl false d2))) { Q with nx := P (n + 1), ct := P (n + 1), bk := fun r => SD X F rest r Q }) (hd : ∀ r, P ds.length r -> SD X F rest r Q)
 (hN : X.N.Nodup) (hx : X.N[k]? = some x := by rfl) (hy : X.N[l]? = some y := by rfl) (hxl : Loc X.env.scope x := by first | exact Or.inl rfl | exact Or.inr rfl) (hyl : Loc X.env.scope y := by first | exact Or.inl rfl | exact Or.inr rfl)
 (hf : HfX X x := by first | exact .inl rfl | exact .inr rfl) (hf' : X.fn y = true \/ X.env.scope.names.lookup y = some .local := by first | exact .inl rfl | exact .inr rfl) (hc : X.calm = true := by rfl)
 (hs : ∀ x, foldedSetIterable iter X.env x = pure x := by intro _; rfl) (hp : PassesOwn (model X.prog X.w) X.A X.env X.xe := by exact PassesOwn.never)
 (hes : (assignEach [.Name x px, .Name y py] X.env).map (·.2) = [assign (.Name x px) X.env, assign (.Name y py) X.env] := by rfl) (hes2 : (assignEach [.Name y py] X.env).map (·.2) = [assign (.Name y py) X.env] := by rfl)
 (hen : (assignEach [.Name x px, .Name y py] X.env).length = 2 := by rfl) (hst : (assignEach [.Name x px, .Name y py] X.env).findIdx? (·.1) = none := by rfl) : SD X F (.For (.Tuple [.Name x px, .Name y py] kt pt) iter body [] pos :: rest) ρ Q := by
 refine p5 (g := Ai X.K 2 (lI (eE k) (lI (eE l) AQ))) (fun d r => match d with | .tup [d1, d2] => (r.set k (some (.pl false d1))).set l (some (.pl false d2)) | _ => r) P hi h0
  (xw hc (iK (fj hN hx hxl hf) (iK (fj hN hy hyl hf') uA (by rw [hes2]; rfl)) (by rw [hes, hes2])) hen hst) (fun n d r hv hρ σ H H1 A v q e pr hl S s i h => ?_) (fun n d r e pr => ?_) hd hc hs hp
 . obtain ⟨d1, d2, rfl⟩ := hpair d (mem_of_getElem? e);obtain ⟨a, xs, rfl, t, j⟩ := aK i;obtain ⟨v1, r1, rfl, i1, j1⟩ := ag.mp j;obtain ⟨v2, r2, rfl, i2, j2⟩ := ag.mp j1;cases ay.mp j2;refine ⟨a, _, rfl, t, rfl, v1, _, rfl, v2, _, rfl, rfl, ?_⟩;exact h _ _ (kX (by simp [hl]) (um (fr := false) hl S (hlen n r pr).1 s i1) (by simpa using (hlen n r pr).2) (ao.refl _) (i2.carry oe))
 . obtain ⟨d1, d2, rfl⟩ := hpair d (mem_of_getElem? e);exact hb n d1 d2 r e pr
theorem B4 (i : Nat) {x : Str} {fp : Pos} {ks : List Key} {ds : List D} {dk d : D} {j : Nat} (hc : mD X.K C) (hn : cM X.K C f) (h : ρ[i]? = some (some (.gen (gB o C fs)))) (hf : fs.lookup f = some (.k ks ds)) (hk : E X m1 (view true false ρ) key dk) (hj : (Sh.k ks).key dk (some j)) (hd' : ds[j]? = some d) (ng : d.zd = true) (hu : X.A.units + 1 < cLine)
 (hN : X.N[i]? = some x := by rfl) (hv : kb X.env.scope x := by first | exact Or.inl rfl | exact Or.inr (Or.inl rfl) | exact Or.inr (Or.inr rfl)) (hd : NdX x := by decide) (hcd : NcX x := by decide)
 (hb0 : attributeBase (.Name x p) f X.env (eval (.Name x p) X.env) = eval (.Name x p) X.env := by rfl) (hs : z9 key := by intro _ _; rfl) : PE X (.Subscript (.Attribute (.Name x p) f fp) key sp) (FW X.K F ρ d) :=
 PE.mono (t5 hu (kz (bx hN hv hd hcd) hb0) hk hs) fun σ H Q ⟨A, ⟨hv, hρ, hl, S⟩, kq⟩ => by
  obtain ⟨b, dx, ps, e0, rfl, e1, e2, e3, e4⟩ := S.ob hl h;obtain ⟨a, h1, h2, _⟩ := iF hf;obtain ⟨xs, ha, jj⟩ := e4 _ h1;refine ⟨.ref b, e1, b, C, dx, _, .ref a, rfl, e3, hc, hn, h2, _, ar S true false, S.env hl true false, fun y H1 s1 i1 => ?_⟩;obtain ⟨kk, rfl, hidx⟩ := hj;obtain ⟨v2, w1, w2⟩ := (jj.same s1).get hd';have hval : dQ (ks.zip xs) kk = some v2 := by rw [fF ks xs kk ha.1, <- hidx]; exact w1
  refine ⟨a, v2, rfl, ?_, kq v2 H1 s1 (w2.iR ng)⟩;rw [lr (i1.plain (ar S true false)), <- hval];exact .k (s1.at ha.2)
theorem AH {p : Pos} (h : PE X a (FW X.K F ρ (.lst ds))) (hm : X.mg "enumerate" = none) (hg : Gl X "enumerate" := by rfl) (hs : starEach [a] X.env = [(false, eval a X.env)] := by rfl) : PI X (.Tuple es kt pt) (.Call (.Name "enumerate" p) [a] [] pos) (Di X.K F ρ (iC ds)) :=
 PI.mono (uc hg hm (aJ h bc (by rw [hs]; rfl)) hs) fun σ H R ⟨A, St, k⟩ => ⟨A, St, fun v H1 s1 i1 => by
  obtain ⟨l, xs, rfl, at', j⟩ := ah.mp i1;refine ⟨l, rfl, ⟨xs, at'.sq⟩, k _ H1 [.ref l] [.lst ds] s1 (aC.one i1) ⟨fun Z2 H2 o2 j2 i d e => ?_, fun Z2 H2 o2 j2 => ?_⟩⟩
  . obtain ⟨d', e', rfl⟩ := d4 e;obtain ⟨w, r, e1, j3, j4⟩ := ag.mp j2;cases e1;obtain ⟨a', ys, e2, l2, j5⟩ := ah.mp j3;cases e2;obtain ⟨v, e3, iv⟩ := j5.get e';refine ⟨⟨ys, v, l2.sq, e3⟩, fun x H3 ⟨q, y, hq, ex, hy, eH⟩ => ?_⟩;subst ex eH;have := hy ys l2.sq;rw [e3] at this;cases this;exact ⟨aB hq, bh.mpr ⟨q, _, rfl, ae, ag.mpr ⟨_, _, rfl, av.mpr rfl, aC.one (iv.same (aB hq))⟩⟩⟩
  . obtain ⟨w, r, e1, j3, j4⟩ := ag.mp j2;cases e1;obtain ⟨a', ys, e2, l2, j5⟩ := ah.mp j3;cases e2;exact ⟨ys, l2.sq, by rw [eW]; exact Nat.le_of_eq j5.length.symm⟩⟩
end
def BP (T : Tx) (R : dB) (zs : List ((Str × Nat) × List Str)) : dB := ("texts", jK T) :: ("origins", .l ((zs.map (·.1)).map xN)) :: ("together", .l ((zs.map (·.2)).map aE)) :: R
def gA (T : Tx) (n m : Nat) : List ((Str × Nat) × List Str) := ((mj T).take n).flatMap zR ++ (((mj T)[n]?.map zR).getD []).take m
theorem nq (T : Tx) (n : Nat) : gA T n 0 = ((mj T).take n).flatMap zR := by simp [gA]
theorem pI (q : Str × List GV) : (zR q).length = q.2.length := by simp [zR]
theorem vJ {T : Tx} {n : Nat} {q : Str × List GV} (h : (mj T)[n]? = some q) : gA T n q.2.length = gA T (n + 1) 0 := by
 unfold gA;rw [h, take_add_one, h];simp [List.take_of_length_le, pI]
theorem uZ {T : Tx} {n m : Nat} {q : Str × List GV} {row : GV} (h : (mj T)[n]? = some q) (hm : q.2[m]? = some row) : gA T n (m + 1) = gA T n m ++ [((q.1, m), row)] := by
 unfold gA;rw [h];have e : (zR q)[m]? = some ((q.1, m), row) := by
  unfold zR;rw [getElem?_map, List.getElem?_zipIdx, hm];simp
 simp only [Option.map_some, Option.getD_some];rw [take_add_one, e, List.append_assoc];rfl
theorem x4 {T : Tx} (n m : Nat) : (gA T n m).length <= (zT T).length := by
 unfold gA zT
 cases h : (mj T)[n]? with
 | none =>
  simp only [Option.map_none, Option.getD_none, List.take_nil, append_nil]
  conv => rhs; rw [<- take_append_drop n (mj T), List.flatMap_append, List.length_append]
  omega
 | some q =>
  simp only [Option.map_some, Option.getD_some];have hn : n < (mj T).length := (List.getElem?_eq_some_iff.mp h).1;have e : mj T = (mj T).take n ++ q :: (mj T).drop (n + 1) := by
   have := take_append_drop n (mj T);rw [List.drop_eq_getElem_cons hn] at this;have hq : (mj T)[n] = q := (List.getElem?_eq_some_iff.mp h).2;rw [hq] at this;exact this.symm
  conv => rhs; rw [e, List.flatMap_append, List.flatMap_cons, List.length_append, List.length_append]
  rw [List.length_append, length_take];omega
theorem y1 (T : Tx) : gA T (kG T).length 0 = zT T := by
 have : (kG T).length = (mj T).length := by simp [mj]
 rw [nq, this, take_length];rfl
theorem nZ : d5 [] = [] := by simp [d5, zT, mj, kG, zb, jb]
theorem uG : ud [] := ⟨List.nodup_nil, by decide, by rw [nZ]; decide, by rw [nZ]; decide⟩
def CA (sg : Str) (n : Int) : Nat := (cl sg).getD (n % (sg.length : Int)).toNat 0
def r9 (sg : Str) (one other k j : Int) : Int := if j = DH one other then part one (j + 2) (sg.length : Int) + k else part one (j + 2) (sg.length : Int)
def cH (sg : Str) (one other k : Int) (n : Nat) : Str := ⟨((List.range n).map fun j => CA sg (r9 sg one other k ((j : Nat) : Int))).toArray⟩
def bY (sg : Str) (one other : Int) : List Str := if 4 < bE one /\ other % 2 = 1 then (List.range 5).map fun k => Txt.slice (cH sg one other 0 (bE one).toNat) none (some (bE one - ((k : Nat) : Int))) else (List.range 5).map fun k => cH sg one other ((k : Nat) : Int) (bE one).toNat
def n6 (ds : List D) (d : D) : Prop := ∃ (one other : Int) (sg : Str), 0 < sg.length /\ sg.length <= 100 /\ ds = [.int one, .int other, .str sg] /\ d = aE (bY sg one other)
theorem cW (sg : Str) (one other k : Int) (n : Nat) : (cH sg one other k n).length = n := by show Array.size _ = n; simp [cH]
theorem sR (sg : Str) (one other k : Int) (n : Nat) : cH sg one other k (n + 1) = cH sg one other k n ++ ⟨#[CA sg (r9 sg one other k ((n : Nat) : Int))]⟩ := by
 apply sS;rw [bO];unfold cH;simp [cl, range_succ]
theorem C1 {sg : Str} (h : 0 < sg.length) (n : Int) : jB (cl sg) (n % (sg.length : Int)) = some (CA sg n) := by
 have h0 := Int.emod_nonneg n (show (sg.length : Int) ≠ 0 by omega);have h1 := Int.emod_lt_of_pos n (show (0 : Int) < (sg.length : Int) by omega);have e : n % (sg.length : Int) = (((n % (sg.length : Int)).toNat : Nat) : Int) := by omega
 rw [e];refine cB ?_;unfold CA;have hl : (n % (sg.length : Int)).toNat < (cl sg).length := by rw [bJ]; omega
 rw [List.getD_eq_getElem?_getD, List.getElem?_eq_getElem hl];rfl
theorem zQ {sg : Str} (h : 0 < sg.length) (n : Int) : CA sg n ∈ cl sg := by
 have h0 := Int.emod_nonneg n (show (sg.length : Int) ≠ 0 by omega);have h1 := Int.emod_lt_of_pos n (show (0 : Int) < (sg.length : Int) by omega);have hl : (n % (sg.length : Int)).toNat < (cl sg).length := by rw [bJ]; omega
 unfold CA;rw [List.getD_eq_getElem?_getD, List.getElem?_eq_getElem hl];exact getElem_mem hl
theorem lV (sg : Str) (one other : Int) : (bY sg one other).length = 5 := by
 unfold bY;split <;> simp
theorem vM {sg : Str} {one other : Int} {x : Str} (h : x ∈ bY sg one other) : x.length <= 14 := by
 have hs := rA one;have hp := i6 one;unfold bY at h;split at h
 . obtain ⟨k, _, rfl⟩ := mem_map.mp h;have := Txt.slice_le (cH sg one other 0 (bE one).toNat) none (some (bE one - ((k : Nat) : Int)));rw [cW] at this;omega
 . obtain ⟨k, _, rfl⟩ := mem_map.mp h;rw [cW]; omega
theorem yX (sg : Str) (one other k : Int) (n : Nat) : cl (cH sg one other k n) = (List.range n).map fun j => CA sg (r9 sg one other k ((j : Nat) : Int)) := by simp [cl, cH]
theorem nv (one other k : Int) {n : Nat} (h : 0 < n) : uy (cH kh one other k n) := by
 refine ⟨fun e => ?_, fun c hc => ?_⟩
 . have := cW kh one other k n;rw [e] at this;have h0 : (("" : Str)).length = 0 := rfl;omega
 . rw [yX] at hc;obtain ⟨j, _, rfl⟩ := mem_map.mp hc;unfold jG;exact decide_eq_true (zQ (by decide) _)
theorem rW {one other : Int} {x : Str} (h : x ∈ bY kh one other) : uy x := by
 have hp := i6 one;unfold bY at h;split at h
 . next hc =>
   obtain ⟨k, hk, rfl⟩ := mem_map.mp h;have hk : k < 5 := by simpa using hk
   have w := nv one other 0 (n := (bE one).toNat) (by omega);have e := qt (cH kh one other 0 (bE one).toNat) (j := bE one - ((k : Nat) : Int)) (by omega) (by rw [bJ, cW]; omega);refine ⟨fun z => ?_, fun c hc' => ?_⟩
   . rw [z] at e;have e2 := congrArg List.length e;rw [length_take, bJ, bJ, cW] at e2;have h0 : (("" : Str)).length = 0 := rfl;omega
   . rw [e] at hc';exact w.2 c (List.mem_of_mem_take hc')
 . obtain ⟨k, _, rfl⟩ := mem_map.mp h;exact nv one other _ (by omega)
def jt (cell : Int) (k : Nat) : Int := (cell % 65521 + 7) * ((k : Int) + 2) * 48271 % 65537
def gD (n : Int) : Int := [0, 0, 0, 1, 1, 2, 3, 4].getD (n % 8).toNat 0
def B9 (ws : GV) (cell : Int) (k : Nat) : Str := ws.getD (gD (jt cell k)).toNat ""
def bM (ws : GV) (cell : Int) (many : Nat) : Nat -> List GV × List Str
 | 0 => ([], [])
 | n + 1 => if jt cell n / 8 % 4 = 0 /\ n + 1 < many then ((bM ws cell many n).1 ++ [(bM ws cell many n).2 ++ [B9 ws cell n]], []) else ((bM ws cell many n).1, (bM ws cell many n).2 ++ [B9 ws cell n])
def dD (ws : GV) (cell : Int) (many : Nat) : List GV := if many = 0 then [] else (bM ws cell many many).1 ++ [(bM ws cell many many).2]
def yF (ds : List D) (d : D) : Prop := ∃ (ws : GV) (cell : Int) (many : Nat), ws.length = 5 /\ many <= 20 /\ ds = [aE ws, .int cell, .int (many : Nat)] /\ d = bu (dD ws cell many)
theorem qY (n : Int) : 0 <= gD n /\ gD n < 5 := by
 have h0 := Int.emod_nonneg n (show (8 : Int) ≠ 0 by decide);have h1 := Int.emod_lt_of_pos n (show (0 : Int) < 8 by decide);unfold gD;generalize n % 8 = m at *;have : m = 0 \/ m = 1 \/ m = 2 \/ m = 3 \/ m = 4 \/ m = 5 \/ m = 6 \/ m = 7 := by omega
 rcases this with rfl | rfl | rfl | rfl | rfl | rfl | rfl | rfl <;> decide
theorem yo (n : Int) : jB ([.int 0, .int 0, .int 0, .int 1, .int 1, .int 2, .int 3, .int 4] : List D) (n % 8) = some (.int (gD n)) := by
 have h0 := Int.emod_nonneg n (show (8 : Int) ≠ 0 by decide);have h1 := Int.emod_lt_of_pos n (show (0 : Int) < 8 by decide);unfold gD;generalize n % 8 = m at *;have : m = 0 \/ m = 1 \/ m = 2 \/ m = 3 \/ m = 4 \/ m = 5 \/ m = 6 \/ m = 7 := by omega
 rcases this with rfl | rfl | rfl | rfl | rfl | rfl | rfl | rfl <;> rfl
theorem zG {ws : GV} (h5 : ws.length = 5) (cell : Int) (k : Nat) : B9 ws cell k ∈ ws := by
 have := qY (jt cell k);unfold B9;have hl : (gD (jt cell k)).toNat < ws.length := by omega
 rw [List.getD_eq_getElem?_getD, List.getElem?_eq_getElem hl];exact getElem_mem hl
structure BB (ws : GV) (n : Nat) (p : List GV × List Str) : Prop where
 ne : ∀ r ∈ p.1, r ≠ []
 mem : ∀ r ∈ p.1 ++ [p.2], ∀ x ∈ r, x ∈ ws
 sum : eA p.1 + p.2.length = n
theorem md {ws : GV} (h5 : ws.length = 5) (cell : Int) (many : Nat) : ∀ n, BB ws n (bM ws cell many n)
 | 0 => ⟨fun r hr => (by cases hr), fun r hr x hx => (by rw [List.mem_singleton.mp (show r ∈ [[]] from hr)] at hx; cases hx), rfl⟩
 | n + 1 => by
  obtain ⟨h1, h2, h3⟩ := md h5 cell many n;have hw := zG h5 cell n;unfold bM;split
  . refine ⟨fun r hr => ?_, fun r hr x hx => ?_, ?_⟩
    . rcases mem_append.mp hr with hr | hr
      . exact h1 r hr
      . rw [List.mem_singleton.mp hr]; simp
    . rcases mem_append.mp hr with hr | hr
      . rcases mem_append.mp hr with hr | hr
        . exact h2 r (List.mem_append_left _ hr) x hx
        . rw [List.mem_singleton.mp hr] at hx;rcases mem_append.mp hx with hx | hx
          . exact h2 _ (mem_append_right _ (List.mem_singleton.mpr rfl)) x hx
          . rw [List.mem_singleton.mp hx]; exact hw
      . rw [List.mem_singleton.mp hr] at hx; cases hx
    . simp [eA] at h3 ⊢; omega
  . refine ⟨h1, fun r hr x hx => ?_, ?_⟩
    . rcases mem_append.mp hr with hr | hr
      . exact h2 r (List.mem_append_left _ hr) x hx
      . rw [List.mem_singleton.mp hr] at hx;rcases mem_append.mp hx with hx | hx
        . exact h2 _ (mem_append_right _ (List.mem_singleton.mpr rfl)) x hx
        . rw [List.mem_singleton.mp hx]; exact hw
    . simp only [List.length_append, List.length_singleton]; omega
theorem sv {ws : GV} (cell : Int) {many : Nat} (h : 0 < many) : (bM ws cell many many).2 ≠ [] := by
 cases many with
 | zero => omega
 | succ n =>
  unfold bM;rw [if_neg (by omega)];simp
theorem lX {ws : GV} (h5 : ws.length = 5) (cell : Int) (many : Nat) : (∀ r ∈ dD ws cell many, r ≠ [] /\ ∀ x ∈ r, x ∈ ws) /\ eA (dD ws cell many) = many := by
 unfold dD;split
 . next h => subst h; exact ⟨fun r hr => (by cases hr), rfl⟩
 . next h =>
   obtain ⟨h1, h2, h3⟩ := md h5 cell many many;refine ⟨fun r hr => ⟨?_, h2 r hr⟩, ?_⟩
   . rcases mem_append.mp hr with hr | hr
     . exact h1 r hr
     . rw [List.mem_singleton.mp hr]; exact sv cell (by omega)
   . simp [eA] at h3 ⊢; omega
theorem sX {ws : GV} (h5 : ws.length = 5) (hw : ∀ x ∈ ws, uy x) (cell : Int) (many : Nat) : cq (dD ws cell many) := fun r hr => ⟨((lX h5 cell many).1 r hr).1, fun x hx => hw x (((lX h5 cell many).1 r hr).2 x hx)⟩
def dU (c : Int) : Str := ([" ", ", ", "-", "  "] : GV).getD (c % 4).toNat ""
def jZ (c : Int) : Str := (["\n", "\n\n", "\n ; \n"] : GV).getD (c / 8 % 3).toNat ""
def Al (c : Int) : Str := (["", "\n", ".", " !\n\n"] : GV).getD (c / 24 % 4).toNat ""
def ei (c : Int) (r : GV) : Str := if c / 4 % 2 = 1 then Txt.upper (Txt.join (dU c) r) else Txt.join (dU c) r
def hV (rows : GI) (c : Int) : Str := Txt.join (jZ c) (rows.map (ei c)) ++ Al c
theorem xS {z : Str} (h : ∀ c ∈ cl z, c < 128) : cl (Txt.upper z) = (cl z).map up1 := by
 rw [upper_ascii h];show (z.cps.map up1).toList = _;rw [Array.toList_map]
theorem ve {rows : GI} (h : cq rows) {gap sep tl : Str} (u : Bool) (hp : Part (cl gap)) (hg : (cl gap).map up1 = cl gap) (hq : Quiet (cl sep)) (h10 : 10 ∈ cl sep) (ht : Quiet (cl tl)) (a1 : ∀ c ∈ cl gap, c < 128) (a2 : ∀ c ∈ cl sep, c < 128) (a3 : ∀ c ∈ cl tl, c < 128) :
 cj (Txt.join sep (rows.map fun r => if u then Txt.upper (Txt.join gap r) else Txt.join gap r) ++ tl) = rows /\ fH (Txt.join sep (rows.map fun r => if u then Txt.upper (Txt.join gap r) else Txt.join gap r) ++ tl) := by
 let g : Nat -> Nat := if u then up1 else id
 have wg : ∀ r ∈ rows, ∀ x ∈ r, Dc ((cl x).map g) /\ ((cl x).map g).map lo1 = cl x /\ ∀ c ∈ (cl x).map g, c < 128 := fun r hr x hx => by
  have w := (h r hr).2 x hx
  cases u with
  | true =>
   refine ⟨w.up.1, w.up.2, fun c hc => ?_⟩;obtain ⟨k, hk, rfl⟩ := mem_map.mp hc;exact (pb k (fN (w.2 k hk))).2.2
  | false =>
   have e : (cl x).map g = cl x := List.map_id _;rw [e];exact ⟨w.w, w.low, oH w⟩
 have line : ∀ r ∈ rows, cl (if u then Txt.upper (Txt.join gap r) else Txt.join gap r) = bF (cl gap) (r.map fun x => (cl x).map g) := fun r hr => by
  cases u with
  | true =>
   have asc : ∀ c ∈ cl (Txt.join gap r), c < 128 := by
    rw [gg];refine d9 a1 fun p hp => ?_;obtain ⟨x, hx, rfl⟩ := mem_map.mp hp;exact oH ((h r hr).2 x hx)
   show cl (Txt.upper (Txt.join gap r)) = _;rw [xS asc, gg, nM, hg, map_map];rfl
  | false =>
   show cl (Txt.join gap r) = _;rw [gg];congr 1;refine map_congr_left fun x _ => ?_;exact (List.map_id _).symm
 have ea : cl (Txt.join sep (rows.map fun r => if u then Txt.upper (Txt.join gap r) else Txt.join gap r) ++ tl) = bF (cl sep) ((rows.map fun r => r.map fun x => (cl x).map g).map (bF (cl gap))) ++ cl tl := by
  rw [bO, gg, map_map, map_map];congr 2;exact map_congr_left fun r hr => line r hr
 have asc : ∀ c ∈ cl (Txt.join sep (rows.map fun r => if u then Txt.upper (Txt.join gap r) else Txt.join gap r) ++ tl), c < 128 := by
  rw [ea];intro c hc;rcases mem_append.mp hc with hc | hc
  . refine d9 a2 (fun p hp => ?_) c hc;obtain ⟨r, hr, rfl⟩ := mem_map.mp hp;obtain ⟨r', hr', rfl⟩ := mem_map.mp hr;refine d9 a1 fun p hp => ?_;obtain ⟨x, hx, rfl⟩ := mem_map.mp hp;exact (wg r' hr' x hx).2.2
  . exact a3 c hc
 refine ⟨vO asc ?_, asc⟩;rw [ea, m8 hp hq h10 _ _ (fun r hr => ?_) ht, map_map]
 . refine map_congr_left fun r hr => ?_;simp only [Function.comp, map_map];refine map_congr_left fun x hx => ?_;exact (wg r hr x hx).2.1
 . obtain ⟨r', hr', rfl⟩ := mem_map.mp hr;refine ⟨fun e => (h r' hr').1 (by simpa using e), fun x hx => ?_⟩;obtain ⟨y, hy, rfl⟩ := mem_map.mp hx;exact (wg r' hr' y hy).1
theorem pT (c : Int) : Part (cl (dU c)) /\ (cl (dU c)).map up1 = cl (dU c) /\ (∀ k ∈ cl (dU c), k < 128) /\ (dU c).length <= 2 := by
 have h0 := Int.emod_nonneg c (show (4 : Int) ≠ 0 by decide);have h1 := Int.emod_lt_of_pos c (show (0 : Int) < 4 by decide);unfold dU;generalize c % 4 = m at *;have : m = 0 \/ m = 1 \/ m = 2 \/ m = 3 := by omega
 unfold Part;rcases this with rfl | rfl | rfl | rfl <;> decide +kernel
theorem tm (c : Int) : Quiet (cl (jZ c)) /\ 10 ∈ cl (jZ c) /\ (∀ k ∈ cl (jZ c), k < 128) /\ (jZ c).length <= 5 := by
 have h0 := Int.emod_nonneg (c / 8) (show (3 : Int) ≠ 0 by decide);have h1 := Int.emod_lt_of_pos (c / 8) (show (0 : Int) < 3 by decide);unfold jZ;generalize c / 8 % 3 = m at *;have : m = 0 \/ m = 1 \/ m = 2 := by omega
 unfold Quiet;rcases this with rfl | rfl | rfl <;> decide +kernel
theorem yy (c : Int) : Quiet (cl (Al c)) /\ (∀ k ∈ cl (Al c), k < 128) /\ (Al c).length <= 4 := by
 have h0 := Int.emod_nonneg (c / 24) (show (4 : Int) ≠ 0 by decide);have h1 := Int.emod_lt_of_pos (c / 24) (show (0 : Int) < 4 by decide);unfold Al;generalize c / 24 % 4 = m at *;have : m = 0 \/ m = 1 \/ m = 2 \/ m = 3 := by omega
 unfold Quiet;rcases this with rfl | rfl | rfl | rfl <;> decide +kernel
theorem w6 {rows : GI} (h : cq rows) (c : Int) : cj (hV rows c) = rows /\ fH (hV rows c) := by
 obtain ⟨g1, g2, g3, _⟩ := pT c;obtain ⟨s1, s2, s3, _⟩ := tm c;obtain ⟨t1, t2, _⟩ := yy c;have := ve h (decide (c / 4 % 2 = 1)) g1 g2 s1 s2 t1 g3 s3 t2;unfold hV;have e : ei c = fun r => if decide (c / 4 % 2 = 1) = true then Txt.upper (Txt.join (dU c) r) else Txt.join (dU c) r := by
  funext r;unfold ei;by_cases q : c / 4 % 2 = 1 <;> simp [q]
 rw [e];exact this
def y6 : Str := "abcXYZ012 .:-_~!"
def tO (ds : List D) (d : D) : Prop := ∃ one other : Int, ds = [.int one, .int other] /\ d = aE (bY kh one other)
def uo (ds : List D) (d : D) : Prop := ∃ one other : Int, ds = [.int one, .int other] /\ d = aE (bY y6 one other)
def yu (ds : List D) (d : D) : Prop := ∃ (rows : GI) (c : Int), cq rows /\ (∀ r ∈ rows, ∀ x ∈ r, x.length <= 14) /\ eA rows <= 20 /\ ds = [bu rows, .int c] /\ d = .str (hV rows c)
def kZ (ds : List D) (d : D) : Prop := ∃ T : Tx, ud T /\ ds = [(jK T).d] /\ d = .lst ((aN T).map dy)
def yT (ds : List D) (d : D) : Prop := ∃ (T : Tx) (b : Obj), ud T /\ ds = [.agg (.f b ((cS T).map (·.1))) ((cS T).map (·.2))] /\ d = .lst ((aN T).map dy)
def nE (ds : List D) (d : D) : Prop := ∃ (T : Tx) (n : Str), ud T /\ ds = [.lst ((aN T).map dy), .str n] /\ d = .lst ((eT T n).map D.int)
def lD (ds : List D) (d : D) : Prop := ∃ ns : List Int, ns.length <= 100 /\ ds = [.lst (ns.map D.int), .lst (ns.map D.int)] /\ d = .bl true
theorem lA (r : GV) (rows : GI) : eA (r :: rows) = r.length + eA rows := by simp [eA]
theorem tW {rows : GI} {r : GV} (h : r ∈ rows) : r.length <= eA rows := by
 induction rows with
 | nil => cases h
 | cons q rows ih =>
  rw [lA];rcases mem_cons.mp h with rfl | h
  . omega
  . have := ih h; omega
theorem lQ {r : GV} (h : ∀ x ∈ r, x.length <= 14) : (r.map (·.length)).sum <= r.length * 14 := by
 induction r with
 | nil => simp
 | cons x r ih =>
  have h1 := h x (by simp);have h2 := ih fun y hy => h y (by simp [hy]);simp only [map_cons, List.sum_cons, length_cons];omega
theorem hX {r : GV} (h : ∀ x ∈ r, x.length <= 14) (c : Int) : (Txt.join (dU c) r).length <= r.length * 16 := by
 have h1 := qb (dU c) r;have h2 := lQ h;have h3 := (pT c).2.2.2;have h4 : r.length * (dU c).length <= r.length * 2 := Nat.mul_le_mul_left _ h3;omega
theorem vV {r : GV} (h : ∀ x ∈ r, uy x) (c : Int) : fH (Txt.join (dU c) r) := by
 intro k hk;rw [gg] at hk;refine d9 (pT c).2.2.1 (fun p hp => ?_) k hk;obtain ⟨x, hx, rfl⟩ := mem_map.mp hp;exact oH (h x hx)
theorem y2 {r : GV} (hw : ∀ x ∈ r, uy x) (h : ∀ x ∈ r, x.length <= 14) (c : Int) : (ei c r).length <= r.length * 16 := by
 have h1 := hX h c;unfold ei;split
 . rw [vo (vV hw c)]; exact h1
 . exact h1
theorem mY {rows : GI} (g : cq rows) (h : ∀ r ∈ rows, ∀ x ∈ r, x.length <= 14) (c : Int) : ((rows.map (ei c)).map (·.length)).sum <= eA rows * 16 := by
 induction rows with
 | nil => simp
 | cons r rows ih =>
  have h1 := y2 (g r (by simp)).2 (h r (by simp)) c;have h2 := ih (fun q hq => g q (by simp [hq])) fun q hq => h q (by simp [hq]);rw [lA];simp only [map_cons, List.sum_cons];omega
theorem eM {rows : GI} (g : cq rows) : rows.length <= eA rows := gO fun r hr => List.length_pos_iff.mpr (g r hr).1
theorem nK {rows : GI} (g : cq rows) (h : ∀ r ∈ rows, ∀ x ∈ r, x.length <= 14) (c : Int) : (hV rows c).length <= eA rows * 21 + 4 := by
 have h1 := qb (jZ c) (rows.map (ei c));have h2 := mY g h c;have h3 := (tm c).2.2.2;have h4 := (yy c).2.2;have h5 := eM g;have h6 : (rows.map (ei c)).length * (jZ c).length <= eA rows * 5 := by rw [length_map]; exact Nat.mul_le_mul h5 h3
 unfold hV;rw [<- bJ, bO, List.length_append, bJ, bJ];omega
theorem BK (c : Int) : jB ([.str " ", .str ", ", .str "-", .str "  "] : List D) (c % 4) = some (.str (dU c)) := by
 have h0 := Int.emod_nonneg c (show (4 : Int) ≠ 0 by decide);have h1 := Int.emod_lt_of_pos c (show (0 : Int) < 4 by decide);unfold dU;generalize c % 4 = m at *;have : m = 0 \/ m = 1 \/ m = 2 \/ m = 3 := by omega
 rcases this with rfl | rfl | rfl | rfl <;> rfl
theorem CQ (c : Int) : jB ([.str "\n", .str "\n\n", .str "\n ; \n"] : List D) (c / 8 % 3) = some (.str (jZ c)) := by
 have h0 := Int.emod_nonneg (c / 8) (show (3 : Int) ≠ 0 by decide);have h1 := Int.emod_lt_of_pos (c / 8) (show (0 : Int) < 3 by decide);unfold jZ;generalize c / 8 % 3 = m at *;have : m = 0 \/ m = 1 \/ m = 2 := by omega
 rcases this with rfl | rfl | rfl <;> rfl
theorem Ep (c : Int) : jB ([.str "", .str "\n", .str ".", .str " !\n\n"] : List D) (c / 24 % 4) = some (.str (Al c)) := by
 have h0 := Int.emod_nonneg (c / 24) (show (4 : Int) ≠ 0 by decide);have h1 := Int.emod_lt_of_pos (c / 24) (show (0 : Int) < 4 by decide);unfold Al;generalize c / 24 % 4 = m at *;have : m = 0 \/ m = 1 \/ m = 2 \/ m = 3 := by omega
 rcases this with rfl | rfl | rfl | rfl <;> rfl
theorem bj.ld {K : Frag} {H H' : Hp} {Z Z' : ax} (l : ∀ a (xs : List V), H a = some (.lst xs) -> Z.S a -> H' a = some (.lst xs) /\ Z'.S a) (r : Z.m = false -> Z'.m = false /\ ∀ a xs, RO K H a xs -> RO K H' a xs) (t : ∀ a (xs : List V), H a = some (.tup xs) -> H' a = some (.tup xs)) : ∀ {ds : List D} {vs : List V}, (∀ d ∈ ds, d.ld = true /\ d.zd = true) -> bj K H Z ds vs -> bj K H' Z' ds vs
 | [], _, _, h => bt.mpr (bt.mp h)
 | d :: ds, vs, f, h => by
  obtain ⟨v, rr, e, i, j⟩ := aO.mp h;exact aO.mpr ⟨v, rr, e, (In.ld l r t (f d (by simp)).1 (i.iR (f d (by simp)).2)).top, bj.ld l r t (fun x hx => f x (by simp [hx])) j⟩
theorem ko : ∀ {ds : List D}, (∀ d ∈ ds, d.ld = true) -> ze ds = true
 | [], _ => by simp [ze]
 | d :: ds, h => by
  have h1 := h d (by simp);have h2 : ze ds = true := ko fun e he => h e (by simp [he]);simp [ze, h1, h2]
theorem Aq (r : GV) : (aE r).ld = true := by
 unfold aE D.ld;exact ko fun d hd => by obtain ⟨x, _, rfl⟩ := mem_map.mp hd; simp [D.ld]
theorem AE (r : GI) : (bu r).ld = true := by
 unfold bu D.ld;exact ko fun d hd => by obtain ⟨x, _, rfl⟩ := mem_map.mp hd; exact Aq x
theorem DK (t : u4) : (dy t).ld = true := by simp [dy, D.ld, ze]
theorem Fe {K : Frag} {G G' : List D -> D -> Prop} (h : ∀ ds d, G ds d -> ∃ ks rs, ds = [.agg (.k ks) rs] /\ (∀ d ∈ rs, d.ld = true /\ d.zd = true) /\ d.ld = true /\ ∀ b, G' [.agg (.f b ks) rs] d) (vs : List V) (H : Hp) (Q : VK) (E : XK) (hs : pF K true G vs H Q E) :
 ∃ d kvs, H d = some (.dK kvs) /\ ∀ o, pF K true G' vs (upd H d (.frz o (.dK kvs))) (fun v H' => Q v (upd H' d (.dK kvs))) E := by
 obtain ⟨Z, ds, dd, oz, i, g, kk⟩ := hs;obtain ⟨ks, rs, rfl, h1, h2, h3⟩ := h ds dd g;obtain ⟨v, r, rfl, iv, jr⟩ := aO.mp i;cases bt.mp jr;obtain ⟨a, xs, rfl, ⟨hl, ha⟩, za, ix⟩ := bH.mp iv;refine ⟨a, _, ha, fun o => ?_⟩;have ne : ∀ {b : Addr} {u : HO}, H b = some u -> (∀ kvs, u ≠ .dK kvs) -> b ≠ a := fun {b u} q n z => by rw [z, ha] at q; exact n _ (Option.some.inj q).symm
 have none_iff : ∀ {b : Addr}, upd H a (.frz o (.dK (ks.zip xs))) b = none -> H b = none /\ b ≠ a := fun {b} q => by
  by_cases z : b = a
  . rw [z, ae] at q; cases q
  . rw [aa z] at q; exact ⟨q, z⟩
 have RO1 : ∀ b zs, RO K H b zs -> RO K (upd H a (.frz o (.dK (ks.zip xs)))) b zs := fun b zs q => by
  rcases q with ⟨u, q⟩ | q
  . exact .inl ⟨u, by rw [aa (ne q (by intro _ z; cases z))]; exact q⟩
  . exact .inr q
 refine ⟨Z, [.agg (.f o ks) rs], dd, ⟨fun b q => oz.op b (none_iff q).1, oz.tb.upd (.inr ⟨.d (.k _), ha⟩)⟩, aO.mpr ⟨_, _, rfl, bH.mpr ⟨a, xs, rfl, ⟨hl, ae⟩, za, bj.ld (fun b zs q z => ⟨by rw [aa (ne q (by intro _ z; cases z))]; exact q, z⟩) (fun m => ⟨m, RO1⟩) (fun b zs q => by rw [aa (ne q (by intro _ z; cases z))]; exact q) h1 ix⟩, bt.mpr rfl⟩, h3 o, fun v H' sm iv' => ?_⟩;have ha' : H' a = some (.frz o (.dK (ks.zip xs))) := sm.at ae;have ne' : ∀ {b : Addr} {u : HO}, H' b = some u -> (u ≠ .frz o (.dK (ks.zip xs))) -> b ≠ a := fun {b u} q n z => by rw [z, ha'] at q; exact n (Option.some.inj q).symm
 refine kk v _ ⟨fun b u e n => ?_, fun b ps e => ?_, fun t => ?_⟩ ?_
 . by_cases z : b = a
   . subst z; rw [ha] at e; cases e; exact ae
   . rw [aa z]; exact sm.get b u (by rw [aa z]; exact e) n
 . have z : b ≠ a := ne e (by intro _ z; cases z);rw [aa z]; exact sm.tbl b ps (by rw [aa z]; exact e)
 . exact (sm.tabs (t.upd (.inr ⟨.d (.k _), ha⟩))).upd (.inr ⟨.d (.f o _), ha'⟩)
 . refine In.ld (Z := nw (upd H a (.frz o (.dK (ks.zip xs))))) (fun b zs q z => ?_) (fun m => AN m) (fun b zs q => ?_) h2 iv'
   . have zz := none_iff (show upd H a (.frz o (.dK (ks.zip xs))) b = none from z);exact ⟨by rw [aa zz.2]; exact q, zz.1⟩
   . rw [aa (ne' q (by intro z; cases z))]; exact q
def du (T : Tx) (n m a : Nat) : List u4 := (T.take n).flatMap (fun q => (zR q).flatMap my) ++ (((T[n]?.map zR).getD []).take m).flatMap my ++ (List.range a).map fun c => (((T[n]?.map (·.1)).getD ("" : Str)), m, c)
theorem v8 {T : Tx} {n m : Nat} {q : Str × List GV} {row : GV} (h : T[n]? = some q) (hm : q.2[m]? = some row) : du T n m row.length = du T n (m + 1) 0 := by
 unfold du;rw [h];have e : (zR q)[m]? = some ((q.1, m), row) := by
  unfold zR;rw [getElem?_map, List.getElem?_zipIdx, hm];simp
 simp only [Option.map_some, Option.getD_some, List.range_zero, map_nil, append_nil];rw [take_add_one, e, List.flatMap_append, <- List.append_assoc];simp [my]
theorem tD {T : Tx} {n : Nat} {q : Str × List GV} (h : T[n]? = some q) : du T n q.2.length 0 = du T (n + 1) 0 0 := by
 unfold du;rw [h, take_add_one, h];simp [List.take_of_length_le, pI]
theorem wo (T : Tx) : du T T.length 0 0 = p7 T := by
 unfold du p7;simp
theorem sD (T : Tx) (n m a : Nat) : du T n m (a + 1) = du T n m a ++ [(((T[n]?.map (·.1)).getD ("" : Str)), m, a)] := by
 unfold du;rw [range_succ, map_append, List.append_assoc, List.append_assoc, List.append_assoc];rfl
theorem oy {T : Tx} (nd : (T.map (·.1)).Nodup) : (p7 T).length = eA (d5 T) := by
 have h := congrArg List.length (qF nd);rw [zw, length_map, length_map] at h;unfold aN at h;rw [length_map, cZ] at h;exact h.symm
theorem wa {T : Tx} {n m a : Nat} {q : Str × List GV} {row : GV} (h : T[n]? = some q) (hm : q.2[m]? = some row) (ha : a <= row.length) : (du T n m a).length <= (p7 T).length := by
 have hn : n < T.length := (List.getElem?_eq_some_iff.mp h).1;have e : T = T.take n ++ q :: T.drop (n + 1) := by
  have := take_append_drop n T;rw [List.drop_eq_getElem_cons hn, (List.getElem?_eq_some_iff.mp h).2] at this;exact this.symm
 have e1 : (zR q)[m]? = some ((q.1, m), row) := by
  unfold zR;rw [getElem?_map, List.getElem?_zipIdx, hm];simp
 have hm' : m < (zR q).length := (List.getElem?_eq_some_iff.mp e1).1;have e2 : zR q = (zR q).take m ++ ((q.1, m), row) :: (zR q).drop (m + 1) := by
  have := take_append_drop m (zR q);rw [List.drop_eq_getElem_cons hm', (List.getElem?_eq_some_iff.mp e1).2] at this;exact this.symm
 have l1 : (p7 T).length = ((T.take n).flatMap (fun q => (zR q).flatMap my)).length + (((zR q).flatMap my).length + ((T.drop (n + 1)).flatMap (fun q => (zR q).flatMap my)).length) := by
  unfold p7
  conv => lhs; rw [e]
  rw [List.flatMap_append, List.flatMap_cons, List.length_append, List.length_append]
 have l2 : ((zR q).flatMap my).length = (((zR q).take m).flatMap my).length + (row.length + (((zR q).drop (m + 1)).flatMap my).length) := by
  conv => lhs; rw [e2]
  rw [List.flatMap_append, List.flatMap_cons, List.length_append, List.length_append];simp [my]
 unfold du;rw [h];simp only [Option.map_some, Option.getD_some, List.length_append, length_map, length_range];omega
theorem zL {T : Tx} (nd : (T.map (·.1)).Nodup) {t : u4} (h : t ∈ p7 T) : t.1 ∈ T.map (·.1) /\ t.2.1 < (mC T t.1).length := by
 obtain ⟨q, hq, h⟩ := List.mem_flatMap.mp h;obtain ⟨z, hz, h⟩ := List.mem_flatMap.mp h;obtain ⟨a, _, rfl⟩ := mem_map.mp h;obtain ⟨e1, e2⟩ := ue hz;have e3 := fq nd hq;refine ⟨?_, ?_⟩
 . rw [e1]; exact mem_map.mpr ⟨q, hq, rfl⟩
 . show z.1.2 < (mC T z.1.1).length;rw [e1, e3];exact (List.getElem?_eq_some_iff.mp e2).1
theorem fu {α β : Type} {f : α -> List β} : ∀ {l : List α} {a : α}, a ∈ l -> (f a).length <= (l.flatMap f).length
 | b :: l, a, h => by
  rw [List.flatMap_cons, List.length_append];rcases mem_cons.mp h with rfl | h
  . omega
  . have := fu (f := f) h; omega
theorem tJ {T : Tx} (nd : (T.map (·.1)).Nodup) {q : Str × List GV} (h : q ∈ T) : q.2.length <= (d5 T).length := by
 have h1 := fu (f := zR) ((iu nd).mem_iff.mpr h);rw [pI] at h1;simpa [d5, zT] using h1
theorem yZ {T : Tx} (nd : (T.map (·.1)).Nodup) {q : Str × List GV} {m : Nat} {row : GV} (h : q ∈ T) (hm : q.2[m]? = some row) : row.length <= eA (d5 T) := by
 rw [<- oy nd];have h1 := fu (f := fun q => (zR q).flatMap my) h;have e : ((q.1, m), row) ∈ zR q := by
  refine mem_map.mpr ⟨(row, m), ?_, rfl⟩;exact List.mem_zipIdx_iff_getElem?.mpr hm
 have h2 := fu (f := my) e;have h3 : (my ((q.1, m), row)).length = row.length := by simp [my]
 unfold p7;omega
theorem aC.reverse {K : Frag} {H : Hp} {Z : ax} : ∀ {ds : List D} {vs : List V}, aC K H Z ds vs -> aC K H Z ds.reverse vs.reverse
 | [], _, h => by rw [ay.mp h]; exact ay.mpr rfl
 | d :: ds, _, h => by
  obtain ⟨v, r, rfl, a, j⟩ := ag.mp h;rw [List.reverse_cons, List.reverse_cons];exact j.reverse.append (aC.one a)
def zW (F : Fn) (O W : Addr -> Prop) : ax := ⟨F.Z.m, fun a => (W a \/ F.H a = none) /\ ¬ O a⟩
theorem yM {K : Frag} {F : Fn} {H H' : Hp} {O O' W : Addr -> Prop} (hW : ∀ a, W a \/ F.H a = none -> F.Z.S a) (c : Carry K H (zn F O false) H' (zn F O' false)) : Carry K H (zW F O W) H' (zW F O' W) :=
 ⟨fun a m q z => by
  obtain ⟨q1, q2⟩ := c.l a m q ⟨hW a z.1, z.2⟩;exact ⟨q1, z.1, q2.2⟩, fun m => ⟨m, (c.r m).2⟩, c.t⟩
def CV (l : Addr) (W : Addr -> Prop) (ds : List D) : SP where
 p K F H O mine v := mine = [l] /\ v = .ref l /\ (∀ a, W a \/ F.H a = none -> F.Z.S a) /\ ∃ xs, H l = some (.lst xs) /\ aC K H (zW F O W) ds xs
 vw _ _ := none
 carry {K F H H' O O' mine v} h k c := by
  obtain ⟨rfl, e, hW, xs, hs, i⟩ := h;exact ⟨rfl, e, hW, xs, k l (.l xs) (by simp) hs, i.carry (yM hW (c false))⟩
 env {K F H O mine v ow fr' d'} op inS h e := by cases e
def wt (K : Frag) (F : Fn) (ρ : bX) (d : D) : TE := fun σ H Q => ∃ A, Bq K F ρ σ H A /\ ∀ v H1, ao H H1 -> In K H1 (zn F (az A) true) d v -> Q v H1
theorem Bq.same {K : Frag} {F : Fn} {ρ : bX} {σ : St} {H H' : Hp} {A : Nat -> List Addr} (s : ao H H') (z : Bq K F ρ σ H A) : Bq K F ρ σ H' A := by
 obtain ⟨hv, hρ, hl, S⟩ := z;exact ⟨hv, hρ, hl, S.grow s⟩
section
variable {X : Cx} {F : Fn} {ρ : bX} {e e1 e2 : Expr} {d d1 d2 : D} {m : Bool} {pos : Pos} {kt : Nat}
theorem xW (h : E X m (view false true ρ) e d) : PE X e (wt X.K F ρ d) := PE.mono h fun σ H Q ⟨A, ⟨hv, hρ, hl, S⟩, k⟩ => ⟨_, ar S false true, S.env hl false true, fun v H1 s1 i1 => k v H1 s1 (i1.plain (ar S false true))⟩
theorem Co (h : E X true (view true false ρ) e d) : PE X e (wt X.K F ρ d) := PE.mono h fun σ H Q ⟨A, ⟨hv, hρ, hl, S⟩, k⟩ => ⟨_, ar S true false, S.env hl true false, fun v H1 s1 i1 => k v H1 s1 (In.up (cN S true) (show In X.K H1 (nw H) d v from i1))⟩
theorem uk (h1 : PE X e1 (wt X.K F ρ d1)) (h2 : PE X e2 (wt X.K F ρ d2)) (hs : starEach [e1, e2] X.env = [(false, eval e1 X.env), (false, eval e2 X.env)] := by rfl) (hs2 : starEach [e2] X.env = [(false, eval e2 X.env)] := by rfl) : PE X (.Tuple [e1, e2] kt pos) (wt X.K F ρ (.tup [d1, d2])) :=
 PE.mono (wQ (aJ h1 (aJ h2 bc (by rw [hs2]; rfl)) (by rw [hs, hs2]))) fun σ H Q ⟨A, z, k⟩ => ⟨A, z, fun v H1 s1 i1 => ⟨A, z.same s1, fun u H2 s2 i2 => ⟨by show 2 <= sizeLine; decide, fun p hp => k _ _ ((s1.trans s2).trans (aB hp)) (bh.mpr ⟨p, [v, u], rfl, ae, ag.mpr ⟨_, _, rfl, (i1.same s2).same (aB hp), aC.one (i2.same (aB hp))⟩⟩)⟩⟩⟩
end
section
variable {X : Cx} {F : Fn} {ρ : bX} {Q : ft} {rest body : List Stmt} {e o c1 : Expr} {es : List Expr} {d : D} {ds ds' : List D} {pos p ap cp sp : Pos} {m1 m2 : Bool} {x : Str} {fs : dB} {C : Addr}
theorem BN (i : Nat) {x : Str} {ds : List D} (fr : Bool) (h : ρ[i]? = some (some (.ow fr ds)) := by rfl) (hr : SD X F rest (ρ.set i (some (.ow fr ds.reverse))) Q)
 (hN : X.N[i]? = some x := by rfl) (hv : kb X.env.scope x := by first | exact Or.inl rfl | exact Or.inr (Or.inl rfl) | exact Or.inr (Or.inr rfl)) (hd : NdX x := by decide) (hcd : NcX x := by decide)
 (hbase : attributeBase (.Name x p) "reverse" X.env (eval (.Name x p) X.env) = eval (.Name x p) X.env := by rfl) (hline : (ap.endLine == cp.line) = true := by rfl)
 (hsw : swapsWith (.Call (.Attribute (.Name x p) "reverse" ap) [] [] cp) none pos.line X.env = pure false := by rfl) :
 SD X F (.Expr (.Call (.Attribute (.Name x p) "reverse" ap) [] [] cp) pos :: rest) ρ Q := by
 refine aM (PS.mono (bU (og PySem.F.plainAttrs_list PySem.F.slot_list_reverse PySem.F.type_list_reverse rX (bx hN hv hd hcd) hbase hline) hsw) ?_) hr;rintro Q' σ H ⟨hv, hρ, A, hl, S, f⟩;obtain ⟨l, xs, e1, e2, e3, j⟩ := S.ow hl h;exact ⟨.ref l, e1, .inl ⟨rfl, xs, eP.of e3⟩, l, xs, rfl, rfl, e3, f.nx _ _ (rV hl S e1 e2 e3 j.reverse)⟩
theorem tp (ho : E X true (view true false ρ) o (.lst ds)) (he : E X m1 (view true false ρ) e d) (hz : ds.length < 1000) (hr : SD X F rest ρ Q)
 (hbase : attributeBase o "append" X.env (eval o X.env) = eval o X.env := by rfl) (hline : (ap.endLine == cp.line) = true := by rfl)
 (hs : starEach [e] X.env = [(false, eval e X.env)] := by rfl) (hsw : swapsWith (.Call (.Attribute o "append" ap) [e] [] cp) none pos.line X.env = pure false := by rfl) :
 SD X F (.Expr (.Call (.Attribute o "append" ap) [e] [] cp) pos :: rest) ρ Q := by
 refine aM (PS.mono (bU (fW PySem.F.plainAttrs_list PySem.F.slot_list_append PySem.F.type_list_append bP ho (aJ he bc (by rw [hs]; rfl)) hbase (by rw [hs]; rfl) hline (by rw [hs]; rfl) rfl) hsw) ?_) hr;rintro Q' σ H ⟨hv, hρ, A, hl, S, f⟩;refine ⟨_, ar S true false, S.env hl true false, fun v H1 s1 i1 => ?_⟩;obtain ⟨l, xs, rfl, at', j⟩ := ah.mp (show In X.K H1 (nw H) (.lst ds) v from i1);obtain ⟨g1, g2⟩ : H1 l = some (.lst xs) /\ H l = none := by
  rcases at' with z | z
  . exact z
  . exact AN z.1
 refine ⟨.inl ⟨rfl, xs, eP.of g1⟩, _, (ar S true false).same s1, (S.env hl true false).same s1, fun w H2 s2 i2 => ?_⟩;refine ⟨l, xs, w, rfl, rfl, s2.at g1, by rw [<- j.length]; exact aR (by omega), f.nx _ _ ⟨ρ, A, hl, S.grow ((s1.trans s2).write g2 (s2.at g1)), rfl⟩⟩
theorem uQ (i : Nat) {x : Str} {l : Addr} {W : Addr -> Prop} (h : ρ[i]? = some (some (.gen (CV l W ds)))) (he : PE X e (wt X.K F ρ d)) (hz : ds.length < 1000) (hr : SD X F rest (ρ.set i (some (.gen (CV l W (ds ++ [d]))))) Q)
 (hN : X.N[i]? = some x := by rfl) (hv : kb X.env.scope x := by first | exact Or.inl rfl | exact Or.inr (Or.inl rfl) | exact Or.inr (Or.inr rfl)) (hd : NdX x := by decide) (hcd : NcX x := by decide)
 (hbase : attributeBase (.Name x p) "append" X.env (eval (.Name x p) X.env) = eval (.Name x p) X.env := by rfl) (hline : (ap.endLine == cp.line) = true := by rfl)
 (hs : starEach [e] X.env = [(false, eval e X.env)] := by rfl) (hsw : swapsWith (.Call (.Attribute (.Name x p) "append" ap) [e] [] cp) none pos.line X.env = pure false := by rfl) :
 SD X F (.Expr (.Call (.Attribute (.Name x p) "append" ap) [e] [] cp) pos :: rest) ρ Q := by
 refine aM (PS.mono (bU (fW PySem.F.plainAttrs_list PySem.F.slot_list_append PySem.F.type_list_append bP (bx hN hv hd hcd) (aJ he bc (by rw [hs]; rfl)) hbase (by rw [hs]; rfl) hline (by rw [hs]; rfl) rfl) hsw) ?_) hr;rintro Q' σ H ⟨hv, hρ, A, hl, S, f⟩;have hi : i < ρ.length := (List.getElem?_eq_some_iff.mp h).1;obtain ⟨v, a, e2, rfl, hW, xs, e3, j⟩ := S.at' i _ (by rw [getElem?_append_left hi]; exact h);rw [getElem?_append_left (by omega)] at a;refine ⟨.ref l, a, .inl ⟨rfl, xs, eP.of e3⟩, A, ⟨hv, hρ, hl, S⟩, fun v H1 s1 i1 => ?_⟩;have i2 : In X.K H1 (zW F (az A) W) d v := In.carry (Z := zn F (az A) true) (Z' := zW F (az A) W) ⟨fun a m q z => ⟨q, .inr z.1, z.2⟩, fun m => Bool.noConfusion (show true = false from m), fun _ _ q => q⟩ i1;refine ⟨l, xs, v, rfl, rfl, s1.at e3, by rw [<- j.length]; exact aR (by omega), f.nx _ _ ⟨_, aL A i [l], by simp [hl], ?_, rfl⟩⟩;have S1 := S.grow s1;have own : l ∈ A i := by rw [e2]; simp
 have key := S1.re (i := i) (v := .ref l) (sl := .gen (CV l W (ds ++ [d]))) (l := [l]) (H2 := upd H1 l (.lst (xs ++ [v]))) (by rw [List.length_append]; omega) (by rw [List.length_append]; omega) (S1.same.write (S.new i l own) (s1.at e3)) (fun b u e _ hb => ?_) eL (fun a' ha => ?_) ⟨rfl, rfl, hW, _, ae, ?_⟩
 . rw [bG (by rw [getElem?_append_left (by omega)]; exact a), aH hi] at key;exact key
 . rw [e2] at hb;have : b ≠ l := by simpa using hb
   rw [aa this]; exact e
 . have : a' = l := by simpa using ha
   subst this;exact ⟨.inl own, .l _, ae⟩
 . rw [jv e2];exact ((j.same s1).append (aC.one i2)).carry (.write (Z := zW F (az A) W) (s1.at e3) fun z => z.2 ⟨i, own⟩)
end
def i4 (K : Frag) (H : Hp) (Z : ax) (l : Addr) : List (Option D) -> List V -> Prop
 | [], vs => vs = []
 | some d :: os, vs => ∃ v r, vs = v :: r /\ e9 K H Z d v /\ i4 K H Z l os r
 | none :: os, vs => ∃ r, vs = .ref l :: r /\ i4 K H Z l os r
theorem i4.length {K : Frag} {H : Hp} {Z : ax} {l : Addr} : ∀ {os : List (Option D)} {vs : List V}, i4 K H Z l os vs -> os.length = vs.length
 | [], _, h => by rw [show _ = [] from h]; rfl
 | some d :: os, _, h => by
  obtain ⟨v, r, rfl, _, j⟩ := h;rw [length_cons, length_cons, i4.length j]
 | none :: os, _, h => by
  obtain ⟨r, rfl, j⟩ := h;rw [length_cons, length_cons, i4.length j]
theorem i4.get {K : Frag} {H : Hp} {Z : ax} {l : Addr} : ∀ {os : List (Option D)} {vs : List V} {i : Nat} {o : Option D}, i4 K H Z l os vs -> os[i]? = some o -> ∃ v, vs[i]? = some v /\ match o with | some d => e9 K H Z d v | none => v = .ref l
 | [], _, _, _, _, h => by simp at h
 | some d :: os, _, 0, _, h, e => by
  obtain ⟨v, r, rfl, a, _⟩ := h;cases e;exact ⟨v, rfl, a⟩
 | none :: os, _, 0, _, h, e => by
  obtain ⟨r, rfl, _⟩ := h;cases e;exact ⟨_, rfl, rfl⟩
 | some d :: os, _, i + 1, _, h, e => by
  obtain ⟨v, r, rfl, _, j⟩ := h;simpa using i4.get (i := i) j (by simpa using e)
 | none :: os, _, i + 1, _, h, e => by
  obtain ⟨r, rfl, j⟩ := h;simpa using i4.get (i := i) j (by simpa using e)
def Ei (K : Frag) (G : List (Option D) -> List D -> List D -> Prop) : Sp := fun vs H Q _ => ∃ (Z : ax) (W : Addr -> Prop) (l : Addr) (hs : List V) (os : List (Option D)) (ds ds' : List D), Z.Open H /\ ¬ Z.S l /\ (∀ a, W a -> Z.S a) /\ i4 K H Z l os vs /\ H l = some (.lst hs) /\ aC K H ⟨Z.m, W⟩ ds hs /\ G os ds ds' /\
 ∀ H' xs, ao (mw H [l]) H' -> H' l = some (.lst xs) -> aC K H' ⟨Z.m, fun a => W a \/ H a = none⟩ ds' xs -> Q (.bl true) H'
def Bb (l : Addr) (W : Addr -> Prop) (ds : List D) : Option D -> Slot
 | some d => er d
 | none => .gen (CV l W ds)
def pY (N : GV) (os : List (Option D)) (l : Addr) (W : Addr -> Prop) (ds : List D) : bX := os.map (fun o => some (Bb l W ds o)) ++ List.replicate (N.length - os.length) none
theorem vA {K : Frag} {Z : ax} {W : Addr -> Prop} {H : Hp} {N : GV} {os : List (Option D)} {vs hs : List V} {l : Addr} {ds : List D} {i0 : Nat} (oz : Z.Open H) (nl : ¬ Z.S l) (hW : ∀ a, W a -> Z.S a) (h : i4 K H Z l os vs) (hl : H l = some (.lst hs)) (j : aC K H ⟨Z.m, W⟩ ds hs) (h0 : ∀ j, os[j]? = some none -> j = i0) (h1 : os[i0]? = some none) :
 aW K ⟨true, ⟨Z.m, fun a => Z.S a \/ a = l⟩, mw H [l]⟩ H (L2.start N vs ++ []) (pY N os l W ds ++ []) (aL (fun _ => []) i0 [l]) := by
 have own : ∀ {i : Nat} {a : Addr}, a ∈ aL (fun _ => []) i0 [l] i -> i = i0 /\ a = l := fun {i a} ha => by
  by_cases q : i = i0
  . rw [q, aF] at ha; exact ⟨q, by simpa using ha⟩
  . rw [aS q] at ha; cases ha
 have cz : Carry K H Z H (zn ⟨true, ⟨Z.m, fun a => Z.S a \/ a = l⟩, mw H [l]⟩ (az (aL (fun _ => []) i0 [l])) false) := ⟨fun a m q z => ⟨q, .inl z, fun ⟨j, hj⟩ => nl ((own hj).2 ▸ z)⟩, fun m => ⟨m, fun _ _ q => q⟩, fun _ _ q => q⟩
 refine ⟨tR, ⟨fun a q => ?_, wU (m := .l hs) hl oz.tb⟩, fun i => ?_, fun i j a ha hb => (own ha).1.trans (own hb).1.symm, fun i a ha => yg (by rw [(own ha).2]; simp), fun i a ha => ⟨.l hs, by rw [(own ha).2]; exact hl⟩, fun i sl e => ?_⟩
 . rcases gy q with z | z
   . exact .inr (by simpa using z)
   . exact .inl (oz.op a z)
 . by_cases q : i = i0
   . rw [q, aF]; simp
   . rw [aS q]; exact List.nodup_nil
 . rw [append_nil] at e ⊢;unfold pY at e;unfold L2.start;by_cases hi : i < os.length
   . rw [getElem?_append_left (by simpa using hi), getElem?_map] at e;have hd : os[i]? = some os[i] := by simp [hi]
     rw [hd] at e;have e' : some (Bb l W ds os[i]) = some sl := by simpa using e
     cases e';obtain ⟨v, a, b⟩ := h.get hd;have hv : i < vs.length := (List.getElem?_eq_some_iff.mp a).1;refine ⟨v, by rw [getElem?_append_left (by simpa using hv), getElem?_map, a]; rfl, ?_⟩
     cases ho : os[i] with
     | none =>
      rw [ho] at b hd;have : i = i0 := h0 i hd;subst this;refine ⟨aF, b, fun a z => ?_, hs, hl, aC.carry (Z := ⟨Z.m, W⟩) (Z' := zW ⟨true, ⟨Z.m, fun a => Z.S a \/ a = l⟩, mw H [l]⟩ (az (aL (fun _ => []) i [l])) W) ⟨fun a m q z => ⟨q, .inl z, fun ⟨j, hj⟩ => nl ((own hj).2 ▸ hW a z)⟩, fun m => ⟨m, fun _ _ q => q⟩, fun _ _ q => q⟩ j⟩;rcases z with z | z
      . exact .inl (hW a z)
      . rcases gy z with z | z
        . exact .inr (by simpa using z)
        . exact .inl (oz.op a z)
     | some d =>
      rw [ho] at b;show et _ _ _ _ _ _ (er d);unfold er;by_cases n : d.zd = true
      . rw [if_pos n]; exact In.carry cz (e9.iR b n)
      . rw [if_neg n]; exact e9.carry cz b
   . rw [getElem?_append_right (by simpa using hi), List.getElem?_replicate] at e;split at e <;> cases e
def DC (i0 : Nat) (l : Addr) (W : Addr -> Prop) (ds' : List D) : ft where
 nx _ := False
 rt _ := False
 rtS r _ _ v := v = .bl true /\ r[i0]? = some (some (.gen (CV l W ds')))
section
variable {P : Program} {w : World} {K : Frag} {mg : GN} {base : Heap}
theorem GB {x qual : Str} {st : Stmt} {f : Addr} {fd : FuncData} {N ps : GV} {k : Nat} (i0 : Nat) {G : List (Option D) -> List D -> List D -> Prop} (Fx : fo K x qual st f fd) (S : aD N ps (af st)) (hlen : ∀ os ds ds', G os ds ds' -> os.length = ps.length /\ os[i0]? = some none /\ ∀ j, os[j]? = some none -> j = i0)
 (body : ∀ (cdv : Value) (A : Around) (outer : List Env) (s : Shared) (H : Hp) (E : XK) (F : Fn) (l : Addr) (W : Addr -> Prop) (os : List (Option D)) (ds ds' : List D), bo k (A.deeper (envOfC qual (af st) s.heap.objs.size f cdv)) -> G os ds ds' ->
  SD (h9 fS P w K mg base N qual (af st) f cdv A outer s H E).uj F (aY st) (pY N os l W ds) (DC i0 l W ds')) : bR P w K mg base fS (k + 1) f fd ps (Ei K G) := by
 refine Fx.ok S (fun vs H Q E ⟨Z, W, l, hs, os, ds, ds', oz, nl, hW, i, hl, j, g, kk⟩ => ?_) (fun cdv A outer s H vs Q E hr ⟨Z, W, l, hs, os, ds, ds', oz, nl, hW, i, hl, j, g, kk⟩ => ?_)
 . rw [<- i.length]; exact (hlen os ds ds' g).1
 . obtain ⟨h1, h2, h3⟩ := hlen os ds ds' g;have hil := i.length;refine ⟨_, body cdv A outer s H E _ l W os ds ds' hr g, [], [], _, ?_, vA oz nl hW i hl j h3 h2, ⟨rfl, fun σ H' ⟨_, _, _, _, e⟩ => e.elim, fun σ H' ⟨_, _, _, _, e⟩ => e.elim, fun σ H' ⟨_, _, _, _, e⟩ => e.elim, fun _ _ _ _ _ e => e.elim, fun _ _ _ _ _ _ _ _ e => e.elim, fun _ _ _ _ _ _ _ _ _ _ _ _ _ e => e.elim, fun σ H' r A' v hl' S' ⟨e, hr'⟩ => ?_⟩⟩
   . simp [L2.start, pY]; omega
   . subst e;have hi : i0 < r.length := (List.getElem?_eq_some_iff.mp hr').1;obtain ⟨v, a, e2, rfl, _, xs, e3, jj⟩ := S'.at' i0 _ (by rw [getElem?_append_left hi]; exact hr');have cw : Carry K H' (zW ⟨true, ⟨Z.m, fun a => Z.S a \/ a = l⟩, mw H [l]⟩ (az A') W) H' ⟨Z.m, fun a => W a \/ H a = none⟩ := ⟨fun a m q z => ⟨q, z.1.imp id fun y => ?_⟩, fun m => ⟨m, fun _ _ q => q⟩, fun _ _ q => q⟩
     . exact kk H' xs S'.same e3 (aC.carry cw jj)
     . rcases gy y with y | y
       . exact absurd ⟨i0, by rw [e2]; exact y⟩ z.2
       . exact y
end
section
variable {X : Cx} {F : Fn} {ρ : bX} {Q : ft} {rest body : List Stmt} {e o c1 : Expr} {es : List Expr} {d : D} {ds ds' : List D} {pos p ap cp sp np np2 : Pos} {m1 m2 : Bool} {x : Str} {fs : dB} {C : Addr} {os : List (Option D)} {I : GX} {h i : Nat}
theorem zU {i0 : Nat} {l : Addr} {W : Addr -> Prop} (hh : ρ[i0]? = some (some (.gen (CV l W ds')))) (he : E X m1 (view true false ρ) e (.bl true)) : SD X F (.Return (some e) pos :: rest) ρ (DC i0 l W ds') :=
 fV (N := fun _ => False) (PS.mono (pO he) fun Q' σ H z0 => d8 z0 fun hv hρ A hl S f => ⟨_, ar S true false, S.env hl true false, fun v H1 s1 i1 => f.rtS σ H1 ρ A v hl (S.grow s1) ⟨bp.mp (i1.plain (ar S true false)), hh⟩⟩) fun _ n => n.elim
def zI (F : Fn) (A : Nat -> List Addr) (I : GX) : ax := ⟨F.Z.m, fun a => (F.Z.S a /\ ¬ az A a) \/ ∃ i ∈ I, a ∈ A i⟩
def Gw (K : Frag) (F : Fn) (ρ : bX) (I : GX) (h : Nat) (os : List (Option D)) : TA := fun σ H Q => ∃ A l, Bq K F ρ σ H A /\ A h = [l] /\ ∀ vs H1, ao H H1 -> i4 K H1 (zI F A I) l os vs -> Q vs H1
def AO (X : Cx) (F : Fn) (ρ : bX) (I : GX) (h : Nat) (es : List Expr) (os : List (Option D)) : Prop := PA X es (Gw X.K F ρ I h os)
theorem lj {K : Frag} {H : Hp} {A : Nat -> List Addr} : Carry K H (zn F (az A) false) H (zI F A I) := ⟨fun a m q z => ⟨q, .inl z⟩, fun m => ⟨m, fun _ _ q => q⟩, fun _ _ q => q⟩
theorem Cr : AO X F ρ I h [] [] := PA.mono bc fun σ H Q ⟨A, l, z, e, k⟩ => k [] H (ao.refl H) rfl
theorem pN {te : TE} (ht : PE X e te) (hz : ∀ σ H A Q, Bq X.K F ρ σ H A -> (∀ v H1, ao H H1 -> e9 X.K H1 (zI F A I) d v -> Q v H1) -> te σ H Q) (hr : AO X F ρ I h es os) (hs : starEach (e :: es) X.env = (false, eval e X.env) :: starEach es X.env := by rfl) : AO X F ρ I h (e :: es) (some d :: os) :=
 PA.mono (aJ ht hr hs) fun σ H Q ⟨A, l, z, e, k⟩ => hz σ H A _ z fun v H1 s1 i1 => ⟨A, l, z.same s1, e, fun vs H2 s2 j => k (v :: vs) H2 (s1.trans s2) ⟨v, vs, rfl, i1.same s2, j⟩⟩
theorem Et (he : E X m1 (view false false ρ) e d) (hr : AO X F ρ I h es os) (hs : starEach (e :: es) X.env = (false, eval e X.env) :: starEach es X.env := by rfl) : AO X F ρ I h (e :: es) (some d :: os) :=
 pN he (fun σ H A Q ⟨hv, hρ, hl, S⟩ k => ⟨_, ar S false false, S.env hl false false, fun v H1 s1 i1 => k v H1 s1 (e9.carry lj (i1.plain (ar S false false)).top)⟩) hr hs
theorem DD (i : Nat) {o : GQ} (hi : i ∈ I) (h1 : ρ[i]? = some (some (.gen (gB o C fs)))) (hr : AO X F ρ I h es os) (hN : X.N[i]? = some x := by rfl) (hv : kb X.env.scope x := by first | exact Or.inl rfl | exact Or.inr (Or.inl rfl) | exact Or.inr (Or.inr rfl))
 (hd : NdX x := by decide) (hcd : NcX x := by decide) (hs : starEach (.Name x p :: es) X.env = (false, eval (.Name x p) X.env) :: starEach es X.env := by rfl) : AO X F ρ I h (.Name x p :: es) (some (gN C fs) :: os) :=
 pN (bx hN hv hd hcd) (fun σ H A Q ⟨hv, hρ, hl, S⟩ k => by
  obtain ⟨b, dx, ps, e0, rfl, e1, e2, e3, e4⟩ := S.ob hl h1;have own : ∀ a ∈ b :: bD ps, (zI F A I).S a := fun a ha => .inr ⟨i, hi, by rw [e2]; exact ha⟩;refine ⟨.ref b, e1, k (.ref b) H (ao.refl H) (bH.mpr ⟨b, (bD ps).map V.ref, rfl, ⟨by simp [iQ, bD], dx, by rw [<- uH]; exact e3⟩, own b (by simp), i9 lj fun r hr => ⟨e4 r hr, own _ (mem_cons_of_mem _ (mem_map.mpr ⟨r, hr, rfl⟩))⟩⟩)⟩) hr hs
theorem DV (i : Nat) {s : Sh} (hi : i ∈ I) (h1 : ρ[i]? = some (some (.gen (x8 false s ds)))) (hr : AO X F ρ I h es os) (hN : X.N[i]? = some x := by rfl) (hv : kb X.env.scope x := by first | exact Or.inl rfl | exact Or.inr (Or.inl rfl) | exact Or.inr (Or.inr rfl))
 (hd : NdX x := by decide) (hcd : NcX x := by decide) (hs : starEach (.Name x p :: es) X.env = (false, eval (.Name x p) X.env) :: starEach es X.env := by rfl) : AO X F ρ I h (.Name x p :: es) (some (.agg s ds) :: os) :=
 pN (bx hN hv hd hcd) (fun σ H A Q ⟨hv, hρ, hl, S⟩ k => by
  obtain ⟨l, xs, e1, e2, e3, e4⟩ := S.oa hl h1;exact ⟨.ref l, e1, k (.ref l) H (ao.refl H) (bH.mpr ⟨l, xs, rfl, e3, .inr ⟨i, hi, by rw [e2]; simp⟩, e4.carry lj⟩)⟩) hr hs
theorem C9 {ds : List D} (h1 : ρ[h]? = some (some (.ow false ds))) (hr : AO X F ρ I h es os) (hN : X.N[h]? = some x := by rfl) (hv : kb X.env.scope x := by first | exact Or.inl rfl | exact Or.inr (Or.inl rfl) | exact Or.inr (Or.inr rfl))
 (hd : NdX x := by decide) (hcd : NcX x := by decide) (hs : starEach (.Name x p :: es) X.env = (false, eval (.Name x p) X.env) :: starEach es X.env := by rfl) : AO X F ρ I h (.Name x p :: es) (none :: os) :=
 PA.mono (aJ (bx hN hv hd hcd) hr hs) fun σ H Q ⟨A, l, ⟨hv, hρ, hl, S⟩, e, k⟩ => by
  obtain ⟨l', xs, e1, e2, e3, e4⟩ := S.ow hl h1;rw [e] at e2;cases e2;exact ⟨.ref l, e1, A, l, ⟨hv, hρ, hl, S⟩, e, fun vs H1 s1 j => k (.ref l :: vs) H1 s1 ⟨vs, rfl, j⟩⟩
theorem BJ {f : Addr} {fd : FuncData} {ps : GV} {fn : Str} {k : Nat} {G : List (Option D) -> List D -> List D -> Prop} {rb : List Stmt} (h : Nat) (I : GX) (hI : h ∉ I) (Fk : bR X.prog X.w X.K X.mg X.base fS k f fd ps (Ei X.K G)) (hb : Binds X.K fd ps []) (hk : keepIn X.K (.ref f) = true) (hmg : X.mg fn = some (.ref f)) (hr0 : bo k X.A)
 (hc : T X (view true false ρ) c1 true) (h1 : ρ[h]? = some (some (.ow false ds))) (ha : AO X F ρ I h (e :: es) os) (g : G os ds ds') (hr : SD X F rest (ρ.set h (some (.ow false ds'))) Q)
 (hg : Gl X fn := by rfl) (hdb : NdX fn := by decide) (hst : starEach (e :: es) X.env = (false, eval e X.env) :: starEach es X.env := by rfl) (hpl : (backTo cp (starEach es X.env)).any (·.1) = false := by rfl)
 (he : ∀ whole, isTrue (.Call (.Name fn p) (e :: es) [] cp) X.env whole = (do let v <- whole; standAt (Expr.Call (.Name fn p) (e :: es) [] cp).pos; holding [v] (truthy v)) := by intro _; rfl) :
 SD X F (.If (.BoolOp .Or [.UnaryOp .Not c1 np, .UnaryOp .Not (.Call (.Name fn p) (e :: es) [] cp) np2] sp) rb [] pos :: rest) ρ Q := by
 refine aM (PS.mono (lZ (PW.pt (yL (rR hc) (yC (rR (yi (oO Fk hr0 hg hmg hk hb .nil jF ha hdb hst hpl) he))))) (cY (sts := rb)) uF) ?_) hr;rintro Q' σ H ⟨hv, hρ, A, hl, S, ff⟩;obtain ⟨l, xs, e1, e2, e3, e4⟩ := S.ow hl h1;have hj : h < σ.length := (List.getElem?_eq_some_iff.mp e1).1;refine ⟨_, ar S true false, S.env hl true false, fun H1 s1 => ?_⟩;refine mG ?_;have S1 := S.grow s1;refine ⟨A, l, ⟨hv, hρ, hl, S1⟩, e2, fun vs H2 s2 j => ?_⟩;show Ei X.K G (vs ++ []) H2 _ _;rw [append_nil];have s12 := s1.trans s2;have S2 := S.grow s12;have nz : ¬ (zI F A I).S l := fun z => by
  rcases z with z | ⟨i, hi, z⟩
  . exact z.2 ⟨h, by rw [e2]; simp⟩
  . exact hI (S.one h i l (by rw [e2]; simp) z ▸ hi)
 have oz : (zI F A I).Open H2 := ⟨fun a q => .inl ((cN S2 false).op a q), S2.same.tabs S2.opn.tb⟩
 refine ⟨zI F A I, fun a => F.Z.S a /\ ¬ az A a, l, xs, os, ds, ds', oz, nz, fun a z => .inl z, j, s12.at e3, e4.same s12, g, fun H' ys sm hl' jy => ?_⟩;refine ⟨true, rfl, ?_⟩;refine mG ?_;refine ff.nx _ _ ⟨_, aL A h [l], by simp [hl], ?_, rfl⟩;have hm : ∀ a ∈ [l], ∃ m : MO, H2 a = some m.ho := fun a ha => ⟨.l xs, by rw [List.mem_singleton.mp ha]; exact s12.at e3⟩
 have key := S.re (i := h) (v := .ref l) (sl := .ow false ds') (l := [l]) (H2 := H') (by rw [List.length_append]; omega) (by rw [List.length_append]; omega) ((jq (S.same.trans s12) (fun a ha => S.new h a (by rw [e2]; exact ha)) hm).trans sm) (fun b u e n hb => sm.get b u (by rw [eI (by rw [e2] at hb; exact hb)]; exact s12.get b u e n) n) eL (fun a ha => ?_) ⟨l, ys, rfl, rfl, hl', ?_⟩
 . rw [bG (by rw [getElem?_append_left hj]; exact e1), aH (by omega)] at key;exact key
 . rw [List.mem_singleton.mp ha];exact ⟨.inl (by rw [e2]; simp), .l ys, hl'⟩
 . rw [jv e2];exact aC.carry (Z := ⟨(zI F A I).m, fun a => (F.Z.S a /\ ¬ az A a) \/ H2 a = none⟩) (Z' := zn F (az A) false) ⟨fun a m q z => ⟨q, z.elim id fun y => (cN S2 false).op a y⟩, fun m => ⟨m, fun _ _ q => q⟩, fun _ _ q => q⟩ jy
end
section
variable {X : Cx} {F : Fn} {ρ : bX} {Q : ft} {rest body orelse : List Stmt} {c : Expr} {pos : Pos} {ds : List D}
theorem B2 (N : bX -> Prop) {b : Bool} (hc : T X (view true false ρ) c b) (h1 : b = true -> SD X F body ρ { Q with nx := N }) (h2 : b = false -> SD X F orelse ρ { Q with nx := N }) (h3 : ∀ r, N r -> SD X F rest r Q) : SD X F (.If c body orelse pos :: rest) ρ Q := by
 refine fV (N := N) ?_ h3
 cases b with
 | true =>
  exact PS.mono (lZ hc (h1 rfl) (cY (sts := orelse))) fun Q' σ H z0 => d8 z0 fun hv hρ A hl S f => ⟨_, ar S true false, S.env hl true false, fun H1 s1 => by
   refine qT ?_; exact ⟨hv, hρ, A, hl, S.grow s1, f⟩⟩
 | false =>
  exact PS.mono (lZ hc (cY (sts := body)) (h2 rfl)) fun Q' σ H z0 => d8 z0 fun hv hρ A hl S f => ⟨_, ar S true false, S.env hl true false, fun H1 s1 => by
   refine mG ?_; exact ⟨hv, hρ, A, hl, S.grow s1, f⟩⟩
theorem Ck (i : Nat) {st : List Stmt} (h : ρ[i]? = some (some (.ow true ds)) := by rfl) (hr : SD X F st (ρ.set i (some (.ow false ds))) Q) : SD X F st ρ Q := lJ.mono hr fun Q' σ H z0 => d8 z0 fun hv hρ A hl S f => by
 have hi : i < ρ.length := (List.getElem?_eq_some_iff.mp h).1;refine ⟨hv, hρ, A, by simp [hl], ⟨S.same, S.opn, S.nd, S.one, S.new, S.lst, fun j sl e => ?_⟩, f⟩;by_cases hj : j = i
 . subst hj;rw [getElem?_append_left (by simpa using hi), List.getElem?_set_self hi] at e;cases e;obtain ⟨v, a, l, xs, b1, b2, b3, b4⟩ := S.at' j (.ow true ds) (by rw [getElem?_append_left hi]; exact h);exact ⟨v, a, l, xs, b1, b2, b3, aC.carry (Z := zn F (az A) true) (Z' := zn F (az A) false) ⟨fun a m q z => ⟨q, S.opn.op a z.1, z.2⟩, fun m => Bool.noConfusion (show true = false from m), fun _ _ q => q⟩ b4⟩
 . refine S.at' j sl ?_;rw [<- e, <- aH hi, List.getElem?_set_ne (Ne.symm hj)]
end
theorem xg {α : Type} [DecidableEq α] : ∀ {l m : List α}, l.Nodup -> (∀ x ∈ l, x ∈ m) -> l.length <= m.length
 | [], _, _, _ => Nat.zero_le _
 | a :: l, m, nd, h => by
  obtain ⟨n1, n2⟩ := nodup_cons.mp nd;have ha := h a (by simp);have h1 := xg (l := l) (m := m.erase a) n2 fun x hx => (List.mem_erase_of_ne fun (z : x = a) => n1 (z ▸ hx)).mpr (h x (by simp [hx]));rw [List.length_erase_of_mem ha] at h1;have : 0 < m.length := List.length_pos_of_mem ha;rw [length_cons];omega
theorem C2 (q : Str × List GV) : ((zR q).flatMap my).length = eA q.2 := by
 have key : ∀ (rows : GI) (k : Nat), (((rows.zipIdx k).map fun z => ((q.1, z.2), z.1)).flatMap my).length = eA rows := by
  intro rows
  induction rows with
  | nil => intro k; rfl
  | cons r rows ih =>
   intro k;rw [List.zipIdx_cons, map_cons, List.flatMap_cons, List.length_append, ih, lA];simp [my]
 exact key q.2 0
structure GT (nm : GV) (T : Tx) : Prop where
 nd : (T.map (·.1)).Nodup
 sub : ∀ q ∈ T, q.1 ∈ nm
 good : ∀ q ∈ T, cq q.2 /\ eA q.2 <= 8
theorem GT.eA {nm : GV} : ∀ {T : Tx}, (∀ q ∈ T, cq q.2 /\ eA q.2 <= 8) -> (p7 T).length <= 8 * T.length /\ (T.flatMap zR).length <= 8 * T.length
 | [], _ => ⟨Nat.le_refl _, Nat.le_refl _⟩
 | q :: T, h => by
  obtain ⟨h1, h2⟩ := GT.eA (nm := nm) (T := T) fun p hp => h p (by simp [hp]);obtain ⟨h3, h4⟩ := h q (by simp);have h5 := C2 q;have h6 := eM h3;have h7 := pI q;unfold p7 at h1 ⊢;rw [List.flatMap_cons, List.flatMap_cons, List.length_append, List.length_append, length_cons];omega
theorem GT.ok {nm : GV} {T : Tx} (h5 : nm.length = 5) (h : GT nm T) : ud T := by
 have hl : T.length <= 5 := by
  have := xg (m := nm) h.nd fun x hx => by
   obtain ⟨q, hq, rfl⟩ := mem_map.mp hx;exact h.sub q hq
  rw [length_map] at this;omega
 obtain ⟨h1, h2⟩ := GT.eA (nm := nm) h.good;have h3 := oy h.nd;have h4 : (d5 T).length = (T.flatMap zR).length := by
  have := ((iu h.nd).flatMap_right zR).length_eq;simpa [d5, zT] using this
 exact ⟨h.nd, by omega, by omega, by omega⟩
theorem GT.out {nm : GV} {T : Tx} (h : GT nm T) (n : Str) : GT nm (h8 T n) := by
 have sub : ∀ q ∈ h8 T n, q ∈ T := fun q hq => (mem_filter.mp hq).1;exact ⟨h.nd.sublist (List.filter_sublist.map _), fun q hq => h.sub q (sub q hq), fun q hq => h.good q (sub q hq)⟩
theorem GT.put {nm : GV} {T : Tx} (h : GT nm T) {n : Str} {rows : GI} (hn : n ∉ T.map (·.1)) (hm : n ∈ nm) (g : cq rows) (ht : Y.eA rows <= 8) : GT nm (T ++ [(n, rows)]) := by
 refine ⟨?_, fun q hq => ?_, fun q hq => ?_⟩
 . rw [map_append];refine List.nodup_append.mpr ⟨h.nd, by simp, fun a ha b hb => ?_⟩;have : b = n := by simpa using hb
   intro z;rw [z, this] at ha;exact hn ha
 . rcases mem_append.mp hq with hq | hq
   . exact h.sub q hq
   . rw [List.mem_singleton.mp hq]; exact hm
 . rcases mem_append.mp hq with hq | hq
   . exact h.good q hq
   . rw [List.mem_singleton.mp hq]; exact ⟨g, ht⟩
theorem BL (nm : GV) : GT nm [] := ⟨List.nodup_nil, fun q hq => (by cases hq), fun q hq => (by cases hq)⟩
theorem zE : kG [] = [] := by simp [kG, zb, jb]
theorem nj : aN [] = [] := by
 unfold aN;have : (eG (d5 [])).length = 0 := by rw [cZ, nZ]; rfl
 rw [List.eq_nil_of_length_eq_zero this];rfl
theorem qf {T : Tx} (h : ud T) (n : Str) : (eT T n).length < 64 := by
 have h1 : (aN T).length = Y.eA (d5 T) := by unfold aN; rw [length_map, cZ]
 have h2 := h.eA;rw [gK, length_map];have h3 := length_filter_le (fun i => decide (((aN T).getD i ("", 0, 0)).1 = n)) (List.range (aN T).length);rw [length_range] at h3;omega
def qm (d : D) : Prop := ∃ x : List D, d = .tup [.lst x, .lst x] /\ (D.lst x).dep <= 5
theorem vQ (T : Tx) : qm (.tup [.lst ((aN T).map dy), .lst ((aN T).map dy)]) := ⟨_, rfl, by
 refine Nat.le_trans (iE (n := 1) fun d hd => ?_) (by decide);obtain ⟨t, _, rfl⟩ := mem_map.mp hd;simp [dy, D.dep, b0]⟩
theorem tI (T : Tx) : qm (.tup [aE (kG T), aE (kG T)]) := ⟨_, rfl, Nat.le_trans (fD _) (by decide)⟩
theorem wm (ns : List Int) : qm (.tup [.lst (ns.map D.int), .lst (ns.map D.int)]) := ⟨_, rfl, Nat.le_trans (rE ns) (by decide)⟩
end Y
namespace Z
open PySem PySem.Spec PyProof.Rows L2 Y
section
variable [bT]
def top (i : Nat) : Stmt := PySem.Challenge.pw_besidewords_k61_put_and_taken.main.body.getD i (.Pass ⟨0, 0, 0, 0⟩)
abbrev fe : Stmt := top 2
abbrev lu : Stmt := top 3
abbrev gM : Stmt := top 4
abbrev n9 : Stmt := top 5
abbrev iS : Stmt := top 9
abbrev gR : Stmt := top 10
abbrev eO : Stmt := top 18
abbrev gT : Stmt := top 19
abbrev gj : Stmt := top 20
abbrev gh : Stmt := top 21
abbrev fE : Stmt := top 22
abbrev gL : Stmt := top 23
abbrev gH : Stmt := top 24
abbrev cO : Stmt := top 25
abbrev eK : Stmt := top 26
abbrev cV : Stmt := top 27
abbrev dJ : Stmt := top 28
abbrev iD : Stmt := top 29
abbrev eJ : Stmt := inClass (top 16) 0
abbrev ej : Stmt := inClass (top 16) 1
abbrev gY : Stmt := inClass (top 16) 2
abbrev fJ : Stmt := inClass (top 16) 3
abbrev fv : Stmt := inClass (top 16) 4
abbrev fQ : Stmt := inClass (top 16) 5
abbrev fK : Stmt := inClass (top 16) 6
abbrev fO : Stmt := inClass (top 16) 10
abbrev cQ : Stmt := inClass (top 16) 11
abbrev ee : Stmt := inClass (top 16) 12
theorem fs {N P : GV} {c : Scope} (a : c.kind = .function := by rfl) (b : c.isCoroutine = false := by rfl) (d : c.isGenerator = false := by rfl) (e : N.Nodup := by decide +kernel) (f : N.take P.length = P := by rfl) (g : ∀ x ∈ P, c.names.lookup x = some .local \/ c.names.lookup x = some .cell := by decide +kernel) (h : ∀ y ∈ c.names, y.2 ≠ .free := by decide +kernel) : aD N P c := ⟨a, b, d, e, f, g, h⟩
theorem l0 : aD ["self"] ["self"] (af eJ) := fs
theorem fy : aD ["self", "name", "row", "words"] ["self"] (af ej) := fs
theorem rD : aD ["self", "name", "text"] ["self", "name", "text"] (af gY) := fs
theorem ie : aD ["self", "name", "numbers"] ["self", "name"] (af fJ) := fs
theorem mK : aD ["self"] ["self"] (af fv) := fs
theorem pU : aD ["self", "name"] ["self", "name"] (af fQ) := fs
theorem pE : aD ["self"] ["self"] (af fK) := fs
theorem nX : aD ["self", "name"] ["self", "name"] (af fO) := fs
theorem gV : aD ["self", "name"] ["self", "name"] (af cQ) := fs
theorem jY : aD ["self", "tuples"] ["self", "tuples"] (af ee) := fs
theorem gG : aD ["rows", "places", "row", "words", "at"] ["rows"] (af fe) := fs
theorem uV : aD ["rows", "place"] ["rows", "place"] (af lu) := fs
theorem qH : aD ["rows", "place"] ["rows", "place"] (af gM) := fs
theorem As : aD ["rows"] ["rows"] (af n9) := fs
theorem lC : aD ["text", "rows"] ["text"] (af iS) := fs
theorem jI : aD ["part", "parted"] ["part"] (af gR) := fs
theorem lL : aD ["_law_script", "_law_k"] ["_law_script", "_law_k"] (af eO) := fs
theorem qi : aD ["_law_cell", "_law_k", "_law_many"] ["_law_cell", "_law_k", "_law_many"] (af gT) := fs
theorem g8 : aD ["_law_one", "_law_other", "_law_signs", "_law_size", "_law_at", "_law_words_here", "_law_k", "_law_word", "_law_j", "_law_number"] ["_law_one", "_law_other", "_law_signs"] (af gj) := fs
theorem pB : aD ["_law_one", "_law_other"] ["_law_one", "_law_other"] (af gh) := fs
theorem oS : aD ["_law_one", "_law_other"] ["_law_one", "_law_other"] (af fE) := fs
theorem jJ : aD ["_law_words_here", "_law_cell", "_law_many", "_law_rows_here", "_law_k", "_law_number"] ["_law_words_here", "_law_cell", "_law_many"] (af gL) := fs
theorem jQ : aD ["_law_rows_here", "_law_cell", "_law_gap", "_law_lines"] ["_law_rows_here", "_law_cell"] (af gH) := fs
theorem gE : aD ["_law_texts", "_law_places", "_law_name", "_law_row", "_law_at"] ["_law_texts"] (af cO) := fs
theorem mf : aD ["_law_places", "_law_name"] ["_law_places", "_law_name"] (af eK) := fs
theorem eC : aD ["_law_answer", "_law_due", "_law_number"] ["_law_answer", "_law_due"] (af cV) := fs
theorem gC : aD ["_law_book", "_law_texts", "_law_held", "_law_cell", "_law_places", "_law_answer", "_law_names_here", "_law_name", "_law_rows_here", "_law_more"] ["_law_book", "_law_texts", "_law_held", "_law_cell"] (af dJ) := fs
theorem yK : aD ["_law_script", "_law_words_here", "_law_names_here", "_law_book", "_law_apart", "_law_texts", "_law_held", "_law_cell", "_law_name", "_law_due", "_law_answer"] ["_law_script"] (af iD) := fs
abbrev Dr : List Str := ["_law_cell", "_law_k", "_law_many"]
structure g7 (mg : GN) : Prop where
 ValueError : mg "ValueError" = none
 all : mg "all" = none
 bool : mg "bool" = none
 enumerate : mg "enumerate" = none
 int : mg "int" = none
 isinstance : mg "isinstance" = none
 len : mg "len" = none
 list : mg "list" = none
 range : mg "range" = none
 sorted : mg "sorted" = none
 tuple : mg "tuple" = none
 WORD_SIGNS : ∃ t, mg "WORD_SIGNS" = some (.str "abcdefghijklmnopqrstuvwxyz0123456789" t)
section
variable {P : Program} {w : World} {K : Frag} {mg : GN} {base : Heap} {f : Addr} {fd : FuncData}
theorem kU (Fx : fo K "_law_cell_at" "_law_cell_at" eO f fd) (hmg : mg "_law_cell_at" = some (.ref f)) (hb : Binds K fd ["_law_script", "_law_k"] []) (B : g7 mg) : Def P w K mg base 1 "_law_cell_at" true t6 := by
 refine cP Fx lL hmg hb (by rintro ds d ⟨ns, k, hz, e1, e2⟩; subst e1; rfl) ?_;rintro cdv A outer s H Ex Z ds d hr ⟨ns, k, hz, e1, e2⟩;subst e1 e2;refine ed (Ba (ab 1) (kS (ab 0) B.len)) (fun h => ?_) (fun h => ?_)
 . refine bg false (m1 := true) (E.flat (dH (d := .int (cellAt ns k)) (ab 0) (ab 1) ?_) rfl) rfl;simp at h;refine cB ?_;simp [cellAt, h]
 . refine aG ?_;refine bg false (E.cast aw ?_) rfl;simp at h;simp [cellAt, h]
theorem qB (Fx : fo K "_law_part" "_law_part" gT f fd) (hmg : mg "_law_part" = some (.ref f)) (hb : Binds K fd Dr []) (B : g7 mg) : Def P w K mg base 1 "_law_part" true xh := by
 refine cP Fx qi hmg hb (by rintro ds d ⟨c, k, m, hm, e1, e2⟩; subst e1; rfl) ?_;rintro cdv A outer s H Ex Z ds d hr ⟨c, k, m, hm, e1, e2⟩;subst e1 e2;have h1 := Int.emod_nonneg c (show (99991 : Int) ≠ 0 by decide);have h2 := Int.emod_lt_of_pos c (show (0 : Int) < 99991 by decide);have h3 := Int.emod_nonneg ((c % 99991 + 17) * (48271 + 7919 * k)) (show (65537 : Int) ≠ 0 by decide);have h4 := Int.emod_lt_of_pos ((c % 99991 + 17) * (48271 + 7919 * k)) (show (0 : Int) < 65537 by decide);exact bg false (dG (dG (qd (dG (qd (iH (dG (ab 0) aw (by decide)) aw) (iH aw (qd aw (ab 1) (.inl ⟨by decide, by decide⟩))) (.inl ⟨by omega, by omega⟩)) aw (by decide)) (iH (ab 1) aw) (.inl ⟨by omega, by omega⟩)) aw (by decide)) (ab 2) hm) rfl
theorem rh (Fx : fo K "words_in" "words_in" gR f fd) (hmg : mg "words_in" = some (.ref f)) (hb : Binds K fd ["part"] []) (B : g7 mg) : Def P w K mg base 1 "words_in" true qS := by
 refine cP Fx jI hmg hb (by rintro ds d ⟨z, h1, h2, e1, e2⟩; subst e1; rfl) ?_;rintro cdv A outer s H Ex Z ds d hr ⟨z, h1, h2, e1, e2⟩;subst e1 e2;have nd := jI.nd;obtain ⟨t, hW⟩ := B.WORD_SIGNS;have hl := vZ h2;have hcl : (cl (Txt.lower z)).length <= 2000 := by rw [bJ, hl]; exact h1
 refine dq 1 (d := .str (Txt.join "" ((cl (Txt.lower z)).map fun c => if jG c then (⟨#[c]⟩ : Str) else " "))) (rS cu (zs := (cl (Txt.lower z)).map fun c => if jG c then (⟨#[c]⟩ : Str) else " ") (E.cast
  (ny (m := true) (me := true) [] [] (fun d => match d with | .str x => .str (if (!(Builtin.Str.occurrences kh x 0 kh.length 1).isEmpty) then x else " ") | d => d) (CI (m := true) (zA (ab 0) (by omega)))
   (fun C s H fp d hd => ?_) (by simp [jg]; exact cE (Nat.le_trans (by simpa [cl] using hcl) (by decide)))) ?_) (by decide) ?_) rfl ?_ nd
 . obtain ⟨c, _, rfl⟩ := mem_map.mp hd;refine AA (Ew (ab 0) (CD hW)) (fun h => ?_) (fun h => ?_)
   . refine E.flat (E.cast (ab 0) ?_) rfl;have h' : (!(Builtin.Str.occurrences kh ⟨#[c]⟩ 0 kh.length 1).isEmpty) = true := h;simp [h']
   . refine E.cast cu ?_;have h' : (!(Builtin.Str.occurrences kh ⟨#[c]⟩ 0 kh.length 1).isEmpty) = false := h;simp [h']
 . rw [jg, map_map, map_map];congr 1;apply map_congr_left;intro c _;simp only [Function.comp, Dx]
 . have e : (((cl (Txt.lower z)).map fun c => if jG c then (⟨#[c]⟩ : Str) else " ").map (·.length)).sum = (cl (Txt.lower z)).length := by
    rw [map_map];refine rp _ _ fun c => ?_;simp only [Function.comp];split <;> rfl
   rw [e, length_map]; omega
 . have hlen : (Txt.join "" ((cl (Txt.lower z)).map fun c => if jG c then (⟨#[c]⟩ : Str) else " ")).length <= 2000 := by
    rw [<- bJ, Bx, length_map]; exact hcl
   refine bg true (xD (ab 1) (cE (Nat.le_trans hlen (by decide))) (uJ (vt _) (by omega))) rfl
theorem sr (Fx : fo K "rows_of" "rows_of" iS f fd) (hmg : mg "rows_of" = some (.ref f)) (hb : Binds K fd ["text"] []) (B : g7 mg) (dW : Def P w K mg base 1 "words_in" true qS) : Def P w K mg base 2 "rows_of" true uB := by
 refine cP Fx lC hmg hb (by rintro ds d ⟨z, h1, h2, e1, e2⟩; subst e1; rfl) ?_;rintro cdv A outer s H Ex Z ds d hr ⟨z, h1, h2, e1, e2⟩;subst e1 e2;have nd := lC.nd;have hsp := pK z;refine kO 1 (d := bu ((Txt.split z "\n").map dr)) (EC.cast (sL (m := true) (me := true) [] [] (fun d => match d with | .str x => aE (dr x) | d => d) (cC (wC (ab 0) cu rfl (cE (by omega)) (uJ (vd z "\n") (by omega))))
  (fun C s H fp d hd => ?_) (by rw [length_map]; exact cE (by omega))) (by simp [bu, Function.comp_def])) ?_ nd
 . obtain ⟨x, hx, rfl⟩ := mem_map.mp hd;have hp := wB hx;refine bf dW hr (aI (ab 0)) ⟨x, ?_, fun c hc => h2 c (eV hp hc), rfl, rfl⟩;have := cK 10 (cl z) _ hp;rw [bJ, bJ] at this;omega
 . refine bg true (E.cast (sG (m := false) (me := false) [] [] (fun d => !aP d (.lst [])) (fun d => d) (cC (ab 1)) (fun C s H fp d hd => ?_) (fun C s H fp d hd _ => ab 0 (hn := by obtain ⟨r, _, rfl⟩ := mem_map.mp hd; rfl)) (by rw [length_map, length_map]; exact cE (by omega))) ?_) rfl
   . obtain ⟨r, _, rfl⟩ := mem_map.mp hd;exact rO (nI (ab 0) (wN dh) rfl (jN hr (fD _)))
   . simp only [List.map_id'];unfold bu cj;rw [filter_map];congr 2;apply List.filter_congr;intro r _;have := vS r [];simp only [Function.comp];rw [show (D.lst [] : D) = aE [] from rfl, this]
theorem u6 (Fx : fo K "end_of" "end_of" lu f fd) (hmg : mg "end_of" = some (.ref f)) (hb : Binds K fd ["rows", "place"] []) (B : g7 mg) : Def P w K mg base 1 "end_of" true DM := by
 refine cP Fx uV hmg hb (by rintro ds d ⟨rows, p, hp, e1, e2⟩; subst e1; rfl) ?_;rintro cdv A outer s H Ex Z ds d hr ⟨rows, p, hp, e1, e2⟩;subst e1 e2;refine bg false (E.cast (wV (m := true) (ds := (rows.getD p.1 []).map D.str) (dH (ab 0) (gF (d := .int p.1) (ab 1) aw rfl) (cB ?_)) (gm (gF (d := .int p.2) (ab 1) aw rfl)) kg ?_) ?_) rfl
 . simp [hp, aE]
 . intro _;exact .inr (v3 (g6 _))
 . rw [kN];simp [aE, endAt]
theorem mR (Fx : fo K "all_places" "all_places" fe f fd) (hmg : mg "all_places" = some (.ref f)) (hb : Binds K fd ["rows"] []) (B : g7 mg) : Def P w K mg base 1 "all_places" true DN := by
 refine cP Fx gG hmg hb (by rintro ds d ⟨rows, ht, e1, e2⟩; subst e1; rfl) ?_;rintro cdv A outer s H Ex Z ds d hr ⟨rows, ht, e1, e2⟩;subst e1 e2;have nd := gG.nd;refine jd 1 (cJ dh) rfl ?_ nd;refine ql 2 3 (ds := iC (rows.map aE)) (fun n r => ∃ o2 o3 o4, r = [some (.pl false (bu rows)), some (.ow true ((eY rows n).map fz)), o2, o3, o4])
  (PI.FX (tN (ab 0) B.enumerate)) ⟨_, _, _, rfl⟩ (by rintro n r ⟨_, _, _, e⟩; subst e; simp) (fun d hd => by
   obtain ⟨i, _, rfl⟩ := mem_map.mp hd;exact ⟨_, _, rfl⟩) (fun n d1 d2 r hd ⟨o2, o3, o4, e⟩ => ?_) (fun r ⟨o2, o3, o4, e⟩ => ?_) nd
 . subst e;obtain ⟨d', hd', e⟩ := d4 hd;cases e;rw [getElem?_map] at hd'
   cases hrow : rows[n]? with
   | none => rw [hrow] at hd'; cases hd'
   | some row =>
    rw [hrow] at hd';cases hd';have hrl : row.length <= eA rows := by have := tU hrow row.length (Nat.le_refl _); omega
    refine cb 4 (ds := bQ 0 (row.map D.str).length) (fun m r => ∃ o4, r = [some (.pl false (bu rows)), some (.ow true ((eY rows n ++ (List.range m).map fun a => (n, a)).map fz)), some (.pl false (.int (n : Nat))), some (.pl false (aE row)), o4] /\ m <= row.length)
     (cR (n := ((row.map D.str).length : Int)) (m := true) (kS (ab 3) B.len) (by rw [length_map]; omega) (by omega) B.range) cD ⟨o4, by simp, by omega⟩ (by rintro n r ⟨_, e, _⟩; subst e; simp) (fun m d r hd ⟨o4, e, hm⟩ => ?_) (fun r ⟨o4, e, hm⟩ => ?_) nd
    . subst e;obtain ⟨hm2, rfl⟩ := bW hd;rw [length_map] at hm2;have hlen := tU hrow m hm;refine d7 1 true rfl (lH (au (ab 2) (aI (ab 4)))) rfl (by simp; omega) ?_;refine aG ⟨some (.pl true (.int (m : Nat))), ?_, hm2⟩;rw [range_succ];simp [fz, List.set]
    . subst e;refine aG ⟨some (.pl false (.int (n : Nat))), some (.pl false (aE row)), o4, ?_⟩;rw [gI, bL, length_map];simp [hrow]
 . subst e;refine bg true (E.cast (ab 1) ?_) rfl;rw [eW, length_map];rfl
theorem rC (Fx : fo K "order_of" "order_of" gM f fd) (hmg : mg "order_of" = some (.ref f)) (hb : Binds K fd ["rows", "place"] []) (B : g7 mg) (dE : Def P w K mg base 1 "end_of" true DM) : Def P w K mg base 2 "order_of" false yw := by
 refine cP Fx qH hmg hb (by rintro ds d ⟨rows, p, hp, e1, e2⟩; subst e1; rfl) ?_;rintro cdv A outer s H Ex Z ds d hr ⟨rows, p, hp, e1, e2⟩;subst e1 e2;exact bg false (lH (au (bf dE hr (au (ab 0) (aI (ab 1))) ⟨rows, p, hp, rfl, rfl⟩) (aI (ab 1)))) rfl
theorem Aj {f c Pt : Addr} {fd : FuncData} (Fx : oU K "ends" "ends" n9 f fd c) (LK : oq K mg base c Pt "ends.<locals>.<lambda>") (hmg : mg "ends" = some (.ref f)) (hb : Binds K fd ["rows"] []) (B : g7 mg) (dA : Def P w K mg base 1 "all_places" true DN) (dO : Def P w K mg base 2 "order_of" false yw) : Def P w K mg base 6 "ends" true Bv := by
 refine Ax Fx As hmg hb (by rintro ds d ⟨rows, ht, e1, e2⟩; subst e1; rfl) fun A outer s H Ex Z ds d hr ⟨rows, ht, e1, e2⟩ => ?_;subst e1 e2;refine bg false (nJ (ds := (iG rows).map fz) (g := v9 rows) (P := uI) (P0 := fun d => ∃ p, d = fz p /\ p.1 < rows.length) (caps := [("rows", 0)]) (pn := "place") (c := c) (Pt := Pt) (qn := "ends.<locals>.<lambda>") (clos := [("rows", s.heap.objs.size + 1)]) (m1 := true) (mb := false) (bf dA (hr.mono (by decide)) (aI (ab 0)) ⟨rows, by omega, rfl, rfl⟩) ?LC ?LO ?cl ?body ?b fi kind_ord ?P ?inj ?len ?hh ?room ?m) rfl
 case LC => exact oq.cx LK rfl rfl
 case LO =>
  refine ⟨rfl, rfl, rfl, by decide +kernel, rfl, fun q hq => ?_, fun x c h => h, fun x hx => ?_⟩
  . have : q = (("rows" : Str), 0) := by simpa using hq
    subst this;exact ⟨rfl, rfl, rfl, rfl⟩
  . have h := (by decide +kernel : ∀ q ∈ yx n9, q.2 = NameKind.free -> q.1 = ("rows" : Str)) _ (PySem.mem_of_lookup hx) rfl;have h' : x = ("rows" : Str) := h;subst h';exact ⟨_, rfl⟩
 case cl => rfl
 case b => exact fun _ _ _ _ => rfl
 case body =>
  rintro f' c' s' H' R d ⟨p, rfl, hp⟩;rw [gk];exact bf dO (k := 2) (((hr.in1).in1).deeper _) (au (ab 1) (aI (ab 0))) ⟨rows, p, hp, rfl, rfl⟩
 case P =>
  intro d hd;obtain ⟨p, hp, rfl⟩ := mem_map.mp hd;rw [gk];exact ⟨⟨p, rfl, ia hp⟩, ⟨_, p, rfl⟩, uY hr⟩
 case inj =>
  intro x hx y hy e;obtain ⟨p, _, rfl⟩ := mem_map.mp hx;obtain ⟨q, _, rfl⟩ := mem_map.mp hy;rw [gk, gk] at e;simp only [fA] at e;injection e with e;injection e with _ e;injection e with e _
 case len => rw [length_map, qR]; exact ht
 case hh => exact hr.hd
 case room => exact hr.depth
 case m => exact B.sorted
theorem mP {f C : Addr} {fd : FuncData} (Fx : fo K "names" "Book.names" fv f fd) (hM : Meth K C "names" f) (hb : Binds K fd ["self"] []) (B : g7 mg) (TC : eX K mg "Book" C wx) : eU P w K mg base 1 C "names" true (pA C) := by
 refine ⟨f, fd, _, vL Fx mK (by rintro ds d ⟨fs, Tt, h, h2, e1, e2⟩; subst e1; rfl) fun cdv A outer s H Ex Z ds d hr ⟨fs, Tt, h, h64, e1, e2⟩ => ?_, hM, hb⟩;subst e1 e2;refine bg false (E.cast (lU (b := ⟨.none, none, .plain, #[]⟩) (.inl rfl) (je (d := (jK Tt).d) (aQ 0 (d := gN C fs)) TC.cl (TC.no _ (by simp)) (xi h)) cL qV (fun k hk => ?_) ?_ hr.hd B.sorted) ?_) rfl
 . rw [ef] at hk;obtain ⟨x, _, rfl⟩ := mem_map.mp hk;exact ⟨⟨x, rfl⟩, nh hr⟩
 . simpa [cS] using h64
 . unfold aE;rw [yz, ef, map_map, map_map];rfl
theorem pJ {f C : Addr} {fd : FuncData} (Fx : fo K "want" "Book.want" fO f fd) (hM : Meth K C "want" f) (hb : Binds K fd ["self", "name"] []) (B : g7 mg) (TC : eX K mg "Book" C wx) : eU P w K mg base 1 C "want" true (yS C) := by
 refine ⟨f, fd, _, vL Fx nX (by rintro ds d ⟨Tt, n, h, e1, e2⟩; subst e1; rfl) fun cdv A outer s H Ex Z ds d hr ⟨Tt, n, h, e1, e2⟩ => ?_, hM, hb⟩;subst e1 e2;obtain ⟨j, hj⟩ := ug h;exact ed (b := false) (wK (j := some j) (ab 1) (je (d := (jK Tt).d) (aQ 0 (d := gN C (fc Tt))) TC.cl (TC.no _ (by simp)) rfl) hj (iM hr)) (fun h => by cases h) fun _ => aG (aG rfl)
theorem j6 {f C : Addr} {fd : FuncData} (Fx : fo K "in_book" "Book.in_book" ee f fd) (hM : Meth K C "in_book" f) (hb : Binds K fd ["self", "tuples"] []) (B : g7 mg) (TC : eX K mg "Book" C wx) : eU P w K mg base 1 C "in_book" true (uN C) := by
 refine ⟨f, fd, _, vL Fx jY (by rintro ds d ⟨Tt, ts, h, hl, e1, e2⟩; subst e1; rfl) fun cdv A outer s H Ex Z ds d hr ⟨Tt, ts, h, hl, e1, e2⟩ => ?_, hM, hb⟩;subst e1 e2;refine bg false (E.cast (ny (m := true) (me := true) ["self"] [0] (fun d => match d with | .tup (.int r :: l) => .tup ([.str ((dg Tt).getD r.toNat ("", 0)).1, .int ((((dg Tt).getD r.toNat ("", 0)).2 : Nat) : Int)] ++ l) | d => d) (cC (ab 1)) (fun Cx sx Hx fp d hd => ?_) (by rw [length_map]; exact cE hl)) ?_) rfl
 . obtain ⟨t, ht, rfl⟩ := mem_map.mp hd;obtain ⟨h1, h2, h3⟩ := h t ht;have fl : aV (.int (t.1 : Nat) :: t.2.map D.int) = true := dZ fun d hd => by
    rcases mem_cons.mp hd with rfl | hd
    . rfl
    . obtain ⟨i, _, rfl⟩ := mem_map.mp hd;rfl
   have hc : cut (.int (t.1 : Nat) :: t.2.map D.int) (some 1) none = t.2.map D.int := Ap _ _;refine E.cast (B7 (ds := [.str ((dg Tt).getD t.1 ("", 0)).1, .int ((((dg Tt).getD t.1 ("", 0)).2 : Nat) : Int)]) (es := t.2.map D.int) (dH (ds := (dg Tt).map xN) (Bk (d := (EE Tt).d) (aQ 1 (d := gN C (fc Tt))) TC.cl (TC.no _ (by simp)) rfl rfl) (gF (d := .int (t.1 : Nat)) (ab 0) aw (cB (j := 0) rfl)) (cB ?_)) (E.cast (Dz (m := true) (ab 0) (gm aw) kg fl ?_) (by rw [hc])) (by simp) (by simpa using h2) (by simp; omega) fun _ => ⟨rfl, df _⟩) ?_
   . simp [h1, xN]
   . rw [hc]; simp
   . simp [toD]
 . rw [map_map];congr 1
theorem oj {f C : Addr} {fd : FuncData} (Fx : fo K "ends" "Book.ends" fK f fd) (hM : Meth K C "ends" f) (hb : Binds K fd ["self"] []) (B : g7 mg) (TC : eX K mg "Book" C wx) (dI : eU P w K mg base 1 C "in_book" true (uN C)) : eU P w K mg base 2 C "ends" true (pH C) := by
 refine ⟨f, fd, _, vL Fx pE (by rintro ds d ⟨Tt, h, e1, e2⟩; subst e1; rfl) fun cdv A outer s H Ex Z ds d hr ⟨Tt, h, e1, e2⟩ => ?_, hM, hb⟩;subst e1 e2;have ht := h.eA;have hlen := cZ (d5 Tt);refine bg false (E.cast (i5 dI TC.cl hr (aQ 0 (d := gN C (fc Tt))) (cF rfl) (dX (je (d := (xx Tt).d) (aQ 0 (d := gN C (fc Tt))) TC.cl (TC.no _ (by simp)) rfl)) ⟨Tt, (eG (d5 Tt)).map fun p => (p.1, [(p.2 : Int)]), fun t ht => ?_, by rw [length_map]; omega, ?_, rfl⟩) ?_) rfl
 . obtain ⟨p, hp, rfl⟩ := mem_map.mp ht;exact ⟨tu hp, by simp, by simp⟩
 . rw [map_map];rfl
 . unfold aN;rw [map_map, map_map];rfl
theorem gJ {f C : Addr} {fd : FuncData} (Fx : fo K "numbers_of" "Book.numbers_of" cQ f fd) (hM : Meth K C "numbers_of" f) (hb : Binds K fd ["self", "name"] []) (B : g7 mg) (TC : eX K mg "Book" C wx) (dE : eU P w K mg base 2 C "ends" true (pH C)) : eU P w K mg base 3 C "numbers_of" true (sE C) := by
 refine ⟨f, fd, _, vL Fx gV (by rintro ds d ⟨Tt, n, h, e1, e2⟩; subst e1; rfl) fun cdv A outer s H Ex Z ds d hr ⟨Tt, n, h, e1, e2⟩ => ?_, hM, hb⟩;subst e1 e2;have hlen : (aN Tt).length = eA (d5 Tt) := by unfold aN; rw [length_map, cZ]
 have ht := h.eA;refine bg false (E.cast (y3 (m := true) (me := true) ["name"] [1] (fun a b => match b with | .tup (.str x :: _) => decide (x = n) | _ => false) (fun a b => a) (tN (eB dE TC.cl hr (aQ 0 (d := gN C (fc Tt))) (cF rfl) ⟨Tt, h, rfl, rfl⟩) B.enumerate) (fun d hd => ?_) (fun Cx sx Hx fp a b hd => ?_) (fun Cx sx Hx fp a b hd _ => ?_) ?_).val ?_) rfl
 . obtain ⟨i, _, rfl⟩ := mem_map.mp hd;exact ⟨_, _, rfl⟩
 . obtain ⟨i, hi⟩ := List.getElem?_of_mem hd;obtain ⟨d', e1, e2⟩ := d4 hi;cases e2;obtain ⟨t, _, rfl⟩ := mem_map.mp (mem_of_getElem? e1);exact rO (Bh (i := t.1) (j := n) (gF (d := .str t.1) (ab 1) aw rfl) (ab 2))
 . obtain ⟨i, hi⟩ := List.getElem?_of_mem hd;obtain ⟨d', e1, e2⟩ := d4 hi;cases e2;exact E.flat (ab 0) rfl
 . rw [eW, length_map]; exact cE (by omega)
 . rw [gK];unfold iC;rw [length_map, filter_map, map_map, map_map];congr 1;have e : ∀ i ∈ List.range (aN Tt).length, (rG false (fun a b => match b with | .tup (.str x :: _) => decide (x = n) | _ => false) ∘ fun i => D.tup [.int (i : Nat), ((aN Tt).map dy).getD i .non]) i = decide (((aN Tt).getD i ("", 0, 0)).1 = n) := fun i hi => by
    have hi : i < (aN Tt).length := by simpa using hi
    simp [Function.comp, rG, hi, dy]
   rw [List.filter_congr e];refine map_congr_left fun i _ => ?_;rfl
theorem oA {f C : Addr} {fd : FuncData} (Fx : fo K "rows" "Book.rows" fQ f fd) (hM : Meth K C "rows" f) (hb : Binds K fd ["self", "name"] []) (B : g7 mg) (TC : eX K mg "Book" C wx) (dW : eU P w K mg base 1 C "want" true (yS C)) : eU P w K mg base 2 C "rows" true (wJ C) := by
 refine ⟨f, fd, _, vL Fx pU (by rintro ds d ⟨Tt, n, _, _, _, e1, e2⟩; subst e1; rfl) fun cdv A outer s H Ex Z ds d hr ⟨Tt, n, hT, hn, hl, e1, e2⟩ => ?_, hM, hb⟩;subst e1 e2;obtain ⟨j, k1, k2⟩ := iV hT.nd hn;refine uM (i5 dW TC.cl hr (aQ 0 (d := gN C (fc Tt))) (cF rfl) (dX (E.eg (ab 1))) ⟨Tt, n, hn, rfl, rfl⟩) ?_;refine bg false (E.cast (ny (m := true) (me := true) [] [] (fun d => d) (cC (iW (d := bu (mC Tt n)) (je (d := (jK Tt).d) (aQ 0 (d := gN C (fc Tt))) TC.cl (TC.no _ (by simp)) rfl) (ab 1) k1 k2 rfl (iM hr))) (fun Cx sx Hx fp d hd => ?_) (by rw [length_map]; exact cE (by omega))) (by rw [List.map_id']; rfl)) rfl;obtain ⟨r, _, rfl⟩ := mem_map.mp hd;exact zg (ab 0) B.list (fun _ => .inr (g6 _))
theorem j7 {f C : Addr} {fd : FuncData} (Fx : fo K "arrange" "Book.arrange" ej f fd) (hM : Meth K C "arrange" f) (hb : Binds K fd ["self"] []) (B : g7 mg) (TC : eX K mg "Book" C wx) (dN : eU P w K mg base 1 C "names" true (pA C)) (dE : Def P w K mg base 6 "ends_ends" true Bv) : mz P w K mg base 7 C "arrange" Ac := by
 refine ⟨f, fd, _, EN Fx fy (fun fs ds fs' d ⟨Tt, h, h2, e1, e2, e3⟩ => by subst e1; rfl) (by decide) fun cdv A outer s H Ex F b fs ds fs' d hr ⟨Tt, hT, hfs, e1, e2, e3⟩ => ?_, hM, hb⟩;subst e1 e2 e3;have nd := fy.nd;obtain ⟨R, hR, e⟩ : ∃ R : dB, (R = [] \/ ∃ c, R = ([("order", c)] : dB)) /\ vU "together" (.l []) (vU "origins" (.l []) fs) = BP Tt R [] := by
  rcases hfs with rfl | ⟨x, y, c, rfl⟩
  . exact ⟨[], .inl rfl, rfl⟩
  . exact ⟨[("order", c)], .inr ⟨c, rfl⟩, rfl⟩
 have hl4 : fs.length <= 4 := by rcases hfs with rfl | ⟨x, y, c, rfl⟩ <;> simp
 have hl5 : (vU "origins" (.l []) fs).length <= 5 := by rcases hfs with rfl | ⟨x, y, c, rfl⟩ <;> exact of_decide_eq_true rfl
 refine gp 0 TC.cl (TC.no _ (by simp)) rfl (cJ dh) (oJ rfl) (by omega) rfl ?_;refine gp 0 TC.cl (TC.no _ (by simp)) rfl (cJ dh) (oJ rfl) (by omega) e ?_;have rows := hT.rows;have hz : (zT Tt).length < 500 := by simpa [d5] using rows
 refine yf 1 (ds := (kG Tt).map D.str) (fun n r => ∃ o1 o2 o3, r = [some (.gen (gB (some b) C (BP Tt R (gA Tt n 0)))), o1, o2, o3])
  (PI.Fc (cC (E.cast (eB dN TC.cl (hr.mono (by decide)) (aQ 0 (d := gN C (BP Tt R []))) (cF ?_) ⟨_, Tt, rfl, hT.few, rfl, rfl⟩) rfl))) ⟨_, _, _, by rw [nq]; rfl⟩ (by rintro n r ⟨_, _, _, e⟩; subst e; simp) (fun n d r hd ⟨o1, o2, o3, e⟩ => ?_) (fun r ⟨o1, o2, o3, e⟩ => ?_) nd
 . rcases hR with rfl | ⟨c, rfl⟩ <;> rfl
 . subst e;rw [getElem?_map] at hd
   cases hq : (kG Tt)[n]? with
   | none => rw [hq] at hd; cases hd
   | some x =>
    rw [hq] at hd;cases hd;have hby : (mj Tt)[n]? = some (x, mC Tt x) := by unfold mj; rw [getElem?_map, hq]; rfl
    have hx : x ∈ Tt.map (·.1) := (gc Tt).mem_iff.mp (mem_of_getElem? hq);obtain ⟨j, k1, k2⟩ := iV hT.nd hx;refine ql 2 3 (ds := iC ((mC Tt x).map aE)) (fun m r => ∃ o2 o3, r = [some (.gen (gB (some b) C (BP Tt R (gA Tt n m)))), some (.pl false (.str x)), o2, o3])
     (AH (B4 0 (d := bu (mC Tt x)) TC.cl (TC.no _ (by simp)) rfl rfl (ab 1) k1 k2 rfl (iM hr)) B.enumerate) ⟨_, _, rfl⟩ (by rintro n r ⟨_, _, e⟩; subst e; simp) (fun d hd => by
      obtain ⟨i, _, rfl⟩ := mem_map.mp hd;exact ⟨_, _, rfl⟩) (fun m d1 d2 r hd ⟨o2, o3, e⟩ => ?_) (fun r ⟨o2, o3, e⟩ => ?_) nd
    . subst e;obtain ⟨d', hd', e⟩ := d4 hd;cases e;rw [getElem?_map] at hd'
      cases hrow : (mC Tt x)[m]? with
      | none => rw [hrow] at hd'; cases hd'
      | some row =>
       rw [hrow] at hd';cases hd';have hlen := x4 (T := Tt) n m;have hn := uZ hby hrow;refine nB 0 (fs' := ("texts", jK Tt) :: ("origins", .l (((gA Tt n (m + 1)).map (·.1)).map xN)) :: ("together", .l (((gA Tt n m).map (·.2)).map aE)) :: R) TC.cl (TC.no _ (by simp)) rfl rfl (lH (au (ab 1) (aI (ab 2)))) (by simp; omega) ?_ ?_
       . rw [hn, map_append, map_append]; rfl
       refine nB 0 (fs' := BP Tt R (gA Tt n (m + 1))) TC.cl (TC.no _ (by simp)) rfl rfl (ab 3) (by simp; omega) ?_ ?_
       . unfold BP;rw [hn];simp only [map_append];rfl
       exact aG ⟨_, _, rfl⟩
    . subst e;refine aG ⟨some (.pl false (.str x)), o2, o3, ?_⟩;rw [eW, length_map, vJ hby]
 . subst e;rw [length_map, y1];refine gp 0 (s := xx Tt) (fs' := fc Tt) TC.cl (TC.no _ (by simp)) rfl (E.cast (bf dE hr (aI (Bk (d := .lst (((zT Tt).map (·.2)).map aE)) (aQ 0 (d := gN C (BP Tt R (zT Tt)))) TC.cl (TC.no _ (by simp)) rfl rfl)) ⟨d5 Tt, hT.eA, rfl, rfl⟩) (yO _)) (oJ (jo (fun _ => rfl) _)) ?_ ?_ (aG ⟨rfl, rfl⟩)
   . rcases hR with rfl | ⟨c, rfl⟩ <;> exact of_decide_eq_true rfl
   . rcases hR with rfl | ⟨c, rfl⟩ <;> rfl
theorem ma {f C : Addr} {fd : FuncData} (Fx : fo K "__init__" "Book.__init__" eJ f fd) (hM : Meth K C "__init__" f) (hb : Binds K fd ["self"] []) (B : g7 mg) (TC : eX K mg "Book" C wx) (dA : mz P w K mg base 7 C "arrange" Ac) : bR P w K mg base fS 8 f fd ["self"] (Cg K C Bd) := by
 refine EN Fx l0 (fun fs ds fs' d ⟨_, e1, _, _⟩ => by subst e1; rfl) (by decide) fun cdv A outer s H Ex F b fs ds fs' d hr ⟨e0, e1, e2, e3⟩ => ?_;subst e0 e1 e2 e3;refine gp 0 TC.cl (TC.no _ (by simp)) rfl tZ z7 (by decide) rfl ?_;exact lO 0 false (sk dA TC.cl hr) rfl rfl ⟨[], uG, .inl rfl, rfl, rfl, rfl⟩ (aG ⟨rfl, rfl⟩)
theorem qk {f C : Addr} {fd : FuncData} (Fx : fo K "put" "Book.put" gY f fd) (hM : Meth K C "put" f) (hb : Binds K fd ["self", "name", "text"] []) (B : g7 mg) (TC : eX K mg "Book" C wx) (dR : Def P w K mg base 2 "rows_of" true uB) (dA : mz P w K mg base 7 C "arrange" Ac)
 (dN : eU P w K mg base 3 C "numbers_of" true (sE C)) : mz P w K mg base 8 C "put" DF := by
 refine ⟨f, fd, _, EN Fx rD (fun fs ds fs' d ⟨_, _, _, _, _, _, _, _, e1, _⟩ => by subst e1; rfl) (by decide) fun cdv A outer s H Ex F b fs ds fs' d hr ⟨Tt, n, z, hn, hT, hz, ha, e0, e1, e2, e3⟩ => ?_, hM, hb⟩;subst e0 e1 e2 e3;have hlen : Tt.length < 64 := by have := hT.few; rw [List.length_append] at this; omega
 refine ed (b := false) (xP (j := none) (ab 1) (je (d := (jK Tt).d) (aQ 0 (d := gN C (fc Tt))) TC.cl (TC.no _ (by simp)) rfl) (qz hn) (iM hr)) (fun h => by cases h) fun _ => aG ?_;refine vm 0 (k := .inr n) (fs' := [("texts", jK (Tt ++ [(n, cj z)])), ("origins", EE Tt), ("together", E5 Tt), ("order", xx Tt)]) TC.cl (TC.no _ (by simp)) rfl (hf := rfl) (ab 1) (bf dR (hr.mono (by decide)) (aI (ab 2)) ⟨z, hz, ha, rfl, rfl⟩) (iZ hn) (by simp [cS]; omega) (by rw [zP]; rfl) (iM hr) ?_;refine lO 0 false (sk dA TC.cl hr) rfl rfl ⟨Tt ++ [(n, cj z)], hT, .inr ⟨_, _, _, rfl⟩, rfl, rfl, rfl⟩ ?_;exact zZ rfl (i5 dN TC.cl (hr.mono (by decide)) (aQ 0 (d := gN C (fc (Tt ++ [(n, cj z)])))) (cF rfl) (dX (E.eg (ab 1))) ⟨_, n, hT, rfl, rfl⟩)
theorem ot {f C : Addr} {fd : FuncData} (Fx : fo K "take" "Book.take" fJ f fd) (hM : Meth K C "take" f) (hb : Binds K fd ["self", "name"] []) (B : g7 mg) (TC : eX K mg "Book" C wx) (dW : eU P w K mg base 1 C "want" true (yS C))
 (dN : eU P w K mg base 3 C "numbers_of" true (sE C)) (dA : mz P w K mg base 7 C "arrange" Ac) : mz P w K mg base 8 C "take" Bw := by
 refine ⟨f, fd, _, EN Fx ie (fun fs ds fs' d ⟨_, _, _, _, _, _, e1, _⟩ => by subst e1; rfl) (by decide) fun cdv A outer s H Ex F b fs ds fs' d hr ⟨Tt, n, hn, hT, hT', e0, e1, e2, e3⟩ => ?_, hM, hb⟩;subst e0 e1 e2 e3;have nd := ie.nd;have fl : aV ((eT Tt n).map D.int) = true := df _;refine uM (i5 dW TC.cl (hr.mono (by decide)) (aQ 0 (d := gN C (fc Tt))) (cF rfl) (dX (E.eg (ab 1))) ⟨Tt, n, hn, rfl, rfl⟩) ?_;refine jd 2 (i5 dN TC.cl (hr.mono (by decide)) (aQ 0 (d := gN C (fc Tt))) (cF rfl) (dX (E.eg (ab 1))) ⟨_, n, hT, rfl, rfl⟩) fl ?_ nd;refine wd 0 (k := .inr n) (kp := cS Tt) (fs' := [("texts", jK (h8 Tt n)), ("origins", EE Tt), ("together", E5 Tt), ("order", xx Tt)]) TC.cl (TC.no _ (by simp)) rfl rfl (ab 1) (pL hn) (by rw [qG]; rfl) ?_;refine lO 0 false (sk dA TC.cl hr) rfl rfl ⟨h8 Tt n, hT', .inr ⟨_, _, _, rfl⟩, rfl, rfl, rfl⟩ ?_;exact xB 2 rfl rfl fl (by decide)
theorem pv (Fx : fo K "_law_alike" "_law_alike" gj f fd) (hmg : mg "_law_alike" = some (.ref f)) (hb : Binds K fd ["_law_one", "_law_other", "_law_signs"] []) (B : g7 mg) (dP : Def P w K mg base 1 "_law_part" true xh) : Def P w K mg base 2 "_law_alike" true n6 := by
 refine cP Fx g8 hmg hb (by rintro ds d ⟨one, other, sg, _, _, e1, e2⟩; subst e1; rfl) ?_;rintro cdv A outer s H Ex Z ds d hr ⟨one, other, sg, h0, h100, e1, e2⟩;subst e1 e2;have nd := g8.nd;have hsz := i6 one;have hsz2 := rA one;have hsl : sg.length <= sizeLine := cE (by omega);refine dq 3 (d := .int (bE one)) (iH aw (bf dP hr (au (ab 0) (au aw (aI aw))) ⟨_, _, _, by decide, rfl, rfl⟩)) rfl ?_ nd;refine dq 4 (d := .int (DH one other)) (bf dP hr (au (ab 1) (au aw (aI (ab 3)))) ⟨_, _, _, by omega, rfl, rfl⟩) rfl ?_ nd;refine jd 5 (cJ dh) rfl ?_ nd;refine cb 6 (ds := bQ 0 5) (fun n r => ∃ o6 o7 o8 o9, r = [some (.pl false (.int one)), some (.pl false (.int other)), some (.pl false (.str sg)), some (.pl true (.int (bE one))), some (.pl true (.int (DH one other))), some (.ow true (((List.range n).map fun k => cH sg one other ((k : Nat) : Int) (bE one).toNat).map D.str)), o6, o7, o8, o9] /\ n <= 5)
  (cR (n := 5) (m := true) aw (by decide) (by decide) B.range) cD ⟨_, _, _, _, rfl, by decide⟩ (by rintro n r ⟨_, _, _, _, e, _⟩; subst e; simp) ?_ ?_ nd
 . rintro n d r hd ⟨o6, o7, o8, o9, e, hn⟩;subst e;obtain ⟨hn5, rfl⟩ := bW hd;refine dq 7 cu rfl ?_ nd;refine cb 8 (ds := bQ 0 (bE one).toNat) (fun m r => ∃ o8 o9, r = [some (.pl false (.int one)), some (.pl false (.int other)), some (.pl false (.str sg)), some (.pl true (.int (bE one))), some (.pl true (.int (DH one other))), some (.ow true (((List.range n).map fun k => cH sg one other ((k : Nat) : Int) (bE one).toNat).map D.str)), some (.pl true (.int (n : Nat))), some (.pl true (.str (cH sg one other ((n : Nat) : Int) m))), o8, o9] /\ m <= (bE one).toNat)
    (cR (n := bE one) (m := true) (ab 3) (by omega) (by omega) B.range) cD ⟨_, _, rfl, by omega⟩ (by rintro n r ⟨_, _, e, _⟩; subst e; simp) (fun m d r hd ⟨o8, o9, e, hm⟩ => ?_) (fun r ⟨o8, o9, e, hm⟩ => ?_) nd
   . subst e;obtain ⟨hm12, rfl⟩ := bW hd;refine dq 9 (d := .int (part one (((m : Nat) : Int) + 2) (sg.length : Int))) (bf dP hr (au (ab 0) (au (iH (ab 8) aw) (aI (xE (ab 2) hsl B.len)))) ⟨_, _, _, by omega, rfl, rfl⟩) rfl ?_ nd;have hlen := cW sg one other ((n : Nat) : Int) m;refine xb [some (.pl false (.int one)), some (.pl false (.int other)), some (.pl false (.str sg)), some (.pl true (.int (bE one))), some (.pl true (.int (DH one other))), some (.ow true (((List.range n).map fun k => cH sg one other ((k : Nat) : Int) (bE one).toNat).map D.str)), some (.pl true (.int (n : Nat))), some (.pl true (.str (cH sg one other ((n : Nat) : Int) m))), some (.pl true (.int (m : Nat))), some (.pl true (.int (r9 sg one other ((n : Nat) : Int) ((m : Nat) : Int))))]
      (nV (ab 8) (ab 4)) (fun h => ?_) (fun h => ?_) ?_
     . refine dq 9 (iH (ab 9) (ab 6)) rfl ?_ nd;refine aG ?_;unfold r9;rw [if_pos (by simpa using h)];rfl
     . refine aG ?_;unfold r9;rw [if_neg (by simpa using h)];rfl
     . refine dq 7 (x5 (ab 7) (Ea (ab 2) (dG (ab 9) (xE (ab 2) hsl B.len) (by omega)) hsl (C1 h0 _)) (pf (by show _ + 1 <= 1000; omega))) rfl ?_ nd;refine aG ⟨some (.pl true (.int (m : Nat))), some (.pl true (.int (r9 sg one other ((n : Nat) : Int) ((m : Nat) : Int)))), ?_, hm12⟩;rw [sR];rfl
   . subst e;rw [bL];refine d7 5 true rfl (ab 7) rfl (by simp; omega) ?_;refine aG ⟨some (.pl true (.int (n : Nat))), some (.pl true (.str (cH sg one other ((n : Nat) : Int) (bE one).toNat))), o8, o9, ?_, hn5⟩;rw [range_succ, map_append, map_append];rfl
 . rintro r ⟨o6, o7, o8, o9, e, hn⟩;subst e;rw [bL];refine ed (TW.t (xV (wX (ab 3) aw) fun _ => uK (nV (dG (ab 1) aw (by decide)) aw))) (fun h => ?_) (fun h => aG ?_)
   . simp at h;refine bg false (E.cast (ny (m := true) (me := true) ["_law_words_here", "_law_size"] [5, 3] (fun d => match d with | .int k => .str (Txt.slice (cH sg one other 0 (bE one).toNat) none (some (bE one - k))) | d => d) (cR (n := 5) (m := true) aw (by decide) (by decide) B.range)
      (fun C s H fp d hd => ?_) (by rw [bL]; exact pf (by decide))) ?_) rfl
     . obtain ⟨k, _, rfl⟩ := mem_map.mp hd;exact Dv (dH (d := .str (cH sg one other 0 (bE one).toNat)) (ab 1) aw rfl) kg (gm (Eo (ab 2) (ab 0))) (pf (by rw [cW]; omega))
     . unfold bY;rw [if_pos h];simp [aE, bQ, Function.comp_def]
   . refine bg true (E.cast (ab 5) ?_) rfl;unfold bY;rw [if_neg (by simpa using h)];rfl
theorem pC (Fx : fo K "_law_words" "_law_words" gh f fd) (hmg : mg "_law_words" = some (.ref f)) (hb : Binds K fd ["_law_one", "_law_other"] []) (B : g7 mg) (dA : Def P w K mg base 2 "_law_alike" true n6) : Def P w K mg base 3 "_law_words" true tO := by
 refine cP Fx pB hmg hb (by rintro ds d ⟨one, other, e1, e2⟩; subst e1; rfl) ?_;rintro cdv A outer s H Ex Z ds d hr ⟨one, other, e1, e2⟩;subst e1 e2;exact bg false (bf dA hr (au (ab 0) (au (ab 1) (aI cu))) ⟨one, other, kh, by decide, by decide, rfl, rfl⟩) rfl
theorem nW (Fx : fo K "_law_names" "_law_names" fE f fd) (hmg : mg "_law_names" = some (.ref f)) (hb : Binds K fd ["_law_one", "_law_other"] []) (B : g7 mg) (dA : Def P w K mg base 2 "_law_alike" true n6) : Def P w K mg base 3 "_law_names" true uo := by
 refine cP Fx oS hmg hb (by rintro ds d ⟨one, other, e1, e2⟩; subst e1; rfl) ?_;rintro cdv A outer s H Ex Z ds d hr ⟨one, other, e1, e2⟩;subst e1 e2;exact bg false (bf dA hr (au (ab 0) (au (ab 1) (aI cu))) ⟨one, other, y6, by decide, by decide, rfl, rfl⟩) rfl
theorem ri (Fx : fo K "_law_rows" "_law_rows" gL f fd) (hmg : mg "_law_rows" = some (.ref f)) (hb : Binds K fd ["_law_words_here", "_law_cell", "_law_many"] []) (B : g7 mg) : Def P w K mg base 1 "_law_rows" true yF := by
 refine cP Fx jJ hmg hb (by rintro ds d ⟨ws, cell, many, _, _, e1, e2⟩; subst e1; rfl) ?_;rintro cdv A outer s H Ex Z ds d hr ⟨ws, cell, many, h5, hm, e1, e2⟩;subst e1 e2;have nd := jJ.nd;have c0 := Int.emod_nonneg cell (show (65521 : Int) ≠ 0 by decide);have c1 := Int.emod_lt_of_pos cell (show (0 : Int) < 65521 by decide);refine AF 3 (cJ dh) ?_ nd
 cases many with
 | zero =>
  refine ed (b := false) (T.fP (wX (ab 2) aw) rfl) (fun h => by cases h) fun _ => aG ?_;refine cb 4 (ds := bQ 0 0) (fun n r => ∃ o4 o5, r = [some (.pl false (aE ws)), some (.pl false (.int cell)), some (.pl false (.int ((0 : Nat) : Int))), some (.p6 true []), o4, o5]) (cR (n := ((0 : Nat) : Int)) (m := true) (ab 2) (by decide) (by decide) B.range) cD ⟨_, _, rfl⟩ (by rintro n r ⟨_, _, e⟩; subst e; simp) ?_ ?_ nd
  . rintro n d r hd ⟨o4, o5, e⟩;have := (bW hd).1;omega
  . rintro r ⟨o4, o5, e⟩;subst e;exact bg true (E.cast (ab 3) rfl) rfl
 | succ mn =>
  refine ed (b := true) (T.fP (wX (ab 2) aw) (by simp)) (fun _ => ?_) fun h => by cases h
  refine xY 3 (B6 (x9 (cJ dh) An)) (aG ?_) nd;refine cb 4 (ds := bQ 0 (mn + 1)) (fun n r => ∃ o4 o5, r = [some (.pl false (aE ws)), some (.pl false (.int cell)), some (.pl false (.int ((mn + 1 : Nat) : Int))), some (.p6 true (((bM ws cell (mn + 1) n).1.map fun r => r.map D.str) ++ [(bM ws cell (mn + 1) n).2.map D.str])), o4, o5]) (cR (n := ((mn + 1 : Nat) : Int)) (m := true) (ab 2) (by omega) (by omega) B.range) cD ⟨_, _, rfl⟩ (by rintro n r ⟨_, _, e⟩; subst e; simp) ?_ ?_ nd
  . rintro n d r hd ⟨o4, o5, e⟩;subst e;obtain ⟨hn, rfl⟩ := bW hd;obtain ⟨g1, g2, g3⟩ := md h5 cell (mn + 1) n;have hl2 : (bM ws cell (mn + 1) n).2.length <= 20 := by omega
    have hl1 : (bM ws cell (mn + 1) n).1.length <= 20 := by
     have := gO (rows := (bM ws cell (mn + 1) n).1) fun r hr => List.length_pos_iff.mpr (g1 r hr);omega
    have pk := qY (jt cell n);refine dq 5 (d := .int (jt cell n)) (dG (qd (qd (iH (dG (ab 1) aw (by decide)) aw) (iH (ab 4) aw) (.inl ⟨by omega, by omega⟩)) aw (.inr ⟨by decide, by decide⟩)) aw (by decide)) rfl ?_ nd;refine sN 3 (dss := (bM ws cell (mn + 1) n).1.map fun r => r.map D.str) (ds := (bM ws cell (mn + 1) n).2.map D.str) true rfl (DW aw) (dH (d := .str (B9 ws cell n)) (i := gD (jt cell n)) (ab 0) (dH (cJ (au aw (au aw (au aw (au aw (au aw (au aw (au aw (aI aw))))))))) (dG (ab 5) aw (by decide)) (yo _)) ?_) rfl (by simp; omega) ?_
    . have e : gD (jt cell n) = (((gD (jt cell n)).toNat : Nat) : Int) := by omega
      rw [e];exact cB (wH (by omega))
    . refine ed (TW.t (xV (nV (dG (n4 (ab 5) aw ⟨by decide, by decide⟩) aw (by decide)) aw) fun _ => uK (Ba (iH (ab 4) aw) (ab 2)))) (fun h => ?_) (fun h => aG ?_)
      . refine qZ 3 true rfl (cJ dh) (by simp; omega) ?_;refine aG (aG ⟨some (.pl true (.int (n : Nat))), some (.pl true (.int (jt cell n))), ?_⟩);have hc : jt cell n / 8 % 4 = 0 /\ n + 1 < mn + 1 := by simp at h; exact ⟨h.1, by omega⟩
        rw [show bM ws cell (mn + 1) (n + 1) = ((bM ws cell (mn + 1) n).1 ++ [(bM ws cell (mn + 1) n).2 ++ [B9 ws cell n]], []) from by rw [bM, if_pos hc]];simp [List.set]
      . refine aG ⟨some (.pl true (.int (n : Nat))), some (.pl true (.int (jt cell n))), ?_⟩;have hc : ¬ (jt cell n / 8 % 4 = 0 /\ n + 1 < mn + 1) := fun z => by simp at h; have := h z.1; omega
        rw [show bM ws cell (mn + 1) (n + 1) = ((bM ws cell (mn + 1) n).1, (bM ws cell (mn + 1) n).2 ++ [B9 ws cell n]) from by rw [bM, if_neg hc]];simp [List.set]
  . rintro r ⟨o4, o5, e⟩;subst e;refine bg true (E.cast (ab 3) ?_) rfl;rw [bL];unfold dD;rw [if_neg (by omega)];simp [bu, aE]
theorem qP (Fx : fo K "_law_text" "_law_text" gH f fd) (hmg : mg "_law_text" = some (.ref f)) (hb : Binds K fd ["_law_rows_here", "_law_cell"] []) (B : g7 mg) : Def P w K mg base 1 "_law_text" true yu := by
 refine cP Fx jQ hmg hb (by rintro ds d ⟨rows, c, _, _, _, e1, e2⟩; subst e1; rfl) ?_;rintro cdv A outer s H Ex Z ds d hr ⟨rows, c, hg, h14, ht, e1, e2⟩;subst e1 e2;have nd := jQ.nd;have hrl := eM hg;obtain ⟨_, _, _, gl⟩ := pT c;obtain ⟨_, _, _, sl⟩ := tm c;obtain ⟨_, _, tl⟩ := yy c;refine dq 2 (d := .str (dU c)) (dH (cJ (au cu (au cu (au cu (aI cu))))) (dG (ab 1) aw (by decide)) (BK c)) rfl ?_ nd;refine kO 3 (d := aE (rows.map (Txt.join (dU c)))) (EC.cast (sL (m := true) (me := true) ["_law_gap"] [2] (fun d => match d with | .lst ds => .str (Txt.join (dU c) (ds.map CJ)) | d => d) (cC (ab 0)) (fun Cx sx Hx fp d hd => ?_) (by rw [length_map]; exact cE (by omega))) ?_) ?_ nd
 . obtain ⟨r, hr', rfl⟩ := mem_map.mp hd;have h1 := lQ (h14 r hr');have h2 := tW hr';refine E.cast (rS (zs := r) (ab 1) (ab 0) (by omega) (by omega)) ?_;show D.str _ = D.str (Txt.join (dU c) ((r.map D.str).map CJ));rw [uz]
 . unfold aE;rw [map_map, map_map];congr 1;refine map_congr_left fun r _ => ?_;show D.str (Txt.join (dU c) ((r.map D.str).map CJ)) = D.str _;rw [uz]
 have lens : ∀ r ∈ rows, (Txt.join (dU c) r).length <= 320 := fun r hr' => by
  have h1 := hX (h14 r hr') c;have h2 := tW hr';omega
 refine xb [some (.pl false (bu rows)), some (.pl false (.int c)), some (.pl true (.str (dU c))), some (.pl true (aE (rows.map (ei c))))] (nV (dG (n4 (ab 1) aw ⟨by decide, by decide⟩) aw (by decide)) aw) (fun h => ?_) (fun h => ?_) ?_
 . have h : c / 4 % 2 = 1 := by simpa using h
   refine kO 3 (d := aE (rows.map (ei c))) (EC.cast (sL (m := true) (me := true) [] [] (fun d => match d with | .str x => .str (Txt.upper x) | d => d) (cC (ab 3)) (fun Cx sx Hx fp d hd => ?_) (by rw [length_map, length_map]; exact cE (by omega))) ?_) (aG rfl) nd
   . obtain ⟨x, hx, rfl⟩ := mem_map.mp hd;obtain ⟨r, hr', rfl⟩ := mem_map.mp hx;exact A7 (ab 0) (by have := lens r hr'; omega)
   . unfold aE;rw [map_map, map_map, map_map];congr 1;refine map_congr_left fun r _ => ?_;simp [Function.comp, ei, h]
 . have h : ¬ c / 4 % 2 = 1 := by simpa using h
   refine aG ?_;have e : ei c = Txt.join (dU c) := by funext r; simp [ei, h]
   rw [e];rfl
 . have h2 := mY hg h14 c;have h3 := nK hg h14 c;refine bg false (m1 := true) (x5 (rS (zs := rows.map (ei c)) (dH (d := .str (jZ c)) (cJ (au cu (au cu (aI cu)))) (dG (n4 (ab 1) aw ⟨by decide, by decide⟩) aw (by decide)) (CQ c)) (ab 3) (by omega) (by rw [length_map]; omega)) (dH (d := .str (Al c)) (cJ (au cu (au cu (au cu (aI cu))))) (dG (n4 (ab 1) aw ⟨by decide, by decide⟩) aw (by decide)) (Ep c)) ?_) rfl;have h4 : (Txt.join (jZ c) (rows.map (ei c))).length + (Al c).length = (hV rows c).length := by
    unfold hV;rw [<- bJ, <- bJ, <- bJ, bO, List.length_append]
   rw [h4];exact cE (by omega)
theorem kM (Fx : fo K "_law_numbers" "_law_numbers" eK f fd) (hmg : mg "_law_numbers" = some (.ref f)) (hb : Binds K fd ["_law_places", "_law_name"] []) (B : g7 mg) : Def P w K mg base 1 "_law_numbers" true nE := by
 refine cP Fx mf hmg hb (by rintro ds d ⟨Tt, n, _, e1, e2⟩; subst e1; rfl) ?_;rintro cdv A outer s H Ex Z ds d hr ⟨Tt, n, hT, e1, e2⟩;subst e1 e2;have hlen : (aN Tt).length = eA (d5 Tt) := by unfold aN; rw [length_map, cZ]
 have ht := hT.eA;refine bg false (E.cast (sG (m := true) (me := true) ["_law_places", "_law_name"] [0, 1] (fun d => match d with | .int k => decide (((aN Tt).getD k.toNat ("", 0, 0)).1 = n) | _ => false) (fun d => d) (cR (n := (((aN Tt).map dy).length : Int)) (m := true) (kS (ab 0) B.len) (by rw [length_map]; omega) (by rw [length_map]; omega) B.range) (fun Cx sx Hx fp d hd => ?_) (fun Cx sx Hx fp d hd _ => ?_) ?_) ?_) rfl
 . obtain ⟨i, hi, rfl⟩ := mem_map.mp hd;have hi : i < (aN Tt).length := by simpa [bQ] using hi
   refine rO (T.fP (Bh (i := ((aN Tt).getD i ("", 0, 0)).1) (j := n) (gF (d := .str ((aN Tt).getD i ("", 0, 0)).1) (dH (d := dy ((aN Tt).getD i ("", 0, 0))) (i := ((i : Nat) : Int)) (ab 1) (E.cast (ab 0) (by simp)) (cB ?_)) aw rfl) (ab 2)) ?_)
   . simp [hi]
   . simp
 . obtain ⟨i, _, rfl⟩ := mem_map.mp hd;exact E.flat (ab 0) rfl
 . rw [bL]; exact cE (by rw [length_map]; omega)
 . rw [gK];unfold bQ;rw [filter_map, map_map, map_map];simp [Function.comp_def]
theorem iJ (Fx : fo K "_law_is_numbers" "_law_is_numbers" cV f fd) (hmg : mg "_law_is_numbers" = some (.ref f)) (hb : Binds K fd ["_law_answer", "_law_due"] []) (B : g7 mg) : Def P w K mg base 1 "_law_is_numbers" true lD := by
 refine cP Fx eC hmg hb (by rintro ds d ⟨ns, _, e1, e2⟩; subst e1; rfl) ?_;rintro cdv A outer s H Ex Z ds d hr ⟨ns, hl, e1, e2⟩;subst e1 e2;have nd := eC.nd;refine ed (b := false) (T.fP (rn (kP (nH (ab 0) rfl boot_list B.isinstance B.list))) rfl) (fun h => by cases h) fun _ => aG ?_;refine cb 2 (ds := ns.map D.int) (fun n r => ∃ o2, r = [some (.pl false (.lst (ns.map D.int))), some (.pl false (.lst (ns.map D.int))), o2]) (cC (ab 0)) (fun d hd => by obtain ⟨i, _, rfl⟩ := mem_map.mp hd; rfl) ⟨_, rfl⟩ (by rintro n r ⟨_, e⟩; subst e; simp) ?_ ?_ nd
 . rintro n d r hd ⟨o2, e⟩;subst e;obtain ⟨i, _, rfl⟩ := mem_map.mp (mem_of_getElem? hd);exact ed (b := false) (T.fP (TW.t (qy (rn (kP (nH (ab 2) rfl boot_int B.isinstance B.int))) fun _ => pV (kP (nH (ab 2) rfl boot_bool B.isinstance B.bool)))) rfl) (fun h => by cases h) fun _ => aG (aG ⟨_, rfl⟩)
 . rintro r ⟨o2, e⟩;subst e;exact bg false (E.cast (Be (ab 0) (ab 1) rfl (jN hr (rE ns))) (congrArg D.bl (bw (BA ns)))) rfl
def vE (st : Stmt) (n : Nat) : List (Str × NameKind) := match ((aY st)[n]? : Option Stmt) with
 | some (.Return (some (.Call _ _ [⟨_, .Lambda _ _ sc _, _⟩] _)) _) => sc.names
 | _ => []
theorem mN {f c Pt : Addr} {fd : FuncData} (Fx : oU K "_law_sorted" "_law_sorted" cO f fd c) (LK : oq K mg base c Pt "_law_sorted.<locals>.<lambda>") (B : g7 mg) : bR P w K mg base fS 6 f fd ["_law_texts"] (pF K true yT) := by
 refine Dn Fx gE (by rintro ds d ⟨Tt, b, h, e1, e2⟩; subst e1; rfl) fun A outer s H Ex Z ds d hr ⟨Tt, b, hT, e1, e2⟩ => ?_;subst e1 e2;have nd := gE.nd;have hu := iM hr;have hpl := oy hT.nd;have htot := hT.eA;have hrows := hT.rows;have hkd : ((cS Tt).map (·.1)).map kD = Tt.map fun q => D.str q.1 := by
  rw [ef, map_map, map_map];rfl
 refine jd 1 (cJ dh) rfl ?_ nd;refine cb 2 (ds := ((cS Tt).map (·.1)).map kD) (fun n r => ∃ o2 o3 o4, r = [some (er (.agg (.f b ((cS Tt).map (·.1))) ((cS Tt).map (·.2)))), some (.ow true ((du Tt n 0 0).map dy)), o2, o3, o4])
  (BD (aQ 0)) (fun d hd => by rw [hkd] at hd; obtain ⟨q, _, rfl⟩ := mem_map.mp hd; rfl) ⟨_, _, _, by simp [du]; rfl⟩ (by rintro n r ⟨_, _, _, e⟩; subst e; simp) ?_ ?_ nd
 . rintro n d r hd ⟨o2, o3, o4, e⟩;subst e;rw [hkd, getElem?_map] at hd
   cases hq : Tt[n]? with
   | none => rw [hq] at hd; cases hd
   | some q =>
    rw [hq] at hd;cases hd;have hqm := mem_of_getElem? hq;have hx : q.1 ∈ Tt.map (·.1) := mem_map.mpr ⟨q, hqm, rfl⟩;have hrw := fq hT.nd hqm;obtain ⟨j, k1, k2⟩ := iV hT.nd hx;rw [hrw] at k2;have k1' : (Sh.f b ((cS Tt).map (·.1))).key (.str q.1) (some j) := k1;have hql := tJ hT.nd hqm;refine cb 3 (ds := bQ 0 (q.2.map aE).length) (fun m r => ∃ o3 o4, r = [some (er (.agg (.f b ((cS Tt).map (·.1))) ((cS Tt).map (·.2)))), some (.ow true ((du Tt n m 0).map dy)), some (.pl true (.str q.1)), o3, o4])
     (cR (n := ((q.2.map aE).length : Int)) (m := true) (kS (iW (d := bu q.2) (aQ 0 (d := .agg (.f b ((cS Tt).map (·.1))) ((cS Tt).map (·.2)))) (ab 2) k1' k2 rfl hu) B.len) (by rw [length_map]; omega) (by omega) B.range) cD ⟨_, _, rfl⟩ (by rintro n r ⟨_, _, e⟩; subst e; simp) (fun m d r hd ⟨o3, o4, e⟩ => ?_) (fun r ⟨o3, o4, e⟩ => ?_) nd
    . subst e;obtain ⟨hm, rfl⟩ := bW hd;rw [length_map] at hm;have hrow : q.2[m]? = some q.2[m] := by simp [hm]
      generalize q.2[m] = row at hrow;have hrl := yZ hT.nd hqm hrow;refine cb 4 (ds := bQ 0 (row.map D.str).length) (fun a r => ∃ o4, a <= row.length /\ r = [some (er (.agg (.f b ((cS Tt).map (·.1))) ((cS Tt).map (·.2)))), some (.ow true ((du Tt n m a).map dy)), some (.pl true (.str q.1)), some (.pl true (.int (m : Nat))), o4])
       (cR (n := ((row.map D.str).length : Int)) (m := true) (kS (dH (d := aE row) (iW (d := bu q.2) (aQ 0 (d := .agg (.f b ((cS Tt).map (·.1))) ((cS Tt).map (·.2)))) (ab 2) k1' k2 rfl hu) (ab 3) (cB (by rw [getElem?_map, hrow]; rfl))) B.len) (by rw [length_map]; omega) (by omega) B.range) cD ⟨_, by omega, rfl⟩ (by rintro n r ⟨_, _, e⟩; subst e; simp) (fun a d r hd ⟨o4, ha, e⟩ => ?_) (fun r ⟨o4, ha, e⟩ => ?_) nd
      . subst e;obtain ⟨ha2, rfl⟩ := bW hd;rw [length_map] at ha2;have hlen := wa hq hrow ha;refine d7 1 true rfl (lH (au (ab 2) (au (ab 3) (aI (ab 4))))) rfl (by rw [length_map]; omega) ?_;refine aG ⟨some (.pl true (.int (a : Nat))), ha2, ?_⟩;rw [sD, hq, map_append];rfl
      . subst e;refine aG ⟨some (.pl true (.int (m : Nat))), o4, ?_⟩;rw [bL, length_map, v8 hq hrow]
    . subst e;refine aG ⟨some (.pl true (.str q.1)), o3, o4, ?_⟩;rw [bL, length_map, tD hq]
 . rintro r ⟨o2, o3, o4, e⟩;subst e;have hl : (((cS Tt).map (·.1)).map kD).length = Tt.length := by simp [cS]
   rw [hl, wo];refine bg false (E.cast (nJ (ds := (p7 Tt).map dy) (g := A3 Tt) (P := pZ) (P0 := fun d => ∃ t, d = dy t /\ t ∈ p7 Tt) (caps := [("_law_texts", 0)]) (pn := "_law_place") (c := c) (Pt := Pt) (qn := "_law_sorted.<locals>.<lambda>") (clos := [("_law_texts", s.heap.objs.size + 1)]) (m := true) (m1 := false) (mb := false) (ab 1) ?LC ?LO ?cl ?body ?b p8 uW ?hP ?inj ?len ?hh ?room ?so ?fl) ?c) rfl
   case c => rw [qF hT.nd]
   case LC => exact oq.cx LK rfl rfl
   case LO =>
    refine ⟨rfl, rfl, rfl, by decide +kernel, rfl, fun q hq => ?_, fun x c h => h, fun x hx => ?_⟩
    . have : q = (("_law_texts" : Str), 0) := by simpa using hq
      subst this;exact ⟨rfl, rfl, rfl, rfl⟩
    . have h := (by decide +kernel : ∀ q ∈ vE cO 2, q.2 = NameKind.free -> q.1 = ("_law_texts" : Str)) _ (PySem.mem_of_lookup hx) rfl;have h' : x = ("_law_texts" : Str) := h;subst h';exact ⟨_, rfl⟩
   case cl => rfl
   case b => exact fun _ _ _ _ => rfl
   case body =>
    rintro f' c' s' H' R d ⟨t, rfl, ht⟩;rw [dM];obtain ⟨h1, h2⟩ := zL hT.nd ht;obtain ⟨j, k1, k2⟩ := iV hT.nd h1;have k1' : (Sh.f b ((cS Tt).map (·.1))).key (.str t.1) (some j) := k1;refine E.cast (lH (au (wV (m := false) (ds := ((mC Tt t.1).getD t.2.1 []).map D.str) (dH (d := aE ((mC Tt t.1).getD t.2.1 [])) (iW (d := bu (mC Tt t.1)) (aQ 1 (d := .agg (.f b ((cS Tt).map (·.1))) ((cS Tt).map (·.2)))) (gF (d := .str t.1) (ab 0) aw rfl) k1' k2 rfl (iM (((hr.in1).in1).deeper _))) (gF (d := .int (t.2.1 : Nat)) (ab 0) aw rfl) (cB ?_)) (gm (gF (d := .int (t.2.2 : Nat)) (ab 0) aw rfl)) kg) (aI (ab 0)))) ?_
    . simp [h2]
    . rw [kN];simp [oQ, yk, aE]
   case hP =>
    intro d hd;obtain ⟨t, ht, rfl⟩ := mem_map.mp hd;rw [dM];exact ⟨⟨t, rfl, ht⟩, ⟨_, t, rfl⟩, wO hr⟩
   case inj =>
    intro x hx y hy e;obtain ⟨p, _, rfl⟩ := mem_map.mp hx;obtain ⟨q, _, rfl⟩ := mem_map.mp hy;rw [dM, dM] at e;unfold oQ at e;injection e with e;injection e with _ e;injection e with e _
   case len => rw [length_map, hpl]; exact htot
   case hh => exact hr.hd
   case room => exact hr.depth
   case so => exact B.sorted
   case fl => exact fun _ => .inr (jo (fun _ => rfl) _)
theorem mT {f c Pt : Addr} {fd : FuncData} (Fx : oU K "_law_sorted" "_law_sorted" cO f fd c) (LK : oq K mg base c Pt "_law_sorted.<locals>.<lambda>") (hmg : mg "_law_sorted" = some (.ref f)) (hb : Binds K fd ["_law_texts"] []) (B : g7 mg) : Ah P w K mg base 6 "_law_sorted" true kZ := by
 refine ⟨f, fd, _, bR.frozen (mN (P := P) (w := w) Fx LK B) (Fe fun ds d ⟨Tt, hT, e1, e2⟩ => ?_), hmg, Fx.fn.kp, hb⟩;subst e1 e2;refine ⟨_, _, rfl, fun d hd => ?_, ?_, fun b => ⟨Tt, b, hT, rfl, rfl⟩⟩
 . obtain ⟨x, hx, rfl⟩ := mem_map.mp hd;obtain ⟨q, _, rfl⟩ := mem_map.mp hx;exact ⟨AE _, rfl⟩
 . unfold D.ld;exact ko fun d hd => by obtain ⟨t, _, rfl⟩ := mem_map.mp hd; exact DK t
end
def Bf (Tt : Tx) : List D := [.tup [.lst ((aN Tt).map dy), .lst ((aN Tt).map dy)], .tup [aE (kG Tt), aE (kG Tt)]]
def FO (C : Addr) (os : List (Option D)) (ds ds' : List D) : Prop := ∃ (Tt : Tx) (cell : Int), ud Tt /\ ds.length < 900 /\ os = [some (gN C (fc Tt)), some (jK Tt).d, none, some (.int cell)] /\ ds' = ds ++ Bf Tt
section
variable {P : Program} {w : World} {K : Frag} {mg : GN} {base : Heap} {f : Addr} {fd : FuncData}
theorem mO {f C : Addr} {fd : FuncData} (Fx : fo K "_law_looked" "_law_looked" dJ f fd) (B : g7 mg) (TC : eX K mg "Book" C wx) (dS : Ah P w K mg base 6 "_law_sorted" true kZ) (dE : eU P w K mg base 2 C "ends" true (pH C)) (dN : eU P w K mg base 1 C "names" true (pA C)) (dR : eU P w K mg base 2 C "rows" true (wJ C)) : bR P w K mg base fS 7 f fd ["_law_book", "_law_texts", "_law_held", "_law_cell"] (Ei K (FO C)) := by
 refine GB 2 Fx gC (fun os ds ds' ⟨Tt, cell, _, _, e1, e2⟩ => by
  subst e1;refine ⟨rfl, rfl, fun j hj => ?_⟩;rcases j with _ | _ | _ | _ | j <;> first | rfl | cases hj) fun cdv A outer s H Ex F l W os ds ds' hr ⟨Tt, cell, hT, hds, e1, e2⟩ => ?_
 subst e1 e2;have nd := gC.nd;have htot := hT.eA;have hrows := hT.rows;have hlen : (aN Tt).length = eA (d5 Tt) := by unfold aN; rw [length_map, cZ]
 have fl : aV ((aN Tt).map dy) = true := jo (fun _ => rfl) _;have nml : (kG Tt).length = Tt.length := by rw [(gc Tt).length_eq, length_map]
 have hfew := hT.few;have dep1 : (D.lst ((aN Tt).map dy)).dep <= 2 := by
  refine iE (n := 1) fun d hd => ?_;obtain ⟨t, _, rfl⟩ := mem_map.mp hd;simp [dy, D.dep, b0]
 refine eD 4 (pQ dS hr (dX (aQ 1 (d := (jK Tt).d))) ⟨Tt, hT, rfl, rfl⟩) ?_ nd;refine eD 5 (eB dE TC.cl (hr.mono (by decide)) (aQ 0 (d := gN C (fc Tt))) (cF rfl) ⟨Tt, hT, rfl, rfl⟩) ?_ nd;refine ed (b := false) (T.fP (TW.t (qy (rn (kP (nH (ab 5) rfl boot_list B.isinstance B.list))) fun _ => qy (rn (kP (Br (bs := (aN Tt).map fun _ => true) (E.cast (ny (m := true) (me := true) [] [] (fun _ => .bl true) (cC (ab 5)) (fun Cx sx Hx fp d hd => ?_) (by rw [length_map]; exact cE (by omega))) ?_) hr.hd B.all))) fun _ => pV (nI (ab 5) (ab 4) rfl (jN hr dep1)))) ?_) (fun h => by cases h) fun _ => aG ?_
 . obtain ⟨t, _, rfl⟩ := mem_map.mp hd;exact nH (ab 0) rfl boot_tuple B.isinstance B.tuple
 . rw [map_map, map_map];rfl
 . rw [bw];simp
 refine uQ 2 rfl (uk (xW (ab 5)) (xW (ab 4))) (by omega) ?_;refine eD 6 (eB dN TC.cl (hr.mono (by decide)) (aQ 0 (d := gN C (fc Tt))) (cF rfl) ⟨fc Tt, Tt, rfl, hT.few, rfl, rfl⟩) ?_ nd;have eS : ∀ {ρ : List (Option D)} {pos p pp : Pos}, ρ[1]? = some (some (jK Tt).d) -> E (h9 fS P w K mg base ["_law_book", "_law_texts", "_law_held", "_law_cell", "_law_places", "_law_answer", "_law_names_here", "_law_name", "_law_rows_here", "_law_more"] "_law_looked" (af dJ) f cdv A outer s H Ex).uj true ρ (.Call (.Name "sorted" p) [.Name "_law_texts" pp] [] pos) (aE (kG Tt)) := fun hρ => by
  refine E.cast (lU (b := ⟨.none, none, .plain, #[]⟩) (.inl rfl) (aQ 1 (d := (jK Tt).d) hρ) cL qV (fun k hk => ?_) ?_ hr.hd B.sorted) ?_
  . rw [ef] at hk;obtain ⟨x, _, rfl⟩ := mem_map.mp hk;exact ⟨⟨x, rfl⟩, nh hr⟩
  . simpa [cS] using hfew
  . unfold aE;rw [yz, ef, map_map, map_map];rfl
 refine uQ 2 rfl (uk (xW (ab 6)) (Co (eS rfl))) (by simp; omega) ?_;refine ed (b := false) (T.fP (TW.t (qy (nI (ab 6) (eS rfl) rfl (jN hr (fD _))) fun _ => pV (rn (kP (nH (ab 6) rfl boot_list B.isinstance B.list))))) ?_) (fun h => by cases h) fun _ => aG ?_
 . rw [bw];rfl
 refine cb 7 (ds := (kG Tt).map D.str) (fun n r => ∃ o7 o8 o9, r = [some (er (gN C (fc Tt))), some (er (jK Tt).d), some (.gen (CV l W (ds ++ Bf Tt))), some (.pl false (.int cell)), some (.pl true (.lst ((aN Tt).map dy))), some (.pl true (.lst ((aN Tt).map dy))), some (.pl true (aE (kG Tt))), o7, o8, o9])
  (cC (ab 6)) wq ⟨_, _, _, by simp [Bf]; rfl⟩ (by rintro n r ⟨_, _, _, e⟩; subst e; simp) ?_ ?_ nd
 . rintro n d r hd ⟨o7, o8, o9, e⟩;subst e;rw [getElem?_map] at hd
   cases hq : (kG Tt)[n]? with
   | none => rw [hq] at hd; cases hd
   | some x =>
    rw [hq] at hd;cases hd;have hx : x ∈ Tt.map (·.1) := (gc Tt).mem_iff.mp (mem_of_getElem? hq);obtain ⟨q, hqm, rfl⟩ := mem_map.mp hx;have hrw := fq hT.nd hqm;have hql := tJ hT.nd hqm;obtain ⟨j, k1, k2⟩ := iV hT.nd hx;rw [hrw] at k2;refine Ez 8 (d := bu q.2) (E.cast (i5 dR TC.cl (hr.mono (by decide)) (aQ 0 (d := gN C (fc Tt))) (cF rfl) (dX (E.eg (ab 7))) ⟨Tt, q.1, hT, hx, by rw [hrw]; omega, rfl, rfl⟩) (by rw [hrw])) ?_ nd;refine ed (b := false) (T.fP (nI (ab 8) (iW (d := bu q.2) (aQ 1 (d := (jK Tt).d)) (ab 7) k1 k2 rfl (iM hr)) rfl (jN hr (yN _))) (by rw [bw]; rfl)) (fun h => by cases h) fun _ => aG ?_;refine ed (nV (dG (ab 3) aw (by decide)) aw) (fun h => ?_) (fun h => aG (aG ⟨_, _, _, rfl⟩));refine zk 8 rfl ?_;refine pM 8 rfl (fun d hd => ⟨q.2.map aE, hd, by rw [length_map]; omega⟩) (cJ (aI cu)) ?_;refine qQ 8 (dw := .str "more") rfl (fun d hd => ?_) cu (aG (aG ⟨_, _, _, rfl⟩));obtain ⟨ds1, es, e1, e2, rfl⟩ := hd;have hrl : ∀ r ∈ q.2, r.length <= 100 := fun r hr' => by
     obtain ⟨m, hm⟩ := List.getElem?_of_mem hr';have := yZ hT.nd hqm hm;omega
    cases e1;generalize q.2 = rows at e2 hrl
    cases rows with
    | nil =>
     have : es = [] := oX.mp e2;subst this;exact ⟨[.str "more"], dH (d := .lst [.str "more"]) (ab 8) aw rfl, by decide⟩
    | cons row rs =>
     obtain ⟨e, r, rfl, g1, g2⟩ := lh.mp e2;obtain ⟨es2, g3, g4⟩ := rM.mp g1;have hl := t7 g3;have hr0 := hrl row (by simp);rcases g4 with rfl | rfl
     . exact ⟨es2, dH (d := .lst es2) (ab 8) aw (qv _ _), by rw [<- hl, length_map]; omega⟩
     . exact ⟨es2 ++ [.lst [.str "more"]], dH (d := .lst (es2 ++ [.lst [.str "more"]])) (ab 8) aw (qv _ _), by rw [List.length_append, <- hl, length_map]; simp; omega⟩
 . rintro r ⟨o7, o8, o9, e⟩;subst e;refine jd 9 (eB dE TC.cl (hr.mono (by decide)) (aQ 0 (d := gN C (fc Tt))) (cF rfl) ⟨Tt, hT, rfl, rfl⟩) fl ?_ nd;refine BN 9 true rfl ?_;refine d7 9 true rfl (lH (au cu (au aw (aI aw)))) rfl (by rw [List.length_reverse, length_map]; omega) ?_;refine tp (eB dN TC.cl (hr.mono (by decide)) (aQ 0 (d := gN C (fc Tt))) (cF rfl) ⟨fc Tt, Tt, rfl, hT.few, rfl, rfl⟩) cu (by rw [length_map]; omega) ?_;exact zU rfl FJ
theorem CT {f C fI fL : Addr} {fd fdI fdL : FuncData} (Fx : fo K "law" "law" iD f fd) (B : g7 mg) (dC : Def P w K mg base 1 "_law_cell_at" true t6) (dP : Def P w K mg base 1 "_law_part" true xh) (dW : Def P w K mg base 3 "_law_words" true tO) (dNm : Def P w K mg base 3 "_law_names" true uo) (dRo : Def P w K mg base 1 "_law_rows" true yF) (dTx : Def P w K mg base 1 "_law_text" true yu)
 (dS : Ah P w K mg base 6 "_law_sorted" true kZ) (dNu : Def P w K mg base 1 "_law_numbers" true nE) (dIs : Def P w K mg base 1 "_law_is_numbers" true lD) (Lk : bR P w K mg base fS 7 fL fdL ["_law_book", "_law_texts", "_law_held", "_law_cell"] (Ei K (FO C))) (Lm : mg "_law_looked" = some (.ref fL)) (Lb : Binds K fdL ["_law_book", "_law_texts", "_law_held", "_law_cell"] []) (Lp : keepIn K (.ref fL) = true)
 (TC : eX K mg "Book" C wx) (M : Mk K C fI) (FI : bR P w K mg base fS 8 fI fdI ["self"] (Cg K C Bd)) (bI : Binds K fdI ["self"] []) (dPut : mz P w K mg base 8 C "put" DF) (dTake : mz P w K mg base 8 C "take" Bw) (dN : eU P w K mg base 1 C "names" true (pA C)) (dE : eU P w K mg base 2 C "ends" true (pH C)) : bR P w K mg base fS 11 f fd ["_law_script"] (De K false CH) := by
 refine Gh Fx yK (by rintro ds d ⟨ns, hl, e1, e2⟩; subst e1; rfl) ?_;rintro cdv A outer s H Ex Z ds d hr ⟨ns, hl, e1, e2⟩;subst e1 e2;have nd := yK.nd;have hr1 : bo 1 _ := hr.mono (show 1 <= 10 by decide);have hr3 : bo 3 _ := hr.mono (show 3 <= 10 by decide);have hu := iM hr;refine eD 1 (d := aE (bY kh (cellAt ns 0) (cellAt ns 1))) (bf dW hr3 (au (bf dC hr1 (au (ab 0) (aI aw)) ⟨ns, 0, by omega, rfl, rfl⟩) (aI (bf dC hr1 (au (ab 0) (aI aw)) ⟨ns, 1, by omega, rfl, rfl⟩))) ⟨_, _, rfl, rfl⟩) ?_ nd;refine eD 2 (d := aE (bY y6 (cellAt ns 2) (cellAt ns 3))) (bf dNm hr3 (au (bf dC hr1 (au (ab 0) (aI aw)) ⟨ns, 2, by omega, rfl, rfl⟩) (aI (bf dC hr1 (au (ab 0) (aI aw)) ⟨ns, 3, by omega, rfl, rfl⟩))) ⟨_, _, rfl, rfl⟩) ?_ nd;have hw5 := lV kh (cellAt ns 0) (cellAt ns 1);have hwW : ∀ x ∈ bY kh (cellAt ns 0) (cellAt ns 1), uy x := fun x hx => rW hx;have hw14 : ∀ x ∈ bY kh (cellAt ns 0) (cellAt ns 1), x.length <= 14 := fun x hx => vM hx;have hn5 := lV y6 (cellAt ns 2) (cellAt ns 3);generalize bY kh (cellAt ns 0) (cellAt ns 1) = ws at hw5 hwW hw14;generalize bY y6 (cellAt ns 2) (cellAt ns 3) = nm at hn5;refine rB 3 M FI (hr.mono (by decide)) rfl TC.mg bI ⟨rfl, rfl, rfl, rfl⟩ ?_ nd;refine rB 4 M FI (hr.mono (by decide)) rfl TC.mg bI ⟨rfl, rfl, rfl, rfl⟩ ?_ nd;refine v7 5 false ?_ nd;refine jd 6 (cJ dh) rfl ?_ nd;refine Ck 6 rfl ?_;have hcut : ((cut (ns.map D.int) (some 4) (some 24))) = (cut ns (some 4) (some 24)).map D.int := by
  unfold cut;rw [length_map, List.map_take, List.map_drop]
 have hcl : (cut ns (some 4) (some 24)).length <= 63 := by
  unfold cut;rw [length_take, length_drop];omega
 refine cb 7 (ds := (cut ns (some 4) (some 24)).map D.int) (fun n r => ∃ (Tt : Tx) (hs : List D) (o7 o8 o9 o10 : Option Slot), r = [some (.pl false (.lst (ns.map D.int))), some (.pl true (aE ws)), some (.pl true (aE nm)), some (.gen (gB none C (fc Tt))), some (.gen (gB none C (fc []))), some (.gen (x8 false (.k ((cS Tt).map (·.1))) ((cS Tt).map (·.2)))), some (.ow false hs), o7, o8, o9, o10] /\ GT nm Tt /\ hs.length <= 3 * n /\ n <= 63 /\ ∀ d ∈ hs, qm d)
  (cC (E.cast (wV (m := true) (ab 0) (gm aw) (gm aw) (fun _ => .inr (by rw [hcut]; exact df _))) (by rw [hcut]))) (fun d hd => by obtain ⟨i, _, rfl⟩ := mem_map.mp hd; rfl) ⟨[], [], _, _, _, _, rfl, BL nm, by simp, by omega, fun d hd => by cases hd⟩ (by rintro n r ⟨_, _, _, _, _, _, e, _⟩; subst e; simp) ?_ ?_ nd
 . rintro n d r hd ⟨Tt, hs, o7, o8, o9, o10, e, g, hsl, hn63, hh⟩;subst e;have hnlt : n < 63 := by
    have := (List.getElem?_eq_some_iff.mp hd).1;rw [length_map] at this;omega
   obtain ⟨c, _, rfl⟩ := mem_map.mp (mem_of_getElem? hd);have p0 := oK c 5 (show (0 : Int) < 5 by decide);have p1 := oB c 5 (show (0 : Int) < 5 by decide);have q0 := oK c 6 (show (0 : Int) < 7 by decide);have q1 := oB c 6 (show (0 : Int) < 7 by decide);have hT := g.ok hn5;obtain ⟨x, hx, hxm⟩ : ∃ x, nm[(part c 5 5).toNat]? = some x /\ x ∈ nm := by
    have : (part c 5 5).toNat < nm.length := by omega
    exact ⟨nm[(part c 5 5).toNat], by simp [this], getElem_mem this⟩
   have hxa : jB (nm.map D.str) (part c 5 5) = some (.str x) := by
    have e : part c 5 5 = (((part c 5 5).toNat : Nat) : Int) := by omega
    have h1 : (nm.map D.str)[(part c 5 5).toNat]? = some (.str x) := by rw [getElem?_map, hx]; rfl
    have h2 := cB h1
    rwa [<- e] at h2
   refine dq 8 (d := .str x) (dH (i := part c 5 5) (ab 2) (bf dP hr1 (au (ab 7) (au aw (aI aw))) ⟨_, _, _, by decide, rfl, rfl⟩) hxa) rfl ?_ nd;refine B2 (b := decide (x ∈ Tt.map (·.1))) (fun r => ∃ (T' : Tx) (is : List Int), r = [some (.pl false (.lst (ns.map D.int))), some (.pl true (aE ws)), some (.pl true (aE nm)), some (.gen (gB none C (fc T'))), some (.gen (gB none C (fc []))), some (.gen (x8 false (.k ((cS T').map (·.1))) ((cS T').map (·.2)))), some (.ow false hs), some (.pl true (.int c)), some (.pl true (.str x)), some (.pl true (.lst (is.map D.int))), some (.ow true (is.map D.int))] /\ GT nm T' /\ is.length < 64) ?cond (fun hb => ?br1) (fun hb => ?br2) (fun r ⟨T', is, e, g', hi⟩ => ?rest)
   case cond =>
    by_cases hin : x ∈ Tt.map (·.1)
    . obtain ⟨j, hj⟩ := ug hin;exact T.fP (xP (j := some j) (ab 8) (aQ 5 (d := (jK Tt).d)) hj hu) (by simp only [hin, decide_true]; rfl)
    . exact T.fP (xP (j := none) (ab 8) (aQ 5 (d := (jK Tt).d)) (qz hin) hu) (by simp only [hin, decide_false]; rfl)
   case br1 =>
    have hin : x ∈ Tt.map (·.1) := of_decide_eq_true hb;refine eD 9 (d := .lst ((eT Tt x).map D.int)) (bf dNu hr1 (au (pQ dS (hr.mono (by decide)) (dX (aQ 5 (d := (jK Tt).d))) ⟨Tt, hT, rfl, rfl⟩) (aI (ab 8))) ⟨Tt, x, hT, rfl, rfl⟩) ?_ nd;refine zM 5 false (kp := cS Tt) (k := .inr x) rfl (ab 8) (pL hin) ?_;rw [qG];refine uL 3 10 false (by decide) (Bm dTake TC.cl (hr.mono (by decide)) (aI (ab 8))) rfl rfl ⟨Tt, x, hin, hT, (g.out x).ok hn5, rfl, rfl, rfl, rfl⟩ (df _) ?_ nd;exact aG ⟨h8 Tt x, eT Tt x, rfl, g.out x, qf hT x⟩
   case br2 =>
    have hin : x ∉ Tt.map (·.1) := of_decide_eq_false hb;obtain ⟨many, hmany⟩ : ∃ many : Nat, part c 6 7 = ((many : Nat) : Int) := ⟨(part c 6 7).toNat, by omega⟩
    obtain ⟨ro1, ro2⟩ := lX hw5 c many;have good := sX hw5 hwW c many;have h14 : ∀ r ∈ dD ws c many, ∀ y ∈ r, y.length <= 14 := fun r hr' y hy => hw14 y ((ro1 r hr').2 y hy);have g' : GT nm (Tt ++ [(x, dD ws c many)]) := g.put hin hxm good (by omega);have hT' := g'.ok hn5;obtain ⟨ok1, ok2⟩ := w6 good (part c 7 96);have tl := nK good h14 (part c 7 96);have hx' : x ∈ (Tt ++ [(x, dD ws c many)]).map (·.1) := by simp
    have hrw : mC (Tt ++ [(x, dD ws c many)]) x = dD ws c many := fq (q := (x, dD ws c many)) g'.nd (by simp);obtain ⟨j, k1, k2⟩ := iV g'.nd hx';rw [hrw] at k2;have e1 : (cS Tt).map (·.1) ++ [Sum.inr x] = (cS (Tt ++ [(x, dD ws c many)])).map (·.1) := by simp [cS]
    have e2 : (cS Tt).map (·.2) ++ [bu (dD ws c many)] = (cS (Tt ++ [(x, dD ws c many)])).map (·.2) := by simp [cS]
    generalize hRR : dD ws c many = rows at *;refine zp 5 false (dk := .str x) (dv := bu rows) rfl (ab 8) (bf dRo hr1 (au (ab 1) (au (ab 7) (aI (E.cast (bf dP hr1 (au (ab 7) (au aw (aI aw))) ⟨c, 6, 7, by decide, rfl, rfl⟩) (congrArg D.int hmany))))) ⟨ws, c, many, hw5, by omega, rfl, by rw [hRR]⟩) ⟨.inr x, rfl, iZ hin, ?_, rfl⟩ hu ?_
    . have := hT.few;rw [sizeLine_eq];simp [cS];omega
    rw [e1, e2];refine eD 9 (d := .lst ((eT (Tt ++ [(x, rows)]) x).map D.int)) (bf dNu hr1 (au (pQ dS (hr.mono (by decide)) (dX (aQ 5 (d := (jK (Tt ++ [(x, rows)])).d))) ⟨_, hT', rfl, rfl⟩) (aI (ab 8))) ⟨_, x, hT', rfl, rfl⟩) ?_ nd;refine uL 3 10 true (fs' := fc (Tt ++ [(x, rows)])) (ds1 := (eT (Tt ++ [(x, rows)]) x).map D.int) (by decide) (Bm dPut TC.cl (hr.mono (by decide)) (au (ab 8) (aI (bf dTx hr1 (au (iW (d := bu rows) (aQ 5 (d := (jK (Tt ++ [(x, rows)])).d)) (ab 8) k1 k2 rfl hu) (aI (bf dP hr1 (au (ab 7) (au aw (aI aw))) ⟨c, 7, 96, by decide, rfl, rfl⟩))) ⟨rows, part c 7 96, good, h14, by omega, rfl, rfl⟩)))) rfl rfl ⟨Tt, x, hV rows (part c 7 96), hin, by rw [ok1]; exact hT', by omega, ok2, rfl, rfl, by rw [ok1], by rw [ok1]⟩ (df _) ?_ nd;exact aG ⟨Tt ++ [(x, rows)], eT (Tt ++ [(x, rows)]) x, rfl, g', qf hT' x⟩
   case rest =>
    subst e;have hT' := g'.ok hn5;have hl2 : ∀ d ∈ hs ++ Bf T', qm d := fun d hd => by
     rcases mem_append.mp hd with hd | hd
     . exact hh d hd
     . simp only [Bf, mem_cons, not_mem_nil, or_false] at hd;rcases hd with rfl | rfl
       . exact vQ T'
       . exact tI T'
    have hll : (hs ++ Bf T').length = hs.length + 2 := by rw [List.length_append]; rfl
    refine BJ 6 [3, 5] (by decide) Lk Lb Lp Lm (hr.mono (by decide)) (kP (bf dIs hr1 (au (ab 10) (aI (ab 9))) ⟨is, by omega, rfl, rfl⟩)) rfl (DD 3 (by simp) rfl (DV 5 (by simp) rfl (C9 rfl (Et (ab 7) Cr)))) ⟨T', c, hT', by omega, rfl, rfl⟩ ?_;refine ed (nV (dG (ab 7) aw (by decide)) aw) (fun h => ?_) (fun h => ?_)
    . exact d7 10 true rfl aw rfl (by rw [length_map]; omega) (aG (aG ⟨T', hs ++ Bf T', _, _, _, _, rfl, g', by omega, by omega, hl2⟩))
    . refine yr 10 rfl ?_;refine wc 6 false rfl (lH (au (ab 10) (aI (ab 9)))) (by omega) (aG (aG ⟨T', (hs ++ Bf T') ++ [_], _, _, _, _, rfl, g', by rw [List.length_append, hll]; simp; omega, by omega, fun d hd => ?_⟩));rcases mem_append.mp hd with hd | hd
      . exact hl2 d hd
      . rw [List.mem_singleton.mp hd]; exact wm is
 . rintro r ⟨Tt, hs, o7, o8, o9, o10, e, g, hsl, hn63, hh⟩;subst e;refine ed (b := false) (T.fP (TW.t (qy (nI (eB dN TC.cl hr1 (aQ 4 (d := gN C (fc []))) (cF rfl) ⟨fc [], [], rfl, by decide, rfl, rfl⟩) (wN dh) rfl (jN hr (fD _))) fun _ => pV (nI (eB dE TC.cl (hr.mono (by decide)) (aQ 4 (d := gN C (fc []))) (cF rfl) ⟨[], uG, rfl, rfl⟩) (wN dh) rfl (jN (n := 5) hr (by rw [nj]; decide))))) ?_) (fun h => by cases h) fun _ => aG ?_
   . rw [zE, nj];rfl
   refine bg false (E.cast (Br (bs := hs.map fun _ => true) (E.cast (ny (m := true) (me := true) [] [] (fun _ => .bl true) (cC (ab 6)) (fun Cx sx Hx fp d hd => ?_) (cE (by omega))) ?_) hr.hd B.all) ?_) rfl
   . obtain ⟨y, rfl, hdep⟩ := hh d hd;exact E.cast (Be (gF (d := .lst y) (ab 0) aw rfl) (gF (d := .lst y) (ab 0) aw rfl) rfl (jN hr hdep)) (congrArg D.bl (bw _))
   . rw [map_map];rfl
   . simp
end
end
instance : Y.bT := ⟨[(44, "ends.<locals>.<lambda>"), (242, "_law_sorted.<locals>.<lambda>")]⟩
def FK (K : Frag) (q : Str) (st : Stmt) (f : Addr) : Prop := PySem.W.nsIn K mainGlobals q = some (some (.ref f)) /\ ∃ fd, fo K q q st f fd
theorem fk {K : Frag} {q : Str} {st : Stmt} {f : Addr} {oc kV dc pm ct : Value} {od an : GQ} {sl : GL} {cd : Value} (a : PySem.W.nsIn K mainGlobals q = some (some (.ref f))) (l : K.lookup f = some ⟨oc, od, .func (PySem.W.fnOf q q (cA st) (aY st) (af st) .none kV dc pm an cd ct), sl⟩) (c : PySem.W.codeIn K cd q = true) (k : keepIn K (.ref f) = true) : FK K q st f := ⟨a, _, sO l c k⟩
def FG (K : Frag) (q : Str) (st : Stmt) (f c : Addr) (n : Nat) : Prop := PySem.W.nsIn K mainGlobals q = some (some (.ref f)) /\ (∃ fd, oU K q q st f fd c) /\ codeHdIn K c n = true
theorem Ga {K : Frag} {q : Str} {st : Stmt} {f : Addr} {oc kV dc pm ct : Value} {od an : GQ} {sl : GL} {cc : Addr} {n : Nat} (a : PySem.W.nsIn K mainGlobals q = some (some (.ref f))) (l : K.lookup f = some ⟨oc, od, .func (PySem.W.fnOf q q (cA st) (aY st) (af st) .none kV dc pm an (.ref cc) ct), sl⟩) (c : PySem.W.codeIn K (.ref cc) q = true) (k : keepIn K (.ref f) = true) (h : codeHdIn K cc n = true) : FG K q st f cc n := ⟨a, ⟨_, AW l c k⟩, h⟩
def xr (K : Frag) (C : Addr) (x q : Str) (st : Stmt) (f : Addr) : Prop := Meth K C x f /\ ∃ fd, fo K x q st f fd
theorem zc {K : Frag} {C : Addr} {x q : Str} {st : Stmt} {f : Addr} {oc kV dc pm ct : Value} {od an : GQ} {sl : GL} {cd : Value} (a : PySem.W.findIn K (.ref C) x = some (some (.ref f))) (i : PySem.W.isFn K (.ref f) = true) (l : K.lookup f = some ⟨oc, od, .func (PySem.W.fnOf x q (cA st) (aY st) (af st) .none kV dc pm an cd ct), sl⟩) (c : PySem.W.codeIn K cd q = true) (k : keepIn K (.ref f) = true) : xr K C x q st f := ⟨⟨a, i, k⟩, _, sO l c k⟩
theorem mB {us : GO} (h : us.length = 1) : ∃ a, us = [a] := by
  cases us with
  | nil => cases h
  | cons a r =>
    cases r with
    | nil => exact ⟨a, rfl⟩
    | cons b c => simp at h
theorem hJ {us : GO} (h : us.length = 2) : ∃ a0 a1, us = [a0, a1] := by
  cases us with
  | nil => cases h
  | cons a r =>
    obtain ⟨a1, rfl⟩ := mB (Nat.succ.inj h);exact ⟨a, a1, rfl⟩
theorem xT {us : GO} (h : us.length = 3) : ∃ a0 a1 a2, us = [a0, a1, a2] := by
  cases us with
  | nil => cases h
  | cons a r =>
    obtain ⟨a1, a2, rfl⟩ := hJ (Nat.succ.inj h);exact ⟨a, a1, a2, rfl⟩
theorem EZ {us : GO} (h : us.length = 4) : ∃ a0 a1 a2 a3, us = [a0, a1, a2, a3] := by
  cases us with
  | nil => cases h
  | cons a r =>
    obtain ⟨a1, a2, a3, rfl⟩ := xT (Nat.succ.inj h);exact ⟨a, a1, a2, a3, rfl⟩
theorem all_mk {l : PySem.W.OpenLaw} {w : World} {K : Frag} {h : Heap} {mg : GN} {fa : Addr} (X : K.In h) (G : h.Ns mainGlobals mg) (hfa : mg "law" = some (.ref fa))
 {f1 f2 f3 f4 cc4 f5 f6 f7 f8 f9 f10 f11 f12 f13 f14 cc14 f15 f16 f17 f18 C_Book f_Book___init f_Book_arrange f_Book_put f_Book_take f_Book_names f_Book_rows f_Book_ends f_Book_want f_Book_numbers_of f_Book_in_book : Addr} {od18 an18 : GQ} {sl18 : GL} {oc18 kV18 dc18 pm18 cd18 ct18 : Value} {tk2 : Tok}
 (q1 : FK K "all_places" fe f1)
 (q2 : FK K "end_of" lu f2)
 (q3 : FK K "order_of" gM f3)
 (q4 : FG K "ends" n9 f4 cc4 44)
 (q5 : FK K "rows_of" iS f5)
 (q6 : FK K "words_in" gR f6)
 (q7 : FK K "_law_cell_at" eO f7)
 (q8 : FK K "_law_part" gT f8)
 (q9 : FK K "_law_alike" gj f9)
 (q10 : FK K "_law_words" gh f10)
 (q11 : FK K "_law_names" fE f11)
 (q12 : FK K "_law_rows" gL f12)
 (q13 : FK K "_law_text" gH f13)
 (q14 : FG K "_law_sorted" cO f14 cc14 242)
 (q15 : FK K "_law_numbers" eK f15)
 (q16 : FK K "_law_is_numbers" cV f16)
 (q17 : FK K "_law_looked" dJ f17)
 (a18 : PySem.W.nsIn K mainGlobals "law" = some (some (.ref f18)))
 (l18 : K.lookup f18 = some ⟨oc18, od18, .func (PySem.W.fnOf "law" "law" (cA iD) (aY iD) (af iD) .none kV18 dc18 pm18 an18 cd18 ct18), sl18⟩)
 (c18 : PySem.W.codeIn K cd18 "law" = true) (k18 : keepIn K (.ref f18) = true)
 (gA1 : PySem.W.nsIn K mainGlobals "ends_ends" = some (some (.ref f4)))
 (g2 : PySem.W.nsIn K mainGlobals "WORD_SIGNS" = some (some (.str "abcdefghijklmnopqrstuvwxyz0123456789" tk2)))
 (aC_Book : PySem.W.nsIn K mainGlobals "Book" = some (some (.ref C_Book)))
 (m_Book___init : xr K C_Book "__init__" "Book.__init__" eJ f_Book___init)
 (m_Book_arrange : xr K C_Book "arrange" "Book.arrange" ej f_Book_arrange)
 (m_Book_put : xr K C_Book "put" "Book.put" gY f_Book_put)
 (m_Book_take : xr K C_Book "take" "Book.take" fJ f_Book_take)
 (m_Book_names : xr K C_Book "names" "Book.names" fv f_Book_names)
 (m_Book_rows : xr K C_Book "rows" "Book.rows" fQ f_Book_rows)
 (m_Book_ends : xr K C_Book "ends" "Book.ends" fK f_Book_ends)
 (m_Book_want : xr K C_Book "want" "Book.want" fO f_Book_want)
 (m_Book_numbers_of : xr K C_Book "numbers_of" "Book.numbers_of" cQ f_Book_numbers_of)
 (m_Book_in_book : xr K C_Book "in_book" "Book.in_book" ee f_Book_in_book)
 (pg_Book : PySem.W.plainGet K C_Book Str.empty = true) (pd_Book : PySem.W.hasDictIn K C_Book = true) (po_Book : PySem.W.plainOver K C_Book = true) (sa_Book : PySem.W.findIn K (.ref C_Book) "__setattr__" = some (some (.builtin "object.__setattr__"))) (mk_Book : PySem.W.makesIn K C_Book = true) (kc_Book : keepIn K (.ref C_Book) = true)
 (n_Book_texts : PySem.W.findIn K (.ref C_Book) "texts" = some none)
 (n_Book_origins : PySem.W.findIn K (.ref C_Book) "origins" = some none)
 (n_Book_together : PySem.W.findIn K (.ref C_Book) "together" = some none)
 (n_Book_order : PySem.W.findIn K (.ref C_Book) "order" = some none)
 (z_ValueError : PySem.W.nsIn K mainGlobals "ValueError" = some none)
 (z_all : PySem.W.nsIn K mainGlobals "all" = some none)
 (z_bool : PySem.W.nsIn K mainGlobals "bool" = some none)
 (z_enumerate : PySem.W.nsIn K mainGlobals "enumerate" = some none)
 (z_int : PySem.W.nsIn K mainGlobals "int" = some none)
 (z_isinstance : PySem.W.nsIn K mainGlobals "isinstance" = some none)
 (z_len : PySem.W.nsIn K mainGlobals "len" = some none)
 (z_list : PySem.W.nsIn K mainGlobals "list" = some none)
 (z_range : PySem.W.nsIn K mainGlobals "range" = some none)
 (z_sorted : PySem.W.nsIn K mainGlobals "sorted" = some none)
 (z_tuple : PySem.W.nsIn K mainGlobals "tuple" = some none) :
 ∃ fd : FuncData, (∀ (s : Shared) (v : Value), BindsTo s fd ⟨[v], []⟩ [("_law_script", v)]) /\ ∀ base : Heap, K.In base -> base.Ns mainGlobals mg -> Bi mg base -> bR l.prog w K mg base fS 11 fa fd ["_law_script"] (qC K) := by
 have e := hfa.symm.trans (mg_of X G a18);cases e;have B : g7 mg := ⟨mg_none_of X G z_ValueError, mg_none_of X G z_all, mg_none_of X G z_bool, mg_none_of X G z_enumerate, mg_none_of X G z_int, mg_none_of X G z_isinstance, mg_none_of X G z_len, mg_none_of X G z_list, mg_none_of X G z_range, mg_none_of X G z_sorted, mg_none_of X G z_tuple, ⟨_, mg_of X G g2⟩⟩
 obtain ⟨a1, _, F1⟩ := q1;obtain ⟨a2, _, F2⟩ := q2;obtain ⟨a3, _, F3⟩ := q3;obtain ⟨a4, ⟨_, G4⟩, h4⟩ := q4;obtain ⟨a5, _, F5⟩ := q5;obtain ⟨a6, _, F6⟩ := q6;obtain ⟨a7, _, F7⟩ := q7;obtain ⟨a8, _, F8⟩ := q8;obtain ⟨a9, _, F9⟩ := q9;obtain ⟨a10, _, F10⟩ := q10;obtain ⟨a11, _, F11⟩ := q11;obtain ⟨a12, _, F12⟩ := q12;obtain ⟨a13, _, F13⟩ := q13;obtain ⟨a14, ⟨_, G14⟩, h14⟩ := q14;obtain ⟨a15, _, F15⟩ := q15;obtain ⟨a16, _, F16⟩ := q16;obtain ⟨a17, _, F17⟩ := q17;have T_Book : eX K mg "Book" C_Book ["texts", "origins", "together", "order"] := ⟨⟨pg_Book, pd_Book, po_Book, sa_Book⟩, fun f hf => by simp only [mem_cons, not_mem_nil, or_false] at hf; rcases hf with rfl | rfl | rfl | rfl; exact n_Book_texts; exact n_Book_origins; exact n_Book_together; exact n_Book_order, mg_of X G aC_Book⟩
 obtain ⟨M_Book___init, _, F_Book___init⟩ := m_Book___init;have b_Book___init := F_Book___init.binds (ps := ["self"]) fun _ _ _ _ _ _ us hl => by obtain ⟨u0, rfl⟩ := mB hl; rfl
 have K_Book : Mk K C_Book f_Book___init := ⟨mk_Book, M_Book___init.at_, M_Book___init.fn, kc_Book⟩
 obtain ⟨M_Book_arrange, _, F_Book_arrange⟩ := m_Book_arrange;have b_Book_arrange := F_Book_arrange.binds (ps := ["self"]) fun _ _ _ _ _ _ us hl => by obtain ⟨u0, rfl⟩ := mB hl; rfl
 obtain ⟨M_Book_put, _, F_Book_put⟩ := m_Book_put;have b_Book_put := F_Book_put.binds (ps := ["self", "name", "text"]) fun _ _ _ _ _ _ us hl => by obtain ⟨u0, u1, u2, rfl⟩ := xT hl; rfl
 obtain ⟨M_Book_take, _, F_Book_take⟩ := m_Book_take;have b_Book_take := F_Book_take.binds (ps := ["self", "name"]) fun _ _ _ _ _ _ us hl => by obtain ⟨u0, u1, rfl⟩ := hJ hl; rfl
 obtain ⟨M_Book_names, _, F_Book_names⟩ := m_Book_names;have b_Book_names := F_Book_names.binds (ps := ["self"]) fun _ _ _ _ _ _ us hl => by obtain ⟨u0, rfl⟩ := mB hl; rfl
 obtain ⟨M_Book_rows, _, F_Book_rows⟩ := m_Book_rows;have b_Book_rows := F_Book_rows.binds (ps := ["self", "name"]) fun _ _ _ _ _ _ us hl => by obtain ⟨u0, u1, rfl⟩ := hJ hl; rfl
 obtain ⟨M_Book_ends, _, F_Book_ends⟩ := m_Book_ends;have b_Book_ends := F_Book_ends.binds (ps := ["self"]) fun _ _ _ _ _ _ us hl => by obtain ⟨u0, rfl⟩ := mB hl; rfl
 obtain ⟨M_Book_want, _, F_Book_want⟩ := m_Book_want;have b_Book_want := F_Book_want.binds (ps := ["self", "name"]) fun _ _ _ _ _ _ us hl => by obtain ⟨u0, u1, rfl⟩ := hJ hl; rfl
 obtain ⟨M_Book_numbers_of, _, F_Book_numbers_of⟩ := m_Book_numbers_of;have b_Book_numbers_of := F_Book_numbers_of.binds (ps := ["self", "name"]) fun _ _ _ _ _ _ us hl => by obtain ⟨u0, u1, rfl⟩ := hJ hl; rfl
 obtain ⟨M_Book_in_book, _, F_Book_in_book⟩ := m_Book_in_book;have b_Book_in_book := F_Book_in_book.binds (ps := ["self", "tuples"]) fun _ _ _ _ _ _ us hl => by obtain ⟨u0, u1, rfl⟩ := hJ hl; rfl
 have A_ends_ends := mg_of X G gA1;have b1 := F1.binds (ps := ["rows"]) fun _ _ _ _ _ _ us hl => by obtain ⟨u0, rfl⟩ := mB hl; rfl
 have b2 := F2.binds (ps := ["rows", "place"]) fun _ _ _ _ _ _ us hl => by obtain ⟨u0, u1, rfl⟩ := hJ hl; rfl
 have b3 := F3.binds (ps := ["rows", "place"]) fun _ _ _ _ _ _ us hl => by obtain ⟨u0, u1, rfl⟩ := hJ hl; rfl
 have F4 := G4.fn;have b4 := F4.binds (ps := ["rows"]) fun _ _ _ _ _ _ us hl => by obtain ⟨u0, rfl⟩ := mB hl; rfl
 have b5 := F5.binds (ps := ["text"]) fun _ _ _ _ _ _ us hl => by obtain ⟨u0, rfl⟩ := mB hl; rfl
 have b6 := F6.binds (ps := ["part"]) fun _ _ _ _ _ _ us hl => by obtain ⟨u0, rfl⟩ := mB hl; rfl
 have b7 := F7.binds (ps := ["_law_script", "_law_k"]) fun _ _ _ _ _ _ us hl => by obtain ⟨u0, u1, rfl⟩ := hJ hl; rfl
 have b8 := F8.binds (ps := ["_law_cell", "_law_k", "_law_many"]) fun _ _ _ _ _ _ us hl => by obtain ⟨u0, u1, u2, rfl⟩ := xT hl; rfl
 have b9 := F9.binds (ps := ["_law_one", "_law_other", "_law_signs"]) fun _ _ _ _ _ _ us hl => by obtain ⟨u0, u1, u2, rfl⟩ := xT hl; rfl
 have b10 := F10.binds (ps := ["_law_one", "_law_other"]) fun _ _ _ _ _ _ us hl => by obtain ⟨u0, u1, rfl⟩ := hJ hl; rfl
 have b11 := F11.binds (ps := ["_law_one", "_law_other"]) fun _ _ _ _ _ _ us hl => by obtain ⟨u0, u1, rfl⟩ := hJ hl; rfl
 have b12 := F12.binds (ps := ["_law_words_here", "_law_cell", "_law_many"]) fun _ _ _ _ _ _ us hl => by obtain ⟨u0, u1, u2, rfl⟩ := xT hl; rfl
 have b13 := F13.binds (ps := ["_law_rows_here", "_law_cell"]) fun _ _ _ _ _ _ us hl => by obtain ⟨u0, u1, rfl⟩ := hJ hl; rfl
 have F14 := G14.fn;have b14 := F14.binds (ps := ["_law_texts"]) fun _ _ _ _ _ _ us hl => by obtain ⟨u0, rfl⟩ := mB hl; rfl
 have b15 := F15.binds (ps := ["_law_places", "_law_name"]) fun _ _ _ _ _ _ us hl => by obtain ⟨u0, u1, rfl⟩ := hJ hl; rfl
 have b16 := F16.binds (ps := ["_law_answer", "_law_due"]) fun _ _ _ _ _ _ us hl => by obtain ⟨u0, u1, rfl⟩ := hJ hl; rfl
 have b17 := F17.binds (ps := ["_law_book", "_law_texts", "_law_held", "_law_cell"]) fun _ _ _ _ _ _ us hl => by obtain ⟨u0, u1, u2, u3, rfl⟩ := EZ hl; rfl
 have F18 := sO (st := iD) l18 c18 k18;refine ⟨PySem.W.fnOf "law" "law" (cA iD) (aY iD) (af iD) .none kV18 dc18 pm18 an18 cd18 ct18, fun s v => .of_eq rfl, fun base _ _ bm => ?_⟩;have D1 := mR (P := l.prog) (w := w) (base := base) F1 (mg_of X G a1) b1 B;have D2 := u6 (P := l.prog) (w := w) (base := base) F2 (mg_of X G a2) b2 B;have D3 := rC (P := l.prog) (w := w) (base := base) F3 (mg_of X G a3) b3 B D2;have L4 : oq K mg base cc4 44 "ends.<locals>.<lambda>" := ⟨h4, by decide, by decide, bm, by decide⟩
 have D4 := Aj (P := l.prog) (w := w) (base := base) G4 L4 (mg_of X G a4) b4 B D1 D3;have D6 := rh (P := l.prog) (w := w) (base := base) F6 (mg_of X G a6) b6 B;have D5 := sr (P := l.prog) (w := w) (base := base) F5 (mg_of X G a5) b5 B D6;have D7 := kU (P := l.prog) (w := w) (base := base) F7 (mg_of X G a7) b7 B;have D8 := qB (P := l.prog) (w := w) (base := base) F8 (mg_of X G a8) b8 B;have D9 := pv (P := l.prog) (w := w) (base := base) F9 (mg_of X G a9) b9 B D8;have D10 := pC (P := l.prog) (w := w) (base := base) F10 (mg_of X G a10) b10 B D9;have D11 := nW (P := l.prog) (w := w) (base := base) F11 (mg_of X G a11) b11 B D9;have D12 := ri (P := l.prog) (w := w) (base := base) F12 (mg_of X G a12) b12 B;have D13 := qP (P := l.prog) (w := w) (base := base) F13 (mg_of X G a13) b13 B;have L14 : oq K mg base cc14 242 "_law_sorted.<locals>.<lambda>" := ⟨h14, by decide, by decide, bm, by decide⟩
 have D14 := mT (P := l.prog) (w := w) (base := base) G14 L14 (mg_of X G a14) b14 B;have D15 := kM (P := l.prog) (w := w) (base := base) F15 (mg_of X G a15) b15 B;have D16 := iJ (P := l.prog) (w := w) (base := base) F16 (mg_of X G a16) b16 B;have D_Book_in_book := j6 (P := l.prog) (w := w) (base := base) F_Book_in_book M_Book_in_book b_Book_in_book B T_Book;have D_Book_ends := oj (P := l.prog) (w := w) (base := base) F_Book_ends M_Book_ends b_Book_ends B T_Book D_Book_in_book;have D_Book_names := mP (P := l.prog) (w := w) (base := base) F_Book_names M_Book_names b_Book_names B T_Book;have D_Book_want := pJ (P := l.prog) (w := w) (base := base) F_Book_want M_Book_want b_Book_want B T_Book;have D_Book_rows := oA (P := l.prog) (w := w) (base := base) F_Book_rows M_Book_rows b_Book_rows B T_Book D_Book_want;have D17 := mO (P := l.prog) (w := w) (base := base) F17 B T_Book D14 D_Book_ends D_Book_names D_Book_rows;have D_Book_arrange := j7 (P := l.prog) (w := w) (base := base) F_Book_arrange M_Book_arrange b_Book_arrange B T_Book D_Book_names (Def.alias D4 A_ends_ends (mg_of X G a4));have D_Book___init := ma (P := l.prog) (w := w) (base := base) F_Book___init M_Book___init b_Book___init B T_Book D_Book_arrange;have D_Book_numbers_of := gJ (P := l.prog) (w := w) (base := base) F_Book_numbers_of M_Book_numbers_of b_Book_numbers_of B T_Book D_Book_ends;have D_Book_put := qk (P := l.prog) (w := w) (base := base) F_Book_put M_Book_put b_Book_put B T_Book D5 D_Book_arrange D_Book_numbers_of;have D_Book_take := ot (P := l.prog) (w := w) (base := base) F_Book_take M_Book_take b_Book_take B T_Book D_Book_want D_Book_numbers_of D_Book_arrange;exact CZ (CT F18 B D7 D8 D10 D11 D12 D13 D14 D15 D16 D17 (mg_of X G a17) b17 F17.kp T_Book K_Book D_Book___init b_Book___init D_Book_put D_Book_take D_Book_names D_Book_ends)
end Z
namespace PySem.W.Fast
def tw6907153692549326591:=0
def tw4191776226170226116:=0
def tw9149156367488380106:=0
def tw12704828365539168858:=0
def tw5973738689194192644:=0
def tw10779670008503419292:=0
def tw15330553844043408469:=0
def tw10078236092792106860:=0
def tw2162129450686078154:=0
def tw17718057034601524044:=0
def tw16392539545428551967:=0
def tw11946753430878980798:=0
def tw9171344029952304746:=0
def tw7924662160905838322:=0
def tw11733279992845275755:=0
def tw2992744353729741514:=0
def tw3579883604325566301:=0
def tw17628736727642618718:=0
def tw11722914925502910788:=0
def tw3660840705501368036:=0
def tw7888209692475632895:=0
def tw14666709479692829677:=0
def tw2365856359914413812:=0
def tw6280414850973618444:=0
def tw14783110637216700134:=0
def tw12370042623599664839:=0
def tw13155121829954240921:=0
def tw11974963521712180603:=0
def tw14553401948405063715:=0
def tw6438277555340456697:=0
def tw15185404638383899296:=0
def tw7174248804598431696:=0
def tw7545673108348668071:=0
def tw1639324332727487740:=0
def tw2619920030258469348:=0
def tw16813819363515306532:=0
def tw4561301607253729265:=0
def tw2449503948741701502:=0
def tw5642584747828524485:=0
def tw11091291269559364787:=0
def tw2260039667448791675:=0
def tw11374127759783833053:=0
def tw7777217529726649261:=0
def tw3744647401262187541:=0
def tw7276452257640828880:=0
def tw6925774833949091635:=0
def tw16170898758422125866:=0
def tw15861294612483213103:=0
def tw698135095300583486:=0
def tw4948048243344021440:=0
def tw6516313815998057937:=0
def tw8812819591857738377:=0
def tw17798778189402317582:=0
def tw7968517636503085327:=0
def tw1595899908528198469:=0
def tw3200340995558154311:=0
def tw4348942782964855953:=0
def tw17721729400692486233:=0
def tw8289315789743477211:=0
def tw3318306609649428909:=0
def tw10197776418928375828:=0
def tw15568243879347034145:=0
def tw4437744606868071909:=0
def tw18382346464640420735:=0
def tw15749350662306278431:=0
def tw17164486175574159442:=0
def tw6300830912850698825:=0
def tw18263046161126728849:=0
def tw16839577653518947836:=0
def tw1609082570353441547:=0
def tw16113670313003531370:=0
def tw3310895752785464308:=0
def tw598815706412261022:=0
def tw7952263182905570830:=0
def tw2817090674010106319:=0
def tw10511264694932418138:=0
def tw14867278026607514782:=0
def tw10522250245928406237:=0
def tw4867114535461375326:=0
def tw18090814362385314643:=0
def tw10206548568517168105:=0
def tw7174268829021061257:=0
def tw1253891202084799410:=0
def tw8817142205020647314:=0
def tw5715044764759786312:=0
def tw7832923767402678753:=0
def tw11340487669106085942:=0
def tw4264947711389398295:=0
def tw4731901041521281643:=0
def tw1703477963683098095:=0
def tw3871911464033432379:=0
def tw15288989720828609164:=0
def tw13110372396245258579:=0
def tw13377102782099326032:=0
def tw15254718317661692066:=0
def tw2556223090435762824:=0
def tw8421794204951596277:=0
def tw9390093522471023111:=0
def tw17155488499648557634:=0
def tw7809996658559284585:=0
def tw852808175695688977:=0
def tw6828318486704089005:=0
def tw15910311334822648631:=0
def tw6108317538695916024:=0
def tw2987336804977653103:=0
def tw5705459091107607180:=0
def tw13825531954020226132:=0
def tw2581143172151251365:=0
def tw10014760729142810603:=0
def tw10464799885480371866:=0
def tw17610965463430782590:=0
def tw12724770811689448182:=0
end PySem.W.Fast
open PySem PySem.W PyProof.Rows
set_option maxRecDepth 100000 in
set_option maxHeartbeats 0 in
theorem PySem.Challenge.cw_besidewords_k61_put_and_taken_holds : PySem.Challenge.rw_besidewords_k61_put_and_taken.Holds := by
 w_on; o_law; k_head; (case hw => w_witness2)
 k_fill
 refine Y.DE (l := PySem.Challenge.rw_besidewords_k61_put_and_taken) (k := 11) (x := "_law_script") rfl rfl ⟨rfl, by decide, by decide⟩ (fun w h Y => km_in_of Y) ?T ?F
 case T =>
  intro w h Yk q hq;rcases (by simpa [Y.bT.T] using hq : q = ((44 : Addr), ("ends.<locals>.<lambda>" : Str)) \/ q = ((242 : Addr), ("_law_sorted.<locals>.<lambda>" : Str))) with rfl | rfl
  . refine Y.tabs_ok (c := 48) Yk ?x1 ?x2 ?x3
    (case x1 => simp)
    (case x2 => kernel_rfl)
    (case x3 => kernel_rfl)
  . refine Y.tabs_ok (c := 246) Yk ?x1 ?x2 ?x3
    (case x1 => simp)
    (case x2 => kernel_rfl)
    (case x3 => kernel_rfl)
 case F =>
  intro w mg fa h KX G hmg;refine' Z.all_mk KX G hmg (Z.fk ?a1 ?l1 ?c1 ?k1) (Z.fk ?a2 ?l2 ?c2 ?k2) (Z.fk ?a3 ?l3 ?c3 ?k3) (Z.Ga ?a4 ?l4 ?c4 ?k4 ?h4) (Z.fk ?a5 ?l5 ?c5 ?k5) (Z.fk ?a6 ?l6 ?c6 ?k6) (Z.fk ?a7 ?l7 ?c7 ?k7) (Z.fk ?a8 ?l8 ?c8 ?k8) (Z.fk ?a9 ?l9 ?c9 ?k9) (Z.fk ?a10 ?l10 ?c10 ?k10) (Z.fk ?a11 ?l11 ?c11 ?k11) (Z.fk ?a12 ?l12 ?c12 ?k12) (Z.fk ?a13 ?l13 ?c13 ?k13) (Z.Ga ?a14 ?l14 ?c14 ?k14 ?h14) (Z.fk ?a15 ?l15 ?c15 ?k15) (Z.fk ?a16 ?l16 ?c16 ?k16) (Z.fk ?a17 ?l17 ?c17 ?k17) ?a18 ?l18 ?c18 ?k18 ?gA1 ?g2 ?aC_Book (Z.zc ?xa_Book___init ?xi_Book___init ?xl_Book___init ?xc_Book___init ?xk_Book___init) (Z.zc ?xa_Book_arrange ?xi_Book_arrange ?xl_Book_arrange ?xc_Book_arrange ?xk_Book_arrange) (Z.zc ?xa_Book_put ?xi_Book_put ?xl_Book_put ?xc_Book_put ?xk_Book_put) (Z.zc ?xa_Book_take ?xi_Book_take ?xl_Book_take ?xc_Book_take ?xk_Book_take) (Z.zc ?xa_Book_names ?xi_Book_names ?xl_Book_names ?xc_Book_names ?xk_Book_names) (Z.zc ?xa_Book_rows ?xi_Book_rows ?xl_Book_rows ?xc_Book_rows ?xk_Book_rows) (Z.zc ?xa_Book_ends ?xi_Book_ends ?xl_Book_ends ?xc_Book_ends ?xk_Book_ends) (Z.zc ?xa_Book_want ?xi_Book_want ?xl_Book_want ?xc_Book_want ?xk_Book_want) (Z.zc ?xa_Book_numbers_of ?xi_Book_numbers_of ?xl_Book_numbers_of ?xc_Book_numbers_of ?xk_Book_numbers_of) (Z.zc ?xa_Book_in_book ?xi_Book_in_book ?xl_Book_in_book ?xc_Book_in_book ?xk_Book_in_book) ?pg_Book ?pd_Book ?po_Book ?sa_Book ?mk_Book ?kc_Book ?n_Book_texts ?n_Book_origins ?n_Book_together ?n_Book_order ?z_ValueError ?z_all ?z_bool ?z_enumerate ?z_int ?z_isinstance ?z_len ?z_list ?z_range ?z_sorted ?z_tuple
  (case a1|l1|c1|k1|a2|l2|c2|k2|a3|l3|c3|k3|a4|l4|c4|k4|a5|l5|c5|k5|a6|l6|c6|k6|a7|l7|c7|k7|a8|l8|c8|k8|a9|l9|c9|k9|a10|l10|c10|k10|a11|l11|c11|k11|a12|l12|c12|k12|a13|l13|c13|k13|a14|l14|c14|k14|a15|l15|c15|k15|a16|l16|c16|k16|a17|l17|c17|k17|a18|l18|c18|k18|gA1|g2|aC_Book|xa_Book___init|xi_Book___init|xl_Book___init|xc_Book___init|xk_Book___init|xa_Book_arrange|xi_Book_arrange|xl_Book_arrange|xc_Book_arrange|xk_Book_arrange|xa_Book_put|xi_Book_put|xl_Book_put|xc_Book_put|xk_Book_put|xa_Book_take|xi_Book_take|xl_Book_take|xc_Book_take|xk_Book_take|xa_Book_names|xi_Book_names|xl_Book_names|xc_Book_names|xk_Book_names|xa_Book_rows|xi_Book_rows|xl_Book_rows|xc_Book_rows|xk_Book_rows|xa_Book_ends|xi_Book_ends|xl_Book_ends|xc_Book_ends|xk_Book_ends|xa_Book_want|xi_Book_want|xl_Book_want|xc_Book_want|xk_Book_want|xa_Book_numbers_of|xi_Book_numbers_of|xl_Book_numbers_of|xc_Book_numbers_of|xk_Book_numbers_of|xa_Book_in_book|xi_Book_in_book|xl_Book_in_book|xc_Book_in_book|xk_Book_in_book|pg_Book|pd_Book|po_Book|sa_Book|mk_Book|kc_Book|n_Book_texts|n_Book_origins|n_Book_together|n_Book_order|z_ValueError|z_all|z_bool|z_enumerate|z_int|z_isinstance|z_len|z_list|z_range|z_sorted|z_tuple => k_is)
  (case h4|h14 => kernel_rfl)
