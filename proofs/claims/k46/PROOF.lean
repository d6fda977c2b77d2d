import PyProof.Rows.All
import Wide.All
import OpenK.AllK
import Wide.FinOn
import Lean
import PyProof.EqAt
import PyProof.EqKinds
import PyProof.TupleCall
import PyProof.FactsAll.dict
import PyProof.Rows.SeqMore
import PyProof.Rows.StrCase
import PyProof.ToksMono
import PyProof.AutoIntG2
import PySem.SetOps
import PyProof.SetScanFacts
import PyProof.DictIter
import PyProof.DictWalks
import KE.KItemsList
import PyProof.SetKind
import PyProof.Rows.SetFrom
import PyProof.ListNew
import PyProof.SetNew
import PyProof.SetRoads
import PyProof.FactsAll.set_1
import PyProof.TupleKey
import PyProof.IsRules
import PyProof.AutoListH
import PyProof.FactsAll.list_2
import PyProof.Rows.StrCut
import PyProof.FactsAll.tuple_3
import PyProof.StrOps2
import KE.KDictLaws
import PyProof.DictItems
import KE.KPairComp
import KE.KDictList
import PySem.Challenge.RW_besidewords_k46_whole_asked_by_ends
section
open PySem
abbrev HA:=List (List Str)
abbrev HB:=Value -> Shared -> Prop
abbrev HC:=List (Nat × Nat)
abbrev HD:=Array (Option Value)
abbrev HE:=Str -> Option Value
abbrev HF:=List Value
abbrev HG:=Array Value
abbrev HH:=Option Addr
abbrev HI:=List (Addr × Obj)
abbrev HK:=Result -> Shared -> Prop
abbrev HL:=List Str
abbrev HM:=List Int
abbrev HN:=List Nat
abbrev HQ:=Nat × Nat
end
open List (length_map mem_map getElem?_map map_map mem_cons map_append size_toArray map_cons mem_append getElem?_append_left mem_of_getElem? mem_cons_of_mem length_take take_length take_add_one mem_cons_self mem_append_right append_nil map_congr_left getElem_mem range_succ length_range nodup_cons getElem?_append_right cons_append length_cons lookup_cons not_mem_nil find?_cons any_eq_true map_nil length_filter_le take_append_drop mem_filter length_drop filter_map filter_append flatten_append)
open PySem.Heap (lt_size get?_push_of_some get?_push_size)
open PySem.W (Frag keepIn codeHdIn kla_obj envX mg_of mg_none_of)
set_option Elab.async false
set_option linter.all false
set_option maxRecDepth 100000
namespace L2
open PySem PySem.Spec PyProof.Rows
abbrev Key := Sum Int Str
def nO : Key -> Value -> Bool
 | .inl k, v => Value.isInt k v
 | .inr x, v => Value.isStrOf x v
def GA (w : World) : Key -> Int
 | .inl k => hashInt k
 | .inr x => hashStr w x
theorem bF : ∀ {k : Key} {v : Value}, nO k v = true -> (∃ i t, k = Sum.inl i /\ v = Value.int i t) \/ (∃ x t, k = Sum.inr x /\ v = Value.str x t)
 | .inl i, v, h => by
  obtain ⟨t, e⟩ := Value.isInt_shape (k := i) (v := v) h;exact .inl ⟨i, t, rfl, e⟩
 | .inr x, v, h => by
  obtain ⟨t, e⟩ := Value.isStrOf_shape (x := x) (v := v) h;exact .inr ⟨x, t, rfl, e⟩
theorem xA (i : Int) (t : Tok) : nO (.inl i) (.int i t) = true := by simp [nO, Value.isInt]
theorem wH (x : Str) (t : Tok) : nO (.inr x) (.str x t) = true := by simp [nO, Value.isStrOf]
theorem D5 (a b : Int) : decide ((Sum.inl a : Key) = Sum.inl b) = (a == b) := by
 by_cases e : a = b
 . subst e; simp
 . have h : ¬ (Sum.inl a : Key) = Sum.inl b := fun q => e (Sum.inl.inj q);rw [decide_eq_false h];exact (beq_eq_false_iff_ne.mpr e).symm
theorem Dw (a b : Str) : decide ((Sum.inr a : Key) = Sum.inr b) = decide (a = b) := by
 by_cases e : a = b
 . subst e; simp
 . have h : ¬ (Sum.inr a : Key) = Sum.inr b := fun q => e (Sum.inr.inj q);rw [decide_eq_false h, decide_eq_false e]
theorem Ee (a : Int) (b : Str) : decide ((Sum.inl a : Key) = Sum.inr b) = false := decide_eq_false (fun q => nomatch q)
theorem Dv (a : Str) (b : Int) : decide ((Sum.inr a : Key) = Sum.inl b) = false := decide_eq_false (fun q => nomatch q)
def bt (prog : Program) (w : World) : PySem.KeyKind prog w Key where
 is := nO
 hash := GA w
 inj := fun v a b ha hb => by
  rcases bF ha with ⟨i, t, rfl, rfl⟩ | ⟨x, t, rfl, rfl⟩
  . rcases bF hb with ⟨j, u, rfl, e⟩ | ⟨y, u, rfl, e⟩
    . injection e with e1 _; rw [e1]
    . exact nomatch e
  . rcases bF hb with ⟨j, u, rfl, e⟩ | ⟨y, u, rfl, e⟩
    . exact nomatch e
    . injection e with e1 _; rw [e1]
 byValue := fun k v h => by
  rcases bF h with ⟨i, t, rfl, rfl⟩ | ⟨x, t, rfl, rfl⟩ <;> rfl
 pyHash := fun hv h => by
  rcases bF hv with ⟨i, t, rfl, rfl⟩ | ⟨x, t, rfl, rfl⟩
  . exact wpAny_pyHash_int h
  . exact wpAny_pyHash_str h
 eqBool := fun hu hv h => by
  rcases bF hu with ⟨i, t, rfl, rfl⟩ | ⟨x, t, rfl, rfl⟩
  . rcases bF hv with ⟨j, u, rfl, rfl⟩ | ⟨y, u, rfl, rfl⟩
    . rw [D5] at h; exact wpAny_eqBool_int h
    . rw [Ee] at h; exact SeqAt.EqAt.int_str i t y u _ _ _ _ h
  . rcases bF hv with ⟨j, u, rfl, rfl⟩ | ⟨y, u, rfl, rfl⟩
    . rw [Dv] at h; exact SeqAt.EqAt.str_int x t j u _ _ _ _ h
    . rw [Dw] at h; exact wpAny_eqBool_str h
 «strs» := fun k x t v h => by
  rcases bF h with ⟨i, u, rfl, e⟩ | ⟨y, u, rfl, e⟩
  . exact nomatch e
  . injection e with e1 _;subst e1;cases v <;> rfl
theorem tJ (prog : Program) (w : World) (k : Key) (v : Value) : (bt prog w).is k v = nO k v := rfl
theorem sr (prog : Program) (w : World) (i : Int) (t : Tok) : (bt prog w).is (.inl i) (.int i t) = true := xA i t
theorem rV (prog : Program) (w : World) (x : Str) (t : Tok) : (bt prog w).is (.inr x) (.str x t) = true := wH x t
inductive V where
 | non | bl (b : Bool) | int (i : Int) | str (x : Str) | byt (b : Array UInt8) | flt (b : UInt64) | ref (a : Addr) | ty (n : String)
 deriving DecidableEq
def RelV : V -> Value -> Prop
 | .non, u => u = Value.none
 | .bl b, u => u = Value.bool b
 | .int i, u => ∃ t, u = Value.int i t
 | .str x, u => ∃ t, u = Value.str x t
 | .byt b, u => ∃ t, u = Value.bytes b t
 | .flt b, u => ∃ t, u = Value.float b t
 | .ref a, u => u = Value.ref a
 | .ty n, u => u = Value.type n
abbrev Vals : List V -> List Value -> Prop := Paired RelV
theorem Vals.length {xs : List V} {us : HF} (r : Vals xs us) : xs.length = us.length := Paired.length r
theorem Vals.get : ∀ {xs : List V} {us : HF} {i : Nat} {x : V}, Vals xs us -> xs[i]? = some x -> ∃ u, us[i]? = some u /\ RelV x u
 | _, _, _, _, .nil, e => by simp at e
 | _, _, 0, _, .cons r _, e => by simp at e; subst e; exact ⟨_, rfl, r⟩
 | _, _, i + 1, x, .cons _ t, e => by
  obtain ⟨u, h1, h2⟩ := Vals.get (i := i) (x := x) t (by simpa using e);exact ⟨u, by simpa using h1, h2⟩
theorem Vals.append : ∀ {xs ys : List V} {us ws : HF}, Vals xs us -> Vals ys ws -> Vals (xs ++ ys) (us ++ ws)
 | _, _, _, _, .nil, s => s
 | _, _, _, _, .cons r t, s => .cons r (Vals.append t s)
theorem Vals.take : ∀ {xs : List V} {us : HF} (n : Nat), Vals xs us -> Vals (xs.take n) (us.take n)
 | _, _, 0, _ => .nil
 | _, _, _ + 1, .nil => .nil
 | _, _, n + 1, .cons r t => .cons r (Vals.take n t)
theorem Vals.drop : ∀ {xs : List V} {us : HF} (n : Nat), Vals xs us -> Vals (xs.drop n) (us.drop n)
 | _, _, 0, r => r
 | _, _, _ + 1, .nil => .nil
 | _, _, n + 1, .cons _ t => Vals.drop n t
def gF : Option V -> Option Value -> Prop
 | some v, some u => RelV v u
 | none, none => True
 | _, _ => False
def KV {κ : Type} : List (κ × V) -> List (κ × Value) -> Prop := Paired fun (p : κ × V) (q : κ × Value) => p.1 = q.1 /\ RelV p.2 q.2
def kV : Key -> V
 | .inl i => .int i
 | .inr x => .str x
inductive HO where
 | lst (xs : List V)
 | tup (xs : List V)
 | dK (kvs : List (Key × V)) | dT (kvs : List (List Key × V))
 | set (S : Int -> Bool) (n : Nat)
 | ins (C dx : Addr) (fs : List (Str × V))
 | own (x : Addr)
 | xd (fs : List (Str × V))
 | met (f x : Addr)
 | rng (lo hi : Int)
 | frz (o : Obj) (u : HO)
 | tbl (ps : HG)
 | ext (φ : Heap -> Prop)
abbrev Hp := Addr -> Option HO
def upd (H : Hp) (a : Addr) (o : HO) : Hp := fun b => if b = a then some o else H b
theorem ak {H : Hp} {a : Addr} {o : HO} : upd H a o a = some o := by unfold upd; rw [if_pos rfl]
theorem ae {H : Hp} {a b : Addr} {o : HO} (h : b ≠ a) : upd H a o b = H b := by unfold upd; rw [if_neg h]
theorem eF {H : Hp} {a b : Addr} {o u : HO} (h : H a = some o) (h' : H b = some u) (d : o ≠ u) : a ≠ b := by
 intro e; subst e; rw [h] at h'; exact d (Option.some.inj h')
theorem aw {H : Hp} {a b : Addr} {o : HO} (h : H a = some o) (h' : H b = none) : a ≠ b := by
 intro e; subst e; rw [h] at h'; cases h'
section
variable (P : Program) (w : World)
def bR (H : Hp) (h : Heap) (a : Addr) : HO -> Prop
 | .lst xs => xs.length <= sizeLine /\ ∃ (its : HF) (n : Nat), Vals xs its /\ h.get? a = some { cls := .type "list", data := .seq its.toArray n }
 | .tup xs => xs.length <= sizeLine /\ ∃ its : List Value, Vals xs its /\ IsTup h a its.toArray
 | .dK kvs => kvs.length <= sizeLine /\ (a == sysModules) = false /\ ∃ vs, KV kvs vs /\ h.DictOf (bt P w) a vs
 | .dT kvs => kvs.length <= sizeLine /\ (a == sysModules) = false /\ ∃ xs : List (List Key × Addr × Value),
  Paired (fun (p : List Key × V) (q : List Key × Addr × Value) => p.1 = q.1 /\ H q.2.1 = some (.tup (p.1.map kV)) /\ RelV p.2 q.2.2) kvs xs /\
  ∃ o es ep, h.get? a = some o /\ o.ExactDict /\ o.data = .dict es ep /\ es.toList = xs.map (entryOfKey (tupleKind (bt P w))) /\ (xs.map (·.1)).Nodup
 | .set S n => h.SetOf (intKind P w) a S n
 | .ins C dx fs => H dx = some (.own a) /\ fs.length <= 1000 /\ dx ≠ a /\ h.get? a = some (PySem.W.instObj C dx) /\
  ∃ mA, h.Ns1 dx mA /\ (∀ f, gF (fs.lookup f) (mA f)) /\ PySem.Within mA (fs.map (·.1))
 | .own _ => ∃ o, h.get? a = some o
 | .xd fs => ∃ mA, h.Ns1 a mA /\ ∀ f, gF (fs.lookup f) (mA f)
 | .rng lo hi => ∃ t u v, h.get? a = some { cls := .type "range", data := .fields #[.int lo t, .int hi u, .int 1 v] }
 | .frz o u => h.get? a = some o /\ bR H h a u
 | .tbl ps => h.get? a = some { cls := .none, data := .fields ps }
 | .met f x => h.get? a = some (PySem.W.methodObj (.ref f) (.ref x))
 | .ext φ => φ h /\ (∃ o, h.get? a = some o) /\ ∀ h1 h2 : Heap, φ h1 -> (∀ o, h1.get? a = some o -> h2.get? a = some o) -> φ h2
def jM (H : Hp) (h : Heap) : Prop := ∀ a o, H a = some o -> bR P w H h a o
end
section
variable {P : Program} {w : World} {H H' : Hp} {h h' : Heap} {a : Addr} {o : HO}
theorem bR.lt (x : bR P w H h a o) : a < h.objs.size := by
 cases o with
 | lst xs => obtain ⟨_, _, _, _, e⟩ := x; exact lt_size e
 | tup xs => obtain ⟨_, _, _, p⟩ := x; exact p.lt
 | dK kvs => obtain ⟨_, _, _, _, o, _, _, e, _⟩ := x; exact lt_size e
 | dT kvs => obtain ⟨_, _, _, _, o, _, _, e, _⟩ := x; exact lt_size e
 | set S n => obtain ⟨o, _, _, _, e, _⟩ := x; exact lt_size e
 | ins C dx fs => obtain ⟨_, _, _, e, _⟩ := x; exact lt_size e
 | own y => obtain ⟨_, e⟩ := x; exact lt_size e
 | xd fs => obtain ⟨_, ⟨_, _, _, e, _⟩, _⟩ := x; exact lt_size e
 | rng lo hi => obtain ⟨_, _, _, e⟩ := x; exact lt_size e
 | frz ob u => obtain ⟨e, _⟩ := x; exact lt_size e
 | tbl ps => exact lt_size (show h.get? a = some _ from x)
 | met f y => exact lt_size (show h.get? a = some _ from x)
 | ext φ => obtain ⟨_, ⟨_, e⟩, _⟩ := x; exact lt_size e
theorem Paired.Dp {α β : Type} {F G : α -> β -> Prop} : ∀ {l₁ : List α} {l₂ : List β}, Paired F l₁ l₂ -> (∀ a b, F a b -> G a b) -> Paired G l₁ l₂
 | _, _, .nil, _ => .nil
 | _, _, .cons r t, f => .cons (f _ _ r) (Paired.Dp t f)
theorem bR.mq (x : bR P w H h a o) (k : ∀ b u, (b = a \/ H b = some (.own a)) -> h.get? b = some u -> h'.get? b = some u)
 (ho : ∀ b, H b = some (.own a) -> H' b = some (.own a)) (ht : ∀ b xs, H b = some (.tup xs) -> H' b = some (.tup xs)) : bR P w H' h' a o := by
 induction o with
 | lst xs => obtain ⟨z, its, n, r, e⟩ := x; exact ⟨z, its, n, r, k _ _ (.inl rfl) e⟩
 | tup xs => obtain ⟨z, its, r, ob, e, c⟩ := x; exact ⟨z, its, r, ob, k _ _ (.inl rfl) e, c⟩
 | dK kvs => obtain ⟨z, y, vs, r, ob, es, ep, e, c⟩ := x; exact ⟨z, y, vs, r, ob, es, ep, k _ _ (.inl rfl) e, c⟩
 | dT kvs =>
  obtain ⟨z, y, xs, r, ob, es, ep, e, c⟩ := x;exact ⟨z, y, xs, Paired.Dp r fun p q z => ⟨z.1, ht _ _ z.2.1, z.2.2⟩, ob, es, ep, k _ _ (.inl rfl) e, c⟩
 | set S n => obtain ⟨ob, es, ep, t, e, c⟩ := x; exact ⟨ob, es, ep, t, k _ _ (.inl rfl) e, c⟩
 | ins C dx fs =>
  obtain ⟨d, z, ne, e, mA, ⟨od, es, ep, e2, c⟩, r⟩ := x;exact ⟨ho _ d, z, ne, k _ _ (.inl rfl) e, mA, ⟨od, es, ep, k _ _ (.inr d) e2, c⟩, r⟩
 | own y => obtain ⟨ob, e⟩ := x; exact ⟨ob, k _ _ (.inl rfl) e⟩
 | xd fs => obtain ⟨mA, ⟨od, es, ep, e, c⟩, r⟩ := x; exact ⟨mA, ⟨od, es, ep, k _ _ (.inl rfl) e, c⟩, r⟩
 | rng lo hi => obtain ⟨t, u, v, e⟩ := x; exact ⟨t, u, v, k _ _ (.inl rfl) e⟩
 | frz ob u ih => obtain ⟨e, q⟩ := x; exact ⟨k _ _ (.inl rfl) e, ih q⟩
 | tbl ps =>
  have e : h.get? a = some { cls := .none, data := .fields ps } := x;show h'.get? a = some { cls := .none, data := .fields ps };exact k a _ (.inl rfl) e
 | met f y =>
  have e : h.get? a = some (PySem.W.methodObj (.ref f) (.ref y)) := x;show h'.get? a = some (PySem.W.methodObj (.ref f) (.ref y));exact k a _ (.inl rfl) e
 | ext φ => obtain ⟨p, ⟨o, e⟩, st⟩ := x; exact ⟨st _ _ p fun o q => k _ _ (.inl rfl) q, ⟨o, k _ _ (.inl rfl) e⟩, st⟩
theorem jM.lt (x : jM P w H h) (e : H a = some o) : a < h.objs.size := (x a o e).lt
theorem jM.fresh (x : jM P w H h) (e : h.objs.size <= a) : H a = none := by
 cases q : H a with
 | none => rfl
 | some u => exact absurd (Nat.lt_of_lt_of_le (x.lt q) e) (Nat.lt_irrefl _)
theorem jM.kept (x : jM P w H h) (k : ∀ b u, h.get? b = some u -> h'.get? b = some u) : jM P w H h' := fun a o e =>
 (x a o e).mq (fun b u _ q => k b u q) (fun _ q => q) fun _ _ q => q
theorem jM.laid (x : jM P w H h) (k : ∀ b u, h.get? b = some u -> h'.get? b = some u) (hp : h.objs.size <= a) (new : bR P w (upd H a o) h' a o) : jM P w (upd H a o) h' := fun b u e => by
 have hn := x.fresh hp;by_cases hb : b = a
 . subst hb; rw [ak] at e; cases e; exact new
 . rw [ae hb] at e;exact (x b u e).mq (fun c v _ q => k c v q) (fun c q => by rw [ae (aw q hn)]; exact q) fun c xs q => by rw [ae (aw q hn)]; exact q
end
def Rd (H : Hp) (a : Addr) (u : HO) : Prop := H a = some u \/ ∃ o, H a = some (.frz o u)
theorem Rd.ok {P : Program} {w : World} {H : Hp} {h : Heap} {a : Addr} {u : HO} (r : Rd H a u) (x : jM P w H h) : bR P w H h a u := by
 rcases r with r | ⟨o, r⟩
 . exact x a u r
 . obtain ⟨_, q⟩ := x a _ r;exact q
def Fd : Option HO -> Prop
 | some (.lst _) => True
 | some (.dK _) => True
 | some (.dT _) => True
 | some (.set _ _) => True
 | some (.ins _ _ _) => True
 | some (.ext _) => True
 | _ => False
section
variable {P : Program} {w : World} {H : Hp} {h h' : Heap} {x e : Addr} {o' : HO}
theorem jM.write (ok : jM P w H h) (mu : Fd (H x)) (he : e = x \/ H e = some (.own x)) (k : ∀ b u, b ≠ e -> h.get? b = some u -> h'.get? b = some u) (heo : ∃ u, h'.get? e = some u)
 (new : bR P w (upd H x o') h' x o') : jM P w (upd H x o') h' := fun b u q => by
 have nown : ∀ c y, H c = some (.own y) -> c ≠ x := fun c y r z => by subst z; rw [r] at mu; exact mu
 have wt : ∀ c xs, H c = some (.tup xs) -> c ≠ x := fun c xs r z => by subst z; rw [r] at mu; exact mu
 by_cases hb : b = x
 . subst hb; rw [ak] at q; cases q; exact new
 . rw [ae hb] at q;by_cases hbe : b = e
   . have q' : H b = some (.own x) := by
      rcases he with z | z
      . exact absurd (hbe.trans z) hb
      . rw [hbe]; exact z
     rw [q] at q'; cases q';obtain ⟨v, hv⟩ := heo;exact ⟨v, by rw [hbe]; exact hv⟩
   . refine (ok b u q).mq (fun c v hc r => k c v ?_ r) (fun c r => by rw [ae (nown c b r)]; exact r) fun c xs r => by rw [ae (wt c xs r)]; exact r
     rcases hc with rfl | hc
     . exact hbe
     . rintro rfl;rcases he with z | z
       . exact nown c b hc z
       . rw [hc] at z; cases z; exact hb rfl
end
structure Un (fs ex : List Addr) (H H' : Hp) (h h' : Heap) : Prop where
 keep : ∀ b o, h.get? b = some o -> H b = none -> b ∉ fs -> b ∉ ex -> h'.get? b = some o
 slot : ∀ b o, h.get? b = some o -> H b = none -> b ∈ fs -> b ∉ ex -> ∃ sl, h'.get? b = some { o with slots := sl }
 free : ∀ b o, h.get? b = some o -> H b = none -> b ∉ ex -> H' b = none
 there : ∀ b o, h.get? b = some o -> b ∉ ex -> ∃ o', h'.get? b = some o'
 tups : ∀ b xs, H b = some (.tup xs) -> H' b = some (.tup xs)
 frzs : ∀ b o u, H b = some (.frz o u) -> H' b = some (.frz o u)
 tbls : ∀ b ps, H b = some (.tbl ps) -> ∃ more, H' b = some (.tbl (ps ++ more))
section
variable {fs fs' ex ex' : List Addr} {H H1 H2 : Hp} {h h1 h2 h' : Heap} {a x e : Addr} {o : HO}
theorem Un.any (u : Un fs ex H H1 h h1) {b : Addr} {ob : Obj} (q : h.get? b = some ob) (n : H b = none) (hx : b ∉ ex) : ∃ sl, h1.get? b = some { ob with slots := sl } := by
 by_cases hb : b ∈ fs
 . exact u.slot b ob q n hb hx
 . exact ⟨ob.slots, u.keep b ob q n hb hx⟩
theorem Un.kept (k : ∀ b u, h.get? b = some u -> h'.get? b = some u) : Un fs ex H H h h' :=
 ⟨fun b ob q _ _ _ => k b ob q, fun b ob q _ _ _ => ⟨ob.slots, k b ob q⟩, fun _ _ _ n _ => n, fun b ob q _ => ⟨ob, k b ob q⟩, fun _ _ q => q, fun _ _ _ q => q, fun _ ps q => ⟨#[], by rw [q]; simp⟩⟩
theorem Un.refl : Un fs ex H H h h := Un.kept fun _ _ q => q
theorem Un.laid (k : ∀ b u, h.get? b = some u -> h'.get? b = some u) (hp : h.objs.size <= a) (hn : H a = none) : Un fs ex H (upd H a o) h h' where
 keep := fun b u q _ _ _ => k b u q
 slot := fun b u q _ _ _ => ⟨u.slots, k b u q⟩
 free := fun b u q n _ => by rw [ae (Nat.ne_of_lt (Nat.lt_of_lt_of_le (lt_size q) hp))]; exact n
 there := fun b u q _ => ⟨u, k b u q⟩
 tups := fun b xs q => by rw [ae (aw q hn)]; exact q
 frzs := fun b u xs q => by rw [ae (aw q hn)]; exact q
 tbls := fun b ps q => ⟨#[], by rw [ae (aw q hn), q]; simp⟩
theorem Un.write (mu : Fd (H x)) (he : e = x \/ H e = some (.own x)) (k : ∀ b u, b ≠ e -> h.get? b = some u -> h'.get? b = some u) (heo : ∃ u, h'.get? e = some u) : Un fs ex H (upd H x o) h h' := by
 have hx : ∀ b, H b = none -> b ≠ x := fun b n z => by subst z; rw [n] at mu; exact mu
 have hb : ∀ b, H b = none -> b ≠ e := fun b n z => by
  subst z;rcases he with r | r
  . exact hx b n r
  . rw [n] at r; cases r
 have hm : ∀ b u, H b = some u -> ¬ Fd (some u) -> b ≠ x := fun b u q nm z => by subst z; rw [q] at mu; exact nm mu
 refine ⟨fun b u q n _ _ => k b u (hb b n) q, fun b u q n _ _ => ⟨u.slots, k b u (hb b n) q⟩, fun b u q n _ => by rw [ae (hx b n)]; exact n, fun b u q _ => ?_,
  fun b xs q => by rw [ae (hm b _ q fun z => z)]; exact q, fun b u xs q => by rw [ae (hm b _ q fun z => z)]; exact q, fun b ps q => ⟨#[], by rw [ae (hm b _ q fun z => z), q]; simp⟩⟩
 by_cases hbe : b = e
 . subst hbe; exact heo
 . exact ⟨u, k b u hbe q⟩
end
def FZ (h : Heap) (H : Hp) : List Addr := (List.range h.objs.size).filter fun a => (H a).isSome
def n0 (h : Heap) (H : Hp) : Heap := PySem.W.hideAll h (FZ h H)
theorem wo (h : Heap) (H : Hp) : (n0 h H).objs.size = h.objs.size := PySem.W.hideAll_size _ _
theorem yP {h : Heap} {H : Hp} {b : Addr} {o : Obj} (e : h.get? b = some o) (n : H b = none) : (n0 h H).get? b = some o :=
 PySem.W.hideAll_get _ e fun hm => by
  have q : (H b).isSome = true := (mem_filter.mp hm).2;rw [n] at q; simp at q
theorem B8 {h : Heap} {H : Hp} {b : Addr} {o : Obj} (e : (n0 h H).get? b = some o) : h.get? b = some o /\ H b = none := by
 have e' : h.get? b = some o := PySem.W.of_hideAll (FZ h H) e;refine ⟨e', ?_⟩
 cases q : H b with
 | none => rfl
 | some x =>
  have hm : b ∈ FZ h H := mem_filter.mpr ⟨List.mem_range.mpr (lt_size e'), by simp [q]⟩;have z : (n0 h H).get? b = none := PySem.W.hideAll_none (FZ h H) hm;rw [z] at e; cases e
def AS (g h : Heap) (L : Addr) : List (Addr × Obj) := (List.range h.objs.size).filterMap fun a => if a = L \/ (g.get? a).isSome = true then none else (h.get? a).map fun o => (a, o)
def rest (g h : Heap) (L d : Addr) : List (Addr × Obj) := (AS g h L).filter fun p => decide (p.1 ≠ d)
structure Mod (K : Frag) (mg : HE) (base : Heap) : Prop where
 kin : K.In base
 glob : base.Ns mainGlobals mg
 blt : ∃ mb, base.Ns builtinsNs mb /\ ∀ x : Str, x ≠ "__name__" -> mb x = bootBuiltins x
 nolimit : base.NoLimit
structure Cx where
 prog : Program
 w : World
 K : Frag
 mg : Str -> Option Value
 base : Heap
 A : Around
 N : List Str
 s₀ : Shared
 H₀ : Hp
 env : Env
 outer : List Env
 stack : List Env
 ex : List Addr
 fn : Str -> Bool
 calm : Bool
 pn : List (Addr × Obj)
 xe : Value -> Shared -> Prop
def qg (l : List Env) : List Addr := l.filterMap (·.frame)
abbrev Cx.fs (X : Cx) : List Addr := qg X.outer
def sx (sc : Scope) (x : Str) : Prop := sc.names.lookup x = some .local \/ sc.names.lookup x = some .cell \/ sc.names.lookup x = some .free
def Loc (sc : Scope) (x : Str) : Prop := sc.names.lookup x = some .local \/ sc.names.lookup x = some .cell
def Look (env : Env) (h : Heap) (m : HE) (x : Str) (u : Value) : Prop :=
 (env.kindOf x = some .local /\ m x = some u) \/ ((env.kindOf x = some .cell \/ env.kindOf x = some .free) /\ ∃ c, env.cells.lookup x = some c /\ h.IsCell c (some u))
structure Cx.Ok (X : Cx) : Prop where
 mod : Mod X.K X.mg X.base
 kind : X.env.scope.kind = .function
 glob : X.env.globals = mainGlobals
 blt : X.env.builtins = builtinsNs
 above : X.s₀.heap.objs.size <= X.env.locals
 inj : ∀ x y c, X.env.cells.lookup x = some c -> X.env.cells.lookup y = some c -> x = y
 has : ∀ x, (X.env.kindOf x = some .cell \/ X.env.kindOf x = some .free) -> ∃ c, X.env.cells.lookup x = some c
 cab : ∀ x c, X.fn x = true -> X.env.cells.lookup x = some c -> X.s₀.heap.objs.size <= c
 hd : X.calm = true -> X.A.handled = none
 frames : X.A.frames = some X.stack
 stk : X.stack = X.outer \/ (X.stack = X.env :: X.outer /\ X.env.frame = some X.env.locals)
 exf : ∀ b ∈ X.ex, b ≠ X.env.locals /\ ∀ x c, X.env.cells.lookup x = some c -> c ≠ b
 bs : ∀ b o, X.base.get? b = some o -> X.s₀.heap.get? b = some o /\ X.H₀ b = none
 bsz : X.base.objs.size <= X.s₀.heap.objs.size
 noex : ∀ b o, X.base.get? b = some o -> b ∉ X.ex
 exfs : ∀ b ∈ X.ex, b ∉ X.fs
 gH : X.s₀.heap.FunFrames X.base X.outer
 frf : ∀ b ∈ X.fs, X.H₀ b = none
structure Inv (X : Cx) (pins : HI) (σ : List (Option V)) (H : Hp) (s : Shared) : Prop where
 ok : X.Ok
 os : s.os = X.s₀.os
 bare : AllBare s.gens
 base : Un X.fs X.ex X.H₀ H X.s₀.heap s.heap
 loc : ∃ m, s.heap.Ns X.env.locals m /\ ∀ (i : Nat) (x : Str) (v : V), X.N[i]? = some x -> σ[i]? = some (some v) -> sx X.env.scope x -> ∃ u, RelV v u /\ Look X.env s.heap m x u
 cell : ∀ x c, X.env.cells.lookup x = some c -> ∃ v, s.heap.IsCell c v
 free : H X.env.locals = none
 freeC : ∀ x c, X.env.cells.lookup x = some c -> H c = none
 pin : ∀ p ∈ X.pn ++ pins, s.heap.get? p.1 = some p.2 /\ H p.1 = none /\ p.1 ≠ X.env.locals /\ p.1 ∉ X.fs /\ ∀ v, p.2.data ≠ .cell v
 hok : jM X.prog X.w H s.heap
 len : σ.length = X.N.length
section
variable {X : Cx} {pins : HI} {σ : List (Option V)} {H H' : Hp} {s : Shared} {h' : Heap}
theorem Cx.Ok.GR (ok : X.Ok) {b : Addr} {o : Obj} (e : X.base.get? b = some o) : b ∉ X.fs := fun hb => by
 have := (ok.gH.mem hb).1;rw [e] at this; cases this
theorem Inv.bs (I : Inv X pins σ H s) : ∀ b o, X.base.get? b = some o -> s.heap.get? b = some o /\ H b = none := fun b o e =>
 ⟨I.base.keep b o (I.ok.bs b o e).1 (I.ok.bs b o e).2 (I.ok.GR e) (I.ok.noex b o e), I.base.free b o (I.ok.bs b o e).1 (I.ok.bs b o e).2 (I.ok.noex b o e)⟩
theorem Inv.bk (I : Inv X pins σ H s) : ∀ b o, X.base.get? b = some o -> s.heap.get? b = some o := fun b o e => (I.bs b o e).1
theorem Inv.mod (I : Inv X pins σ H s) : Mod X.K X.mg X.base := I.ok.mod
theorem Inv.BZ (I : Inv X pins σ H s) : X.K.In s.heap := I.ok.mod.kin.keeps I.bk
theorem Inv.nolimit (I : Inv X pins σ H s) : s.heap.NoLimit := I.ok.mod.nolimit.keeps I.bk
theorem Inv.lt (I : Inv X pins σ H s) : X.env.locals < s.heap.objs.size := let ⟨_, hn, _⟩ := I.loc; hn.lt
theorem Inv.sz (I : Inv X pins σ H s) : X.s₀.heap.objs.size <= s.heap.objs.size := Nat.le_trans I.ok.above (Nat.le_of_lt I.lt)
theorem Inv.GS (I : Inv X pins σ H s) {a : Addr} (h : s.heap.objs.size <= a) : a ∉ X.fs := fun hb => by
 obtain ⟨_, o, ho, _⟩ := I.ok.gH.mem hb;exact absurd (Nat.lt_of_lt_of_le (lt_size ho) (Nat.le_trans I.sz h)) (Nat.lt_irrefl _)
theorem Inv.CA (I : Inv X pins σ H s) : ∀ x c, X.env.cells.lookup x = some c -> c ≠ X.env.locals := fun x c e z => by
 obtain ⟨v, o, ho, hd⟩ := I.cell x c e;obtain ⟨m, ⟨o', es, ep, ho', hd', _⟩, _⟩ := I.loc;rw [z, ho'] at ho; cases ho; rw [hd'] at hd; cases hd
theorem Inv.gH (I : Inv X pins σ H s) : s.heap.FunFrames X.base X.outer := by
 have all : ∀ (l : List Env), (∀ b ∈ qg l, b ∈ X.fs) -> X.s₀.heap.FunFrames X.base l -> s.heap.FunFrames X.base l := by
  intro l
  induction l with
  | nil => intro _ _; trivial
  | cons env r ih =>
   intro hs hl;obtain ⟨hk, ⟨L, o, hf, hn, ho, hd⟩, hr⟩ := hl;have hL : L ∈ X.fs := hs L (by unfold qg; rw [List.filterMap_cons, hf]; exact mem_cons_self);obtain ⟨sl, e⟩ := I.base.slot L o ho (I.ok.frf L hL) hL fun z => I.ok.exfs L z hL;exact ⟨hk, ⟨L, _, hf, hn, e, hd⟩, ih (fun b hb => hs b (by unfold qg; rw [List.filterMap_cons, hf]; exact mem_cons_of_mem _ hb)) hr⟩
 exact all X.outer (fun _ hb => hb) I.ok.gH
theorem Inv.stack (I : Inv X pins σ H s) : s.heap.FunFrames X.base X.stack := by
 rcases I.ok.stk with e | ⟨e, hf⟩
 . rw [e]; exact I.gH
 . rw [e];obtain ⟨m, hn, _⟩ := I.loc;refine .cons (by rw [I.ok.kind]; decide) hf hn ?_ I.gH;exact Heap.get?_none_of_le (Nat.le_trans I.ok.bsz I.ok.above)
theorem Inv.uj (I : Inv X pins σ H s) : ∀ b ∈ qg X.stack, b ∈ X.env.locals :: X.fs := fun b hb => by
 rcases I.ok.stk with e | ⟨e, hf⟩
 . rw [e] at hb; exact mem_cons_of_mem _ hb
 . rw [e] at hb;unfold qg at hb;rw [List.filterMap_cons, hf] at hb;exact hb
theorem Inv.vF (I : Inv X pins σ H s) : ∀ b ∈ qg X.stack, H b = none := fun b hb => by
 rcases mem_cons.mp (I.uj b hb) with e | hb
 . rw [e]; exact I.free
 . obtain ⟨_, o, ho, _⟩ := I.ok.gH.mem hb;exact I.base.free b o ho (I.ok.frf b hb) fun z => I.ok.exfs b z hb
theorem Inv.step {g' : Array GenState} {t' : Nat} {d' : Drawn} {ch : List Addr} (I : Inv X pins σ H s)
 (hch : ∀ b ∈ ch, (b ∈ X.ex \/ X.s₀.heap.get? b = none) /\ b ≠ X.env.locals /\ (∀ x c, X.env.cells.lookup x = some c -> c ≠ b) /\ ∀ p ∈ X.pn ++ pins, p.1 ≠ b)
 (keep : ∀ b o, b ≠ X.env.locals -> b ∉ X.fs -> b ∉ ch -> s.heap.get? b = some o -> H b = none -> h'.get? b = some o)
 (slot : ∀ b o, b ≠ X.env.locals -> b ∈ X.fs -> b ∉ ch -> s.heap.get? b = some o -> H b = none -> ∃ sl, h'.get? b = some { o with slots := sl }) (free : ∀ b o, b ∉ ch -> s.heap.get? b = some o -> H b = none -> H' b = none)
 (there : ∀ b o, b ∉ ch -> s.heap.get? b = some o -> ∃ o', h'.get? b = some o')
 (tups : ∀ b xs, H b = some (.tup xs) -> H' b = some (.tup xs)) (frzs : ∀ b o u, H b = some (.frz o u) -> H' b = some (.frz o u)) (tbls : ∀ b ps, H b = some (.tbl ps) -> ∃ more, H' b = some (.tbl (ps ++ more)))
 (ns : ∀ m, s.heap.Ns X.env.locals m -> h'.Ns X.env.locals m) (hok : jM X.prog X.w H' h') (hg : AllBare g') :
 Inv X pins σ H' { s with heap := h', gens := g', drawn := d', toks := t' } := by
 have neL : ∀ b o, X.s₀.heap.get? b = some o -> b ≠ X.env.locals := fun b o e => Nat.ne_of_lt (Nat.lt_of_lt_of_le (lt_size e) I.ok.above);have neC : ∀ b o, X.s₀.heap.get? b = some o -> b ∉ X.ex -> b ∉ ch := fun b o e hx hb => by
  rcases (hch b hb).1 with z | z
  . exact hx z
  . rw [z] at e; cases e
 have cellK : ∀ x c, X.env.cells.lookup x = some c -> ∀ v, s.heap.IsCell c v -> h'.IsCell c v := fun x c e v ⟨o, ho, hd⟩ => by
  have nch : c ∉ ch := fun z => (hch c z).2.2.1 x c e rfl;by_cases hc : c ∈ X.fs
  . obtain ⟨sl, q⟩ := slot c o (I.CA x c e) hc nch ho (I.freeC x c e);exact ⟨_, q, hd⟩
  . exact ⟨o, keep c o (I.CA x c e) hc nch ho (I.freeC x c e), hd⟩
 refine ⟨I.ok, I.os, hg, ⟨fun b o e n hb hx => ?_, fun b o e n hb hx => ?_, fun b o e n hx => ?_, fun b o e hx => ?_, fun b xs e => tups b xs (I.base.tups b xs e), fun b o xs e => frzs b o xs (I.base.frzs b o xs e), fun b ps e => ?_⟩, ?_, fun x c e => ?_, ?_, fun x c e => ?_, fun p hp => ?_, hok, I.len⟩
 . exact keep b o (neL b o e) hb (neC b o e hx) (I.base.keep b o e n hb hx) (I.base.free b o e n hx)
 . obtain ⟨sl, e1⟩ := I.base.slot b o e n hb hx;obtain ⟨sl', e2⟩ := slot b _ (neL b o e) hb (neC b o e hx) e1 (I.base.free b o e n hx);exact ⟨sl', e2⟩
 . obtain ⟨o', e1⟩ := I.base.there b o e hx;exact free b o' (neC b o e hx) e1 (I.base.free b o e n hx)
 . obtain ⟨o', e1⟩ := I.base.there b o e hx;exact there b o' (neC b o e hx) e1
 . obtain ⟨m1, e1⟩ := I.base.tbls b ps e;obtain ⟨m2, e2⟩ := tbls b _ e1;exact ⟨m1 ++ m2, by rw [e2, Array.append_assoc]⟩
 . obtain ⟨m, hn, hl⟩ := I.loc;refine ⟨m, ns m hn, fun i x v e1 e2 e3 => ?_⟩;obtain ⟨u, r, l⟩ := hl i x v e1 e2 e3;refine ⟨u, r, ?_⟩;rcases l with l | ⟨k, c, e, z⟩
   . exact .inl l
   . exact .inr ⟨k, c, e, cellK x c e _ z⟩
 . obtain ⟨v, z⟩ := I.cell x c e;exact ⟨v, cellK x c e v z⟩
 . obtain ⟨m, ⟨o, _, _, ho, _⟩, _⟩ := I.loc;exact free _ o (fun z => (hch _ z).2.1 rfl) ho I.free
 . obtain ⟨v, o, ho, hd⟩ := I.cell x c e;exact free c o (fun z => (hch c z).2.2.1 x c e rfl) ho (I.freeC x c e)
 . obtain ⟨e, n, ne, nf, d⟩ := I.pin p hp;have nch : p.1 ∉ ch := fun z => (hch p.1 z).2.2.2 p hp rfl;exact ⟨keep p.1 p.2 ne nf nch e n, free p.1 p.2 nch e n, ne, nf, d⟩
theorem Inv.un {t' : Nat} (I : Inv X pins σ H s) (u : Un X.fs [] H H' s.heap h') (hok : jM X.prog X.w H' h') : Inv X pins σ H' { s with heap := h', toks := t' } := by
 obtain ⟨m, ⟨o, es, ep, ho, r⟩, _⟩ := id I.loc;obtain ⟨sl, hL⟩ := u.any ho I.free (by simp);exact I.step (g' := s.gens) (d' := s.drawn) (ch := []) (fun _ z => nomatch z) (fun b o _ hb _ e n => u.keep b o e n hb (by simp)) (fun b o _ hb _ e n => u.slot b o e n hb (by simp)) (fun b o _ e n => u.free b o e n (by simp)) (fun b o _ e => u.there b o e (by simp)) u.tups u.frzs u.tbls (fun m' hm => by
  obtain ⟨o', es', ep', ho', r'⟩ := hm;rw [ho] at ho'; cases ho';exact ⟨_, es', ep', hL, r'⟩) hok I.bare
theorem Inv.call {g' : Array GenState} {t' : Nat} {d' : Drawn} {ch : List Addr} (I : Inv X pins σ H s) (u : Un (qg X.stack) ch H H' s.heap h') (hok : jM X.prog X.w H' h') (hg : AllBare g')
 (hch : ∀ b ∈ ch, (b ∈ X.ex \/ X.s₀.heap.get? b = none) /\ b ≠ X.env.locals /\ (∀ x c, X.env.cells.lookup x = some c -> c ≠ b) /\ ∀ p ∈ X.pn ++ pins, p.1 ≠ b) :
 Inv X pins σ H' { s with heap := h', gens := g', drawn := d', toks := t' } := by
 obtain ⟨m, ⟨o, es, ep, ho, r⟩, _⟩ := id I.loc;obtain ⟨sl, hL⟩ := u.any ho I.free fun z => (hch _ z).2.1 rfl;exact I.step (ch := ch) hch (fun b o hL hb hc e n => u.keep b o e n (fun z => (mem_cons.mp (I.uj b z)).elim hL hb) hc) (fun b o _ _ hc e n => u.any e n hc) (fun b o hc e n => u.free b o e n hc) (fun b o hc e => u.there b o e hc) u.tups u.frzs u.tbls (fun m' hm => by
  obtain ⟨o', es', ep', ho', r'⟩ := hm;rw [ho] at ho'; cases ho';exact ⟨_, es', ep', hL, r'⟩) hok hg
theorem Inv.turned {t' : Nat} {it : Addr} (I : Inv X pins σ H s) (k : ∀ b o, b ≠ it -> s.heap.get? b = some o -> h'.get? b = some o) (hn : H it = none) (hL : it ≠ X.env.locals)
 (h1 : it ∈ X.ex \/ X.s₀.heap.get? it = none) (h2 : ∀ x c, X.env.cells.lookup x = some c -> c ≠ it) (h3 : ∀ p ∈ X.pn ++ pins, p.1 ≠ it) : Inv X pins σ H { s with heap := h', toks := t' } := by
 have nit : ∀ b u, H b = some u -> b ≠ it := fun b u e z => by rw [z, hn] at e; cases e
 refine I.step (g' := s.gens) (d' := s.drawn) (ch := [it]) (fun b hb => ?_) (fun b o _ _ hc e _ => k b o (fun z => hc (by simp [z])) e) (fun b o _ _ hc e _ => ⟨o.slots, k b o (fun z => hc (by simp [z])) e⟩) (fun _ _ _ _ n => n)
  (fun b o hc e => ⟨o, k b o (fun z => hc (by simp [z])) e⟩) (fun _ _ e => e) (fun _ _ _ e => e) (fun b ps e => ⟨#[], by rw [e]; simp⟩) (fun m hm => ?_) (fun b u e => ?_) I.bare
 . have e : b = it := by simpa using hb
   subst e;exact ⟨h1, hL, h2, h3⟩
 . obtain ⟨o, es, ep, ho, r⟩ := hm;exact ⟨o, es, ep, k _ o (Ne.symm hL) ho, r⟩
 . refine (I.hok b u e).mq (fun c v hc q => k c v ?_ q) (fun _ q => q) fun _ _ q => q;rcases hc with z | z
   . rw [z]; exact nit b u e
   . exact nit c _ z
theorem Inv.tok (I : Inv X pins σ H s) (t : Nat) : Inv X pins σ H { s with toks := t } := I.un (h' := s.heap) (t' := t) Un.refl I.hok
theorem Inv.kept {t' : Nat} (I : Inv X pins σ H s) (k : ∀ b u, s.heap.get? b = some u -> h'.get? b = some u) : Inv X pins σ H { s with heap := h', toks := t' } := I.un (Un.kept k) (I.hok.kept k)
theorem Inv.laid {a : Addr} {o : HO} {t' : Nat} (I : Inv X pins σ H s) (k : ∀ b u, s.heap.get? b = some u -> h'.get? b = some u) (hp : s.heap.objs.size <= a) (new : bR X.prog X.w (upd H a o) h' a o) :
 Inv X pins σ (upd H a o) { s with heap := h', toks := t' } := I.un (Un.laid k hp (I.hok.fresh hp)) (I.hok.laid k hp new)
theorem Inv.write {x e : Addr} {o : HO} {t' : Nat} (I : Inv X pins σ H s) (mu : Fd (H x)) (he : e = x \/ H e = some (.own x)) (k : ∀ b u, b ≠ e -> s.heap.get? b = some u -> h'.get? b = some u) (heo : ∃ u, h'.get? e = some u)
 (new : bR X.prog X.w (upd H x o) h' x o) : Inv X pins σ (upd H x o) { s with heap := h', toks := t' } := I.un (Un.write mu he k heo) (I.hok.write mu he k heo new)
theorem Inv.uW {pins' : HI} (I : Inv X pins σ H s) (h : ∀ p ∈ pins', s.heap.get? p.1 = some p.2 /\ H p.1 = none /\ p.1 ≠ X.env.locals /\ p.1 ∉ X.fs /\ ∀ v, p.2.data ≠ .cell v) : Inv X pins' σ H s :=
 ⟨I.ok, I.os, I.bare, I.base, I.loc, I.cell, I.free, I.freeC, fun p hp => (mem_append.mp hp).elim (fun z => I.pin p (List.mem_append_left _ z)) (h p), I.hok, I.len⟩
theorem ro {N : HL} (hN : N.Nodup) {i j : Nat} {x : Str} (a : N[i]? = some x) (b : N[j]? = some x) : i = j := by
 obtain ⟨h1, e1⟩ := List.getElem?_eq_some_iff.mp a;obtain ⟨h2, e2⟩ := List.getElem?_eq_some_iff.mp b;exact (List.getElem_inj hN).mp (e1.trans e2.symm)
abbrev HfX (X : Cx) (x : Str) : Prop := X.fn x = true ∨  X.env.scope.names.lookup x = some .local
theorem oT {M : Model} {A : Around} {E : HB} {i : Nat} {x : Str} {v : V} {u : Value} {Q : Unit -> Shared -> Prop} (I : Inv X pins σ H s) (hN : X.N.Nodup) (hi : X.N[i]? = some x) (hx : Loc X.env.scope x) (r : RelV v u)
 (h : ∀ s', Inv X pins (σ.set i (some v)) H s' -> (∃ a, Heap.SameBut a s.heap s'.heap /\ (a = X.env.locals \/ X.env.cells.lookup x = some a)) -> Q () s') (hf : HfX X x := by first | exact .inl rfl | exact .inr rfl | assumption) : wpAny M A (storeName X.env x u) Q E s := by
 obtain ⟨m, hn, hl⟩ := id I.loc;have hcls : (X.env.scope.kind == .class || (X.env.scope.kind == .module && X.env.locals != X.env.globals)) = false := by rw [I.ok.kind]; rfl
 have hiσ : i < σ.length := by rw [I.len]; exact (List.getElem?_eq_some_iff.mp hi).1
 have CA := I.CA;have tracked : ∀ {a : Addr} {h' : Heap}, (∃ o, s.heap.get? a = some o /\ H a = none) -> Heap.SameBut a s.heap h' -> jM X.prog X.w H h' := fun {a h'} ha hs b ob e => by
  obtain ⟨_, _, hfree⟩ := ha;refine (I.hok b ob e).mq (fun c w' hc q => (hs.2 c ?_).trans q) (fun _ q => q) fun _ _ q => q;rintro rfl;rcases hc with rfl | hc
  . rw [hfree] at e; cases e
  . rw [hfree] at hc; cases hc
 rcases hx with hk | hk
 . refine wpAny_storeName_local hk hn (fun h' hn' hs => ?_) hcls;obtain ⟨oL, _, _, hoL, _⟩ := id hn;refine h _ ⟨I.ok, I.os, I.bare, ⟨fun b o e n hb hx => ?_, fun b o e n hb hx => ?_, I.base.free, fun b o e hx => ?_, I.base.tups, I.base.frzs, I.base.tbls⟩, ⟨_, hn', fun j y v' e1 e2 e3 => ?_⟩, fun y c e => ?_, I.free, I.freeC, fun p hp => ?_, tracked ⟨oL, hoL, I.free⟩ hs, by simpa using I.len⟩ ⟨_, hs, .inl rfl⟩
   . exact (hs.2 b (Nat.ne_of_lt (Nat.lt_of_lt_of_le (lt_size e) I.ok.above))).trans (I.base.keep b o e n hb hx)
   . obtain ⟨sl, e1⟩ := I.base.slot b o e n hb hx;exact ⟨sl, (hs.2 b (Nat.ne_of_lt (Nat.lt_of_lt_of_le (lt_size e) I.ok.above))).trans e1⟩
   . obtain ⟨o', e1⟩ := I.base.there b o e hx;exact ⟨o', (hs.2 b (Nat.ne_of_lt (Nat.lt_of_lt_of_le (lt_size e) I.ok.above))).trans e1⟩
   . by_cases hj : j = i
     . subst hj;rw [hi] at e1; cases e1;rw [List.getElem?_set_self hiσ] at e2;cases e2;exact ⟨u, r, .inl ⟨hk, by simp⟩⟩
     . rw [List.getElem?_set_ne (Ne.symm hj)] at e2;obtain ⟨u', r', q⟩ := hl j y v' e1 e2 e3;refine ⟨u', r', ?_⟩;rcases q with ⟨k, e⟩ | ⟨k, c, e, z⟩
       . refine .inl ⟨k, ?_⟩;have : y ≠ x := fun e => hj (ro hN e1 (e ▸ hi));simp [this, e]
       . exact .inr ⟨k, c, e, z.sameBut hs (CA y c e)⟩
   . obtain ⟨w', z⟩ := I.cell y c e;exact ⟨w', z.sameBut hs (CA y c e)⟩
   . obtain ⟨e, n, ne, nf, d⟩ := I.pin p hp;exact ⟨(hs.2 p.1 ne).trans e, n, ne, nf, d⟩
 . have hfn : X.fn x = true := by
    rcases hf with z | z
    . exact z
    . rw [z] at hk; cases hk
   obtain ⟨c, hc⟩ := I.ok.has x (.inl hk);obtain ⟨w', z⟩ := I.cell x c hc;refine wpAny_storeName_cell I.ok.kind hk hc z (fun h' hc' hs => ?_);obtain ⟨oc, hoc, hocd⟩ := id z;refine h { s with heap := h' } ⟨I.ok, I.os, I.bare, ⟨fun b o e n hb hx => ?_, fun b o e n hb hx => ?_, I.base.free, fun b o e hx => ?_, I.base.tups, I.base.frzs, I.base.tbls⟩, ⟨m, hn.sameBut hs (Ne.symm (CA x c hc)), fun j y v' e1 e2 e3 => ?_⟩, fun y c' e => ?_, I.free, I.freeC, fun p hp => ?_, tracked ⟨oc, hoc, I.freeC x c hc⟩ hs, by simpa using I.len⟩ ⟨c, hs, .inr hc⟩
   . exact (hs.2 b (Nat.ne_of_lt (Nat.lt_of_lt_of_le (lt_size e) (I.ok.cab x c hfn hc)))).trans (I.base.keep b o e n hb hx)
   . obtain ⟨sl, e1⟩ := I.base.slot b o e n hb hx;exact ⟨sl, (hs.2 b (Nat.ne_of_lt (Nat.lt_of_lt_of_le (lt_size e) (I.ok.cab x c hfn hc)))).trans e1⟩
   . obtain ⟨o', e1⟩ := I.base.there b o e hx;exact ⟨o', (hs.2 b (Nat.ne_of_lt (Nat.lt_of_lt_of_le (lt_size e) (I.ok.cab x c hfn hc)))).trans e1⟩
   . by_cases hj : j = i
     . subst hj;rw [hi] at e1; cases e1;rw [List.getElem?_set_self hiσ] at e2;cases e2;exact ⟨u, r, .inr ⟨.inl hk, c, hc, hc'⟩⟩
     . rw [List.getElem?_set_ne (Ne.symm hj)] at e2;obtain ⟨u', r', q⟩ := hl j y v' e1 e2 e3;refine ⟨u', r', ?_⟩;rcases q with q | ⟨k, c', e, z'⟩
       . exact .inl q
       . refine .inr ⟨k, c', e, z'.sameBut hs ?_⟩;rintro rfl;exact hj (ro hN e1 (I.ok.inj _ _ _ e hc ▸ hi))
   . by_cases hcc : c' = c
     . subst hcc; exact ⟨_, hc'⟩
     . obtain ⟨w2, z2⟩ := I.cell y c' e;exact ⟨w2, z2.sameBut hs hcc⟩
   . obtain ⟨e, n, ne, nf, d⟩ := I.pin p hp;refine ⟨(hs.2 p.1 ?_).trans e, n, ne, nf, d⟩;intro q;rw [q, hoc] at e;have q' : oc = p.2 := Option.some.inj e;exact d w' (by rw [<- q']; exact hocd)
theorem sS {M : Model} {A : Around} {E : HB} {i : Nat} {x : Str} {v : V} {u : Value} {Q : Unit -> Shared -> Prop} (I : Inv X pins σ H s) (hN : X.N.Nodup) (hi : X.N[i]? = some x) (hx : Loc X.env.scope x) (r : RelV v u)
 (h : ∀ s', Inv X pins (σ.set i (some v)) H s' -> Q () s') (hf : HfX X x := by first | exact .inl rfl | exact .inr rfl | assumption) : wpAny M A (storeName X.env x u) Q E s :=
 oT I hN hi hx r (fun s' I' _ => h s' I') hf
theorem Inv.FE {s' : Shared} {ch : List Addr} (I : Inv X pins σ H s) (ho : s'.os = s.os) (u : Un (qg X.stack) ch H H' s.heap s'.heap) (hok : jM X.prog X.w H' s'.heap) (hg : AllBare s'.gens)
 (hch : ∀ b ∈ ch, (b ∈ X.ex \/ X.s₀.heap.get? b = none) /\ b ≠ X.env.locals /\ (∀ x c, X.env.cells.lookup x = some c -> c ≠ b) /\ ∀ p ∈ X.pn ++ pins, p.1 ≠ b) : Inv X pins σ H' s' := by
 obtain ⟨h', g', d', t', o'⟩ := s';have e : o' = s.os := ho;subst e;exact I.call (g' := g') (t' := t') (d' := d') u hok hg hch
end
abbrev XK := Value -> Option Addr -> Hp -> Prop
abbrev St := List (Option V)
abbrev VK := V -> Hp -> Prop
abbrev TE := St -> Hp -> VK -> Prop
abbrev TT := St -> Hp -> (Bool -> Hp -> Prop) -> Prop
abbrev TA := St -> Hp -> (List V -> Hp -> Prop) -> Prop
structure Ends where
 nx : St -> Hp -> Prop
 rt : VK
 bk : St -> Hp -> Prop := fun _ _ => False
 ct : St -> Hp -> Prop := fun _ _ => False
abbrev TS := Ends -> St -> Hp -> Prop
def EP (X : Cx) (pins : HI) (σ : St) (Q : VK) (u : Value) (s' : Shared) : Prop := ∃ v H', Inv X pins σ H' s' /\ RelV v u /\ Q v H'
def TP (X : Cx) (pins : HI) (σ : St) (Q : Bool -> Hp -> Prop) (b : Bool) (s' : Shared) : Prop := ∃ H', Inv X pins σ H' s' /\ Q b H'
def AP (X : Cx) (pins : HI) (σ : St) (Q : List V -> Hp -> Prop) (us : HF) (s' : Shared) : Prop := ∃ vs H', Inv X pins σ H' s' /\ Vals vs us /\ Q vs H'
def SP (X : Cx) (pins : HI) (D : Ends) (f : Flow) (s' : Shared) : Prop :=
 match f with
 | .next => ∃ σ' H', Inv X pins σ' H' s' /\ D.nx σ' H'
 | .brk => ∃ σ' H', Inv X pins σ' H' s' /\ D.bk σ' H'
 | .cont => ∃ σ' H', Inv X pins σ' H' s' /\ D.ct σ' H'
 | .ret u => ∃ v σ' H', Inv X pins σ' H' s' /\ RelV v u /\ D.rt v H'
def PE (X : Cx) (e : Expr) (t : TE) : Prop :=
 ∀ (pins : HI) (s : Shared) (σ : St) (H : Hp) (Q : VK), Inv X pins σ H s -> t σ H Q -> wpAny (model X.prog X.w) X.A (eval e X.env) (EP X pins σ Q) X.xe s
def PT (X : Cx) (e : Expr) (t : TT) : Prop :=
 ∀ (pins : HI) (s : Shared) (σ : St) (H : Hp) (Q : Bool -> Hp -> Prop), Inv X pins σ H s -> t σ H Q -> wpAny (model X.prog X.w) X.A (isTrue e X.env (eval e X.env)) (TP X pins σ Q) X.xe s
def PW (X : Cx) (e : Expr) (t : TT) : Prop :=
 ∀ (whole : Sem Value) (pins : HI) (s : Shared) (σ : St) (H : Hp) (Q : Bool -> Hp -> Prop), Inv X pins σ H s -> t σ H Q -> wpAny (model X.prog X.w) X.A (isTrue e X.env whole) (TP X pins σ Q) X.xe s
theorem PW.pt {X : Cx} {e : Expr} {t : TT} (h : PW X e t) : PT X e t := h _
def PA (X : Cx) (es : List Expr) (t : TA) : Prop :=
 ∀ (pos : Pos) (pins : HI) (s : Shared) (σ : St) (H : Hp) (Q : List V -> Hp -> Prop), Inv X pins σ H s -> t σ H Q -> wpAny (model X.prog X.w) X.A (spliced (backTo pos (starEach es X.env))) (AP X pins σ Q) X.xe s
def PS (X : Cx) (st : Stmt) (t : TS) : Prop :=
 ∀ (pins : HI) (s : Shared) (σ : St) (H : Hp) (D : Ends), Inv X pins σ H s -> t D σ H -> wpAny (model X.prog X.w) X.A (exec st X.env) (SP X pins D) X.xe s
def nV (X : Cx) (st : List Stmt) (t : TS) : Prop :=
 ∀ (pins : HI) (s : Shared) (σ : St) (H : Hp) (D : Ends), Inv X pins σ H s -> t D σ H -> wpAny (model X.prog X.w) X.A (execs st X.env) (SP X pins D) X.xe s
theorem cy {α : Type} {t : Sem α} {Q Q' : α -> Shared -> Prop} {M : Model} {A : Around} {E : HB} {s : Shared} (h : wpAny M A t Q E s) (hQ : ∀ a s, Q a s -> Q' a s) : wpAny M A t Q' E s := wpAny_mono h hQ fun _ _ x => x
section
variable {X : Cx}
def Gv (i : Nat) : TE := fun σ H Q => ∃ v, σ[i]? = some (some v) /\ Q v H
def tC (v : V) : TE := fun _ H Q => Q v H
abbrev NdX (x : Str) : Prop := (x == ("__debug__":Str)) = false
abbrev NcX (x : Str) : Prop := (x == ("__classdict__":Str)) = false
theorem dg {i : Nat} {x : Str} {pos : Pos} (hN : X.N[i]? = some x) (hv : sx X.env.scope x) (hd : NdX x := by decide) (hcd : NcX x := by decide) : PE X (.Name x pos) (Gv i) := by
 intro pins s σ H Q I h;obtain ⟨v, e, h⟩ := h;obtain ⟨m, hn, hl⟩ := I.loc;obtain ⟨u, r, l⟩ := hl i x v hN e hv;have fin : EP X pins σ Q u s := ⟨v, H, I, r, h⟩
 rcases l with ⟨hk, hm⟩ | ⟨hk, c, hc, hcell⟩
 . exact wpAny_Name (wpAny_loadName_local I.ok.kind hk hn hm fin) hd
 . rcases hk with hk | hk
   . exact wpAny_Name (wpAny_loadName_cell I.ok.kind hk hc hcell fin) hd
   . exact wpAny_Name (wpAny_loadName_free I.ok.kind hk hc hcell fin hcd) hd
theorem DG {i j pos} : PE X (.Constant (.int i) j pos) (tC (.int i)) := fun _ _ _ H _ I h => wpAny_Constant_int ⟨.int i, H, I.tok _, ⟨_, rfl⟩, h⟩
theorem Fv {b j pos} : PE X (.Constant (.bool b) j pos) (tC (.bl b)) := fun _ _ _ H _ I h => Constant_bool ⟨.bl b, H, I, rfl, h⟩
theorem Ey {x j pos} : PE X (.Constant (.str x) j pos) (tC (.str x)) := fun _ _ _ H _ I h => Calls.Constant_str ⟨.str x, H, I.tok _, ⟨_, rfl⟩, h⟩
def Gl (X : Cx) (x : Str) : Prop := X.env.kindOf x = some .globalImplicit
theorem vT {E : HB} {pins : HI} {s : Shared} {σ : St} {H : Hp} {x : Str} {u : Value} {pos : Pos} {Q : HB} (I : Inv X pins σ H s) (hg : Gl X x) (hm : X.mg x = some u) (h : Q u s)
 (hd : NdX x := by decide) : wpAny (model X.prog X.w) X.A (eval (.Name x pos) X.env) Q E s :=
 Calls.Name_function_global I.ok.kind hg (Calls.loadGlobal_global (by rw [I.ok.glob]; exact I.mod.glob.keeps I.bk) hm h) hd
theorem jv {E : HB} {pins : HI} {s : Shared} {σ : St} {H : Hp} {x : Str} {u : Value} {pos : Pos} {Q : HB} (I : Inv X pins σ H s) (hg : Gl X x) (hm : X.mg x = none) (hv : bootBuiltins x = some u) (h : Q u s)
 (hn : x ≠ "__name__" := by decide) (hd : NdX x := by decide) : wpAny (model X.prog X.w) X.A (eval (.Name x pos) X.env) Q E s := by
 obtain ⟨mb, h1, h2⟩ := I.mod.blt;exact Calls.Name_function_global I.ok.kind hg (Calls.loadGlobal_builtin (by rw [I.ok.glob]; exact I.mod.glob.keeps I.bk) hm (by rw [I.ok.blt]; exact h1.keeps I.bk) ((h2 x hn).trans hv) h) hd
theorem Bx {x : Str} {v : V} {u : Value} {pos : Pos} (hg : Gl X x) (hm : X.mg x = none) (hv : bootBuiltins x = some u) (r : RelV v u) (hn : x ≠ "__name__" := by decide) (hd : NdX x := by decide) : PE X (.Name x pos) (tC v) :=
 fun _ _ _ H _ I h => jv I hg hm hv ⟨v, H, I, r, h⟩ hn hd
variable {a b : Expr} {ta tb : TE} {pos : Pos}
def PC (X : Cx) (op : CmpOp) (a b : Expr) (t : TE) : Prop :=
 ∀ (pins : HI) (s : Shared) (σ : St) (H : Hp) (Q : VK), Inv X pins σ H s -> t σ H Q ->
  wpAny (model X.prog X.w) X.A (eval a X.env) (fun v s₁ => wpAny (model X.prog X.w) X.A (eval b X.env) (fun u s₂ => wpAny (model X.prog X.w) X.A (compareOp op v u) (EP X pins σ Q) X.xe s₂) X.xe s₁) X.xe s
def tB (t : TE) : TT := fun σ H Q => t σ H fun x H1 => ∃ c, x = .bl c /\ Q c H1
theorem yd {e : Expr} {t : TE} (h : PE X e t) (he : ∀ whole, isTrue e X.env whole = (do let v <- whole; standAt e.pos; holding [v] (truthy v)) := by intro _; rfl) : PT X e (tB t) := by
 intro pins s σ H Q I hw;refine isTrue_plain (cy (h pins s σ H _ I hw) fun v s1 ⟨x, H1, I1, r1, q1⟩ => ?_) (he _);obtain ⟨d, rfl, q⟩ := q1;cases r1;exact wpAny_truthy_bool ⟨H1, I1, q⟩
variable {tA x6 : TT} {rest : List Expr}
def GP (t u : TT) : TT := fun σ H Q => t σ H fun c H1 => if c = true then u σ H1 Q else Q false H1
def Hq (t u : TT) : TT := fun σ H Q => t σ H fun c H1 => if c = true then Q true H1 else u σ H1 Q
def Gp (t : TT) : TT := fun σ H Q => t σ H fun c H1 => Q (!c) H1
theorem Co (ha : PT X a tA) : PW X (.BoolOp .And [a] pos) tA := by
 intro wh pins s σ H Q I h;refine isTrue_and (cy (ha pins s σ H Q I h) fun c s1 e => ?_)
 cases c with
 | true => exact isTrue_and_nil e
 | false => exact e
theorem Dm (ha : PT X a tA) : PW X (.BoolOp .Or [a] pos) tA := by
 intro wh pins s σ H Q I h;refine isTrue_or (cy (ha pins s σ H Q I h) fun c s1 e => ?_)
 cases c with
 | false => exact isTrue_or_nil e
 | true => exact e
theorem zO (ha : PT X a tA) (hb : PW X (.BoolOp .And (b :: rest) pos) x6) : PW X (.BoolOp .And (a :: b :: rest) pos) (GP tA x6) := by
 intro wh pins s σ H Q I h;refine isTrue_and (cy (ha pins s σ H _ I h) fun c s1 ⟨H1, I1, q1⟩ => ?_)
 cases c with
 | true => exact hb wh pins s1 σ H1 Q I1 q1
 | false => exact ⟨H1, I1, q1⟩
theorem CN (ha : PT X a tA) (hb : PW X (.BoolOp .Or (b :: rest) pos) x6) : PW X (.BoolOp .Or (a :: b :: rest) pos) (Hq tA x6) := by
 intro wh pins s σ H Q I h;refine isTrue_or (cy (ha pins s σ H _ I h) fun c s1 ⟨H1, I1, q1⟩ => ?_)
 cases c with
 | true => exact ⟨H1, I1, q1⟩
 | false => exact hb wh pins s1 σ H1 Q I1 q1
theorem DT (ha : PT X a tA) : PT X (.UnaryOp .Not a pos) (Gp tA) := by
 intro pins s σ H Q I h;exact isTrue_not (ha pins s σ H (fun c H1 => Q (!c) H1) I h)
def E4 (ta tb : TE) : TE := fun σ H Q => ta σ H fun x H1 => ∃ c, x = .bl c /\ if c = true then tb σ H1 Q else Q (.bl false) H1
def GG (ta tb : TE) : TE := fun σ H Q => ta σ H fun x H1 => ∃ c, x = .bl c /\ if c = true then Q (.bl true) H1 else tb σ H1 Q
theorem DE {op} {t : TE} (h : PE X a t) : PE X (.BoolOp op [a] pos) t := fun pins s σ H Q I hw => BoolOp_one (h pins s σ H Q I hw)
theorem yc (ha : PE X a ta) (hb : PE X (.BoolOp .And (b :: rest) pos) tb) : PE X (.BoolOp .And (a :: b :: rest) pos) (E4 ta tb) := by
 intro pins s σ H Q I h;refine BoolOp_and (cy (ha pins s σ H _ I h) fun v s1 ⟨x, H1, I1, r1, q1⟩ => ?_);obtain ⟨c, rfl, q1⟩ := q1;cases r1;refine wpAny_truthy_bool ?_
 cases c with
 | true => exact hb pins s1 σ H1 Q I1 q1
 | false => exact ⟨.bl false, H1, I1, rfl, q1⟩
theorem Cw (ha : PE X a ta) (hb : PE X (.BoolOp .Or (b :: rest) pos) tb) : PE X (.BoolOp .Or (a :: b :: rest) pos) (GG ta tb) := by
 intro pins s σ H Q I h;refine BoolOp_or (cy (ha pins s σ H _ I h) fun v s1 ⟨x, H1, I1, r1, q1⟩ => ?_);obtain ⟨c, rfl, q1⟩ := q1;cases r1;refine wpAny_truthy_bool ?_
 cases c with
 | false => exact hb pins s1 σ H1 Q I1 q1
 | true => exact ⟨.bl true, H1, I1, rfl, q1⟩
end
def dZ (K : Frag) (H : Hp) (a : Addr) (xs : List V) : Prop :=
 Rd H a (.lst xs) \/
  ∃ (o : Obj) (its : HG) (n : Nat), K.lookup a = some o /\ o.cls = .type "list" /\ o.dict = none /\ o.data = .seq its n /\ its.size <= sizeLine /\ Vals xs its.toList
def x8 (K : Frag) (H : Hp) (a : Addr) (xs : List V) : Prop :=
 Rd H a (.tup xs) \/
  ∃ (o : Obj) (its : HG) (n : Nat), K.lookup a = some o /\ o.cls = .type "tuple" /\ o.data = .seq its n /\ its.size <= sizeLine /\ Vals xs its.toList
def GO : Value -> Option V
 | .none => some .non
 | .bool b => some (.bl b)
 | .int i _ => some (.int i)
 | .str x _ => some (.str x)
 | .bytes b _ => some (.byt b)
 | .float b _ => some (.flt b)
 | .ref a => some (.ref a)
 | .type n => some (.ty n)
 | _ => none
theorem RelV.abs {x : V} {u : Value} (r : RelV x u) : GO u = some x := by
 cases x with
 | non => cases r; rfl
 | bl _ => cases r; rfl
 | int _ => obtain ⟨t, rfl⟩ := r; rfl
 | str _ => obtain ⟨t, rfl⟩ := r; rfl
 | byt _ => obtain ⟨t, rfl⟩ := r; rfl
 | flt _ => obtain ⟨t, rfl⟩ := r; rfl
 | ref _ => cases r; rfl
 | ty _ => cases r; rfl
theorem RelV.inj {x y : V} {u : Value} (r : RelV x u) (q : RelV y u) : x = y := Option.some.inj (r.abs.symm.trans q.abs)
theorem Vals.inj : ∀ {xs ys : List V} {us : HF}, Vals xs us -> Vals ys us -> xs = ys
 | _, _, _, .nil, .nil => rfl
 | _, _, _, .cons r t, .cons r' t' => by rw [r.inj r', Vals.inj t t']
section
variable {X : Cx} {pins : HI} {σ : St} {H : Hp} {s : Shared} {a : Addr} {xs ys : List V}
theorem dZ.of {K : Frag} (h : H a = some (.lst xs)) : dZ K H a xs := .inl (.inl h)
theorem Inv.list (I : Inv X pins σ H s) (h : dZ X.K H a xs) : ∃ its : List Value, Vals xs its /\ PlainL s.heap a its.toArray /\ xs.length <= sizeLine := by
 rcases h with h | ⟨o, its, n, hk, hc, hd, hs, hz, r⟩
 . obtain ⟨z, its, n, r, e⟩ := h.ok I.hok;exact ⟨its, r, ⟨_, n, e, rfl, rfl, rfl⟩, z⟩
 . refine ⟨its.toList, r, ⟨o, n, I.BZ a o hk, hc, hd, by simpa using hs⟩, ?_⟩;have e := r.length;simp only [Array.length_toList] at e;omega
theorem Inv.tuple (I : Inv X pins σ H s) (h : x8 X.K H a xs) : ∃ its : List Value, Vals xs its /\ IsTup s.heap a its.toArray /\ xs.length <= sizeLine := by
 rcases h with h | ⟨o, its, n, hk, hc, hs, hz, r⟩
 . obtain ⟨z, its, r, p⟩ := h.ok I.hok;exact ⟨its, r, p, z⟩
 . refine ⟨its.toList, r, ⟨o, I.BZ a o hk, hc, n, by simpa using hs⟩, ?_⟩;have e := r.length;simp only [Array.length_toList] at e;omega
theorem Inv.gZ (I : Inv X pins σ H s) (h : dZ X.K H a xs) (h' : dZ X.K H a ys) : xs = ys := by
 obtain ⟨its, r, ⟨o, n, e, _, _, d⟩, _⟩ := I.list h;obtain ⟨its', r', ⟨o', n', e', _, _, d'⟩, _⟩ := I.list h';rw [e] at e'; cases e';rw [d] at d';injection d' with d1 _;have : its = its' := by simpa using congrArg Array.toList d1
 subst this;exact r.inj r'
theorem Inv.oY (I : Inv X pins σ H s) (h : x8 X.K H a xs) (h' : x8 X.K H a ys) : xs = ys := by
 obtain ⟨its, r, ⟨o, e, _, n, d⟩, _⟩ := I.tuple h;obtain ⟨its', r', ⟨o', e', _, n', d'⟩, _⟩ := I.tuple h';rw [e] at e'; cases e';rw [d] at d';injection d' with d1 _;have : its = its' := by simpa using congrArg Array.toList d1
 subst this;exact r.inj r'
end
abbrev Cx.ox (X : Cx) (E : HB) : Cx := { X with xe := E }
abbrev Cx.zL (X : Cx) : Cx := X.ox fun _ _ => False
theorem Cx.Ok.ox {X : Cx} (ok : X.Ok) (E : HB) : (X.ox E).Ok :=
 ⟨ok.mod, ok.kind, ok.glob, ok.blt, ok.above, ok.inj, ok.has, ok.cab, ok.hd, ok.frames, ok.stk, ok.exf, ok.bs, ok.bsz, ok.noex, ok.exfs, ok.gH, ok.frf⟩
theorem Cx.Ok.iD {X : Cx} {E : HB} (ok : (X.ox E).Ok) : X.Ok :=
 ⟨ok.mod, ok.kind, ok.glob, ok.blt, ok.above, ok.inj, ok.has, ok.cab, ok.hd, ok.frames, ok.stk, ok.exf, ok.bs, ok.bsz, ok.noex, ok.exfs, ok.gH, ok.frf⟩
section
variable {X : Cx} {pins : HI} {σ : St} {H : Hp} {s : Shared} {E : HB}
theorem Inv.ox (I : Inv X pins σ H s) (E : HB) : Inv (X.ox E) pins σ H s := ⟨I.ok.ox E, I.os, I.bare, I.base, I.loc, I.cell, I.free, I.freeC, I.pin, I.hok, I.len⟩
theorem Inv.iD (I : Inv (X.ox E) pins σ H s) : Inv X pins σ H s := ⟨I.ok.iD, I.os, I.bare, I.base, I.loc, I.cell, I.free, I.freeC, I.pin, I.hok, I.len⟩
theorem SP.iD {D : Ends} {f : Flow} {s' : Shared} (h : SP (X.ox E) pins D f s') : SP X pins D f s' := by
 cases f with
 | next => obtain ⟨σ', H', I, q⟩ := h; exact ⟨σ', H', I.iD, q⟩
 | brk => obtain ⟨σ', H', I, q⟩ := h; exact ⟨σ', H', I.iD, q⟩
 | cont => obtain ⟨σ', H', I, q⟩ := h; exact ⟨σ', H', I.iD, q⟩
 | ret u => obtain ⟨v, σ', H', I, r, q⟩ := h; exact ⟨v, σ', H', I.iD, r, q⟩
theorem nV.zL {st : List Stmt} {t : TS} (h : nV X.zL st t) : nV X st t := fun pins s σ H D I hw =>
 wpAny_mono (h pins s σ H D (I.ox _) hw) (fun _ _ q => q.iD) fun _ _ z => False.elim z
end
section
variable {X : Cx} {st : Stmt} {rest : List Stmt} {t u : TS} {e : Expr} {te : TE} {pos : Pos}
def FN : TS := fun D σ H => D.nx σ H
def GH (t u : TS) : TS := fun D σ H => t { D with nx := u D } σ H
theorem BK : nV X [] FN := fun _ _ σ H _ I h => wpAny_execs_nil ⟨σ, H, I, h⟩
theorem yF (h1 : PS X st t) (h2 : nV X rest u) : nV X (st :: rest) (GH t u) := by
 intro pins s σ H D I h;refine wpAny_execs_cons (cy (h1 pins s σ H { D with nx := u D } I h) fun f s1 q => ?_)
 cases f with
 | next =>
  obtain ⟨σ', H', I', q⟩ := q;exact h2 pins s1 σ' H' D I' q
 | ret v => exact q
 | brk => exact q
 | cont => exact q
theorem Inv.quiet {pins : HI} {σ : St} {H : Hp} {s : Shared} (I : Inv X pins σ H s) : interactive X.env = false := by simp [interactive, I.ok.kind]
def ED (te : TE) : TS := fun D σ H => te σ H fun _ H1 => D.nx σ H1
theorem dX (he : PE X e te) (hs : swapsWith e none pos.line X.env = pure false := by rfl) : PS X (.Expr e pos) (ED te) := by
 intro pins s σ H D I h;exact wpAny_Expr_any (cy (he pins s σ H _ I h) fun v s1 ⟨x, H1, I1, r1, q1⟩ => ⟨σ, H1, I1, q1⟩) I.quiet hs
def Gx (te : TE) : TS := fun D σ H => te σ H D.rt
theorem zP (he : PE X e te) : PS X (.Return (some e) pos) (Gx te) := by
 intro pins s σ H D I h;exact wpAny_Return_some (cy (he pins s σ H _ I h) fun v s1 ⟨x, H1, I1, r1, q1⟩ => ⟨x, σ, H1, I1, r1, q1⟩)
def Gz (c : TT) (t u : TS) : TS := fun D σ H => c σ H fun b H1 => if b = true then t D σ H1 else u D σ H1
theorem oV {c : Expr} {a b : List Stmt} {tc : TT} (hc : PT X c tc) (ha : nV X a t) (hb : nV X b u) : PS X (.If c a b pos) (Gz tc t u) := by
 intro pins s σ H D I h;refine wpAny_If (cy (hc pins s σ H _ I h) fun d s1 ⟨H1, I1, q1⟩ => ?_)
 cases d with
 | true => exact ha pins s1 σ H1 D I1 q1
 | false => exact hb pins s1 σ H1 D I1 q1
def DL : TS := fun _ _ _ => False
theorem eS {sts : List Stmt} : nV X sts DL := fun _ _ _ _ _ _ h => h.elim
end
abbrev TG := V -> St -> Hp -> (St -> Hp -> Prop) -> Prop
abbrev Ef := List V -> St -> Hp -> (St -> Hp -> Prop) -> Prop
def PG (X : Cx) (target : Expr) (t : TG) : Prop :=
 ∀ (pins : HI) (s : Shared) (σ : St) (H : Hp) (v : V) (u : Value) (Q : St -> Hp -> Prop), Inv X pins σ H s -> RelV v u -> t v σ H Q ->
  wpAny (model X.prog X.w) X.A (assign target X.env u) (fun _ s' => ∃ σ' H', Inv X pins σ' H' s' /\ Q σ' H') X.xe s
def Gb (X : Cx) (ts : List Expr) (t : Ef) : Prop :=
 ∀ (pins : HI) (s : Shared) (σ : St) (H : Hp) (vs : List V) (us : HF) (Q : St -> Hp -> Prop), Inv X pins σ H s -> Vals vs us -> t vs σ H Q ->
  wpAny (model X.prog X.w) X.A (assignInOrder ((assignEach ts X.env).map (·.2)) us) (fun _ s' => ∃ σ' H', Inv X pins σ' H' s' /\ Q σ' H') X.xe s
section
variable {X : Cx} {pos : Pos}
def eE (i : Nat) : TG := fun v σ H Q => Q (σ.set i (some v)) H
theorem eG {i : Nat} {x : Str} (hN : X.N.Nodup) (hi : X.N[i]? = some x) (hx : Loc X.env.scope x) (hf : HfX X x := by first | exact .inl rfl | exact .inr rfl | assumption) : PG X (.Name x pos) (eE i) := by
 intro pins s σ H v u Q I r h;exact wpAny_assign_Name (sS I hN hi hx r (fun s' I' => ⟨_, H, I', h⟩) hf)
def ye : Ef := fun vs σ H Q => vs = [] /\ Q σ H
def jX (t : TG) (u : Ef) : Ef := fun vs σ H Q => ∃ v r, vs = v :: r /\ t v σ H fun σ' H' => u r σ' H' Q
theorem qv : Gb X [] ye := by
 intro pins s σ H vs us Q I r h;obtain ⟨e, h⟩ := h;subst e;cases r;exact assignInOrder_nil ⟨σ, H, I, h⟩
theorem fM {e : Expr} {es : List Expr} {t : TG} {u : Ef} (h1 : PG X e t) (h2 : Gb X es u)
 (hs : (assignEach (e :: es) X.env).map (·.2) = assign e X.env :: (assignEach es X.env).map (·.2) := by rfl) : Gb X (e :: es) (jX t u) := by
 intro pins s σ H vs us Q I r h;obtain ⟨v, vr, e1, h⟩ := h;subst e1
 cases r with
 | cons r rr =>
  rw [hs];refine assignInOrder_cons (cy (h1 pins s σ H _ _ _ I r h) fun _ s1 ⟨σ1, H1, I1, q1⟩ => ?_);exact h2 pins s1 σ1 H1 _ _ Q I1 rr q1
def yH (K : Frag) (n : Nat) (t : Ef) : TG := fun v σ H Q => ∃ a xs, v = .ref a /\ x8 K H a xs /\ xs.length = n /\ t xs σ H Q
theorem uy {es : List Expr} {k : Nat} {t : Ef} {n : Nat} (hc : X.calm = true) (h : Gb X es t)
 (hn : (assignEach es X.env).length = n := by rfl) (hst : (assignEach es X.env).findIdx? (·.1) = none := by rfl) : PG X (.Tuple es k pos) (yH X.K n t) := by
 intro pins s σ H v u Q I r hw;obtain ⟨a, xs, e1, hq, hl, hw⟩ := hw;subst e1;cases r;obtain ⟨its, rv, ht, hz⟩ := I.tuple hq;refine assign_Tuple_tuple (I.ok.hd hc) ht (by simp [hn, <- hl, rv.length]) hst fun h' hx => ?_;have I1 : Inv X pins σ H { s with heap := h' } := I.kept (t' := s.toks) fun b o e => hx b o (Nat.ne_of_lt (lt_size e)) e;exact h pins _ σ H xs _ Q I1 (by simpa using rv) hw
def DK (te : TE) (g : TG) : TS := fun D σ H => te σ H fun x H1 => g x σ H1 D.nx
theorem jK {i : Nat} {x : Str} {e : Expr} {te : TE} {pos' : Pos} (hN : X.N.Nodup) (hi : X.N[i]? = some x) (hx : Loc X.env.scope x) (he : PE X e te) (hs : swapsWith e (some (.Name x pos')) pos.line X.env = pure false := by rfl) (hf : HfX X x := by first | exact .inl rfl | exact .inr rfl | assumption) :
 PS X (.Assign [.Name x pos'] e pos) (DK te (eE i)) := by
 intro pins s σ H D I h;refine wpAny_Assign_Name (cy (he pins s σ H _ I h) fun v s1 ⟨y, H1, I1, r1, q1⟩ => ?_) hs;exact sS I1 hN hi hx r1 (fun s2 I2 => ⟨_, H1, I2, q1⟩) hf
end
section
variable {X : Cx} {pos : Pos}
def Dy (c : TT) (tb : TS) : TS := fun D σ H => ∃ W : Nat -> St -> Hp -> Prop, (∃ m, W m σ H) /\ ∀ m σ H, W m σ H ->
 c σ H fun b H1 => if b = true then ∃ N : St -> Hp -> Prop, (∀ σ' H', N σ' H' -> ∃ m', m' < m /\ W m' σ' H') /\ tb { D with nx := N, ct := N, bk := D.nx } σ H1 else D.nx σ H1
theorem Ap {c : Expr} {body : List Stmt} {tc : TT} {tb : TS} (hp : PassesOwn (model X.prog X.w) X.A X.env X.xe) (hc : PT X c tc) (hb : nV X body tb) : PS X (.While c body [] pos) (Dy tc tb) := by
 intro pins s σ H D I h;obtain ⟨W, ⟨m0, w0⟩, turn⟩ := h;refine wpAny_While (codeAny_whileLoop (fun n s' => ∃ σ' H', Inv X pins σ' H' s' /\ W n σ' H') ?_ m0 ⟨σ, H, I, w0⟩);rintro n s1 ⟨σ1, H1, I1, w1⟩;refine wpAny_passesOwn hp (cy (hc pins s1 σ1 H1 _ I1 (turn n σ1 H1 w1)) fun b s2 ⟨H2, I2, q2⟩ => ?_)
 cases b with
 | true =>
  obtain ⟨N, hN, q2⟩ := q2;rw [if_pos rfl];refine wpAny_passesOwn hp (cy (hb pins s2 σ1 H2 _ I2 q2) fun f s3 q3 => ?_)
  cases f with
  | next =>
   obtain ⟨σ3, H3, I3, n3⟩ := q3;obtain ⟨m', hm, w3⟩ := hN σ3 H3 n3;exact ⟨m', hm, σ3, H3, I3, w3⟩
  | cont =>
   obtain ⟨σ3, H3, I3, n3⟩ := q3;obtain ⟨m', hm, w3⟩ := hN σ3 H3 n3;exact ⟨m', hm, σ3, H3, I3, w3⟩
  | brk => exact q3
  | ret v => exact q3
 | false =>
  rw [if_neg Bool.false_ne_true];exact wpAny_execs_nil ⟨σ1, H2, I2, q2⟩
end
structure It where
 go : Nat -> Hp -> Prop
 yld : Nat -> Hp -> V -> Hp -> Prop
 stop : Nat -> Hp -> Prop
def kM (X : Cx) (pins : HI) (H : Hp) (b : Addr) : Prop :=
 H b = none /\ b ≠ X.env.locals /\ b ∉ X.fs /\ (b ∈ X.ex \/ X.s₀.heap.get? b = none) /\ (∀ x c, X.env.cells.lookup x = some c -> c ≠ b) /\ ∀ p ∈ X.pn ++ pins, p.1 ≠ b
theorem Inv.ou {X : Cx} {pins : HI} {σ : St} {H H' : Hp} {s : Shared} {b : Addr} (I : Inv X pins σ H s) (hb : s.heap.objs.size <= b) (hn : H' b = none) : kM X pins H' b := by
 refine ⟨hn, Nat.ne_of_gt (Nat.lt_of_lt_of_le I.lt hb), I.GS hb, .inr (Heap.get?_none_of_le (Nat.le_trans I.sz hb)), fun x c e z => ?_, fun p hp z => ?_⟩
 . obtain ⟨v, q⟩ := I.cell x c e;exact absurd (Nat.lt_of_lt_of_le q.lt (by rw [z]; exact hb)) (Nat.lt_irrefl _)
 . exact absurd (Nat.lt_of_lt_of_le (lt_size (I.pin p hp).1) (by rw [z]; exact hb)) (Nat.lt_irrefl _)
structure Turn (P : Program) (w : World) (K : Frag) (tg : Expr) (J : It) (fp : List Addr) (it : Addr) (tn : Nat -> Heap -> Prop) : Prop where
 mem : it ∈ fp
 obj : ∀ i h, tn i h -> ∀ b ∈ fp, ∃ o, h.get? b = some o /\ ∀ v, o.data ≠ .cell v
 keep : ∀ i h h', tn i h -> (∀ b ∈ fp, ∀ o, h.get? b = some o -> h'.get? b = some o) -> tn i h'
 item : ∀ (X : Cx), X.prog = P -> X.w = w -> X.K = K -> X.calm = true -> ∀ (i : Nat) (pins : HI) (s : Shared) (σ : St) (H : Hp) (E : HB), Inv X pins σ H s -> (∀ b ∈ fp, kM X pins H b) -> tn i s.heap -> J.go i H ->
  wpAny (model P w) X.A (pyNext (.ref it)) (fun r s1 => ∃ u, r = some u /\
   wpAny (model P w) X.A (letOwnedTupleGo tg (.ref it) u) (fun _ s2 => ∃ x H', Inv X pins σ H' s2 /\ RelV x u /\ J.yld i H x H' /\ tn (i + 1) s2.heap /\ ∀ b ∈ fp, H' b = none) E s1) E s
 done : ∀ (X : Cx), X.prog = P -> X.w = w -> X.K = K -> X.calm = true -> ∀ (i : Nat) (pins : HI) (s : Shared) (σ : St) (H : Hp) (E : HB), Inv X pins σ H s -> (∀ b ∈ fp, kM X pins H b) -> tn i s.heap -> J.stop i H ->
  wpAny (model P w) X.A (pyNext (.ref it)) (fun r s1 => r = none /\ Inv X pins σ H s1) E s
 self : ∀ (A : Around) (i : Nat) (s : Shared) (Q : HB) (E : HB), tn i s.heap -> Q (.ref it) s -> wpAny (model P w) A (pyIter (.ref it)) Q E s
abbrev TI := St -> Hp -> (It -> Hp -> Prop) -> Prop
def Gi (X : Cx) (pins : HI) (σ : St) (tg : Expr) (R : It -> Hp -> Prop) (itv : Value) (s2 : Shared) : Prop :=
 ∃ (it : Addr) (fp : List Addr) (tn : Nat -> Heap -> Prop) (J : It) (H' : Hp), itv = .ref it /\ Inv X pins σ H' s2 /\ Turn X.prog X.w X.K tg J fp it tn /\ tn 0 s2.heap /\ (∀ b ∈ fp, kM X pins H' b) /\ R J H'
def PI (X : Cx) (tg iter : Expr) (wi : TI) : Prop :=
 ∀ (pins : HI) (s : Shared) (σ : St) (H : Hp) (R : It -> Hp -> Prop), Inv X pins σ H s -> wi σ H R ->
  wpAny (model X.prog X.w) X.A (eval iter X.env) (fun v s1 => wpAny (model X.prog X.w) X.A (pyIter v) (Gi X pins σ tg R) X.xe s1) X.xe s
theorem Ct {M : Model} {A : Around} {E : HB} {s : Shared} {tg : Expr} {it : Addr} {u : Value} {o : Obj} {n : String} {vs : HG} {Q : Unit -> Shared -> Prop} (ho : s.heap.get? it = some o) (hc : o.cls = .type n) (hd : o.data = .fields vs)
    (hn : ["enumerate", "zip", "dict_itemiterator", "dict_reverseitemiterator", "odict_iterator", "itertools.zip_longest", "itertools.pairwise"].contains n = false) (hQ : Q () s) : wpAny M A (letOwnedTupleGo tg (.ref it) u) Q E s := by
  unfold letOwnedTupleGo;cases tg <;> first
    | exact wpAny_pure hQ
    | (cases u <;> first
        | exact wpAny_pure hQ
        | (refine wpAny_bind (wpAny_load ho ?_)
           rw [hc, hd];show wpAny M A (if (["enumerate", "zip", "dict_itemiterator", "dict_reverseitemiterator", "odict_iterator", "itertools.zip_longest", "itertools.pairwise"].contains n && vs[0]? == some (rawInt _)) = true then _ else _) Q E s;rw [if_neg (by intro h; rw [hn, Bool.false_and] at h; cases h)];exact wpAny_pure hQ))
def G2 (K : Frag) (a : Addr) : It :=
 ⟨fun i H => ∃ xs x, dZ K H a xs /\ xs[i]? = some x, fun i H x H' => H' = H /\ ∀ xs, dZ K H a xs -> xs[i]? = some x, fun i H => ∃ xs, dZ K H a xs /\ xs.length <= i⟩
def FY (lo : Int) (n : Nat) : It := ⟨fun i _ => i < n, fun i H x H' => H' = H /\ x = .int (lo + i), fun i _ => n <= i⟩
theorem xJ {P : Program} {w : World} {K : Frag} {tg : Expr} (a it : Addr) : Turn P w K tg (G2 K a) [it] it (fun i h => h.IsListIter it a i) where
 mem := by simp
 obj := fun i h st b hb => by
  have e : b = it := by simpa using hb
  subst e;obtain ⟨o, e, c, d⟩ := st;exact ⟨o, e, fun v z => by rw [d] at z; cases z⟩
 keep := fun i h h' st k => st.at fun o e => k it (by simp) o e
 item := by
  intro X hP hw hK hc i pins s σ H E I hf st hg;subst hP hw hK;obtain ⟨xs, x, hq, hx⟩ := hg;obtain ⟨its, rv, p, hz⟩ := I.list hq;obtain ⟨u, hu, ru⟩ := rv.get hx;obtain ⟨f0, f1, f2, f3, f4, f5⟩ := hf it (by simp);refine wpAny_pyNext_list_item st p.isList (x := u) (by simpa using hu) fun h' st' sb => ?_;have I1 : Inv X pins σ H { s with heap := h' } := I.turned (t' := s.toks) (fun b o hb e => (sb.2 b hb).trans e) f0 f1 f3 f4 f5;obtain ⟨o, e, c, d⟩ := id st';exact ⟨u, rfl, Ct (s := { s with heap := h' }) e c d (by decide) ⟨x, H, I1, ru, ⟨rfl, fun ys hy => by rw [I.gZ hy hq]; exact hx⟩, st', fun b hb => (hf b hb).1⟩⟩
 done := by
  intro X hP hw hK hc i pins s σ H E I hf st hg;subst hP hw hK;obtain ⟨xs, hq, hx⟩ := hg;obtain ⟨its, rv, p, hz⟩ := I.list hq;obtain ⟨f0, f1, f2, f3, f4, f5⟩ := hf it (by simp);have hl := rv.length;exact wpAny_pyNext_list_end (I.ok.hd hc) st p.isList (by simp; omega) fun h' eb => ⟨rfl, I.turned (t' := s.toks) (fun b o hb e => eb b o hb e) f0 f1 f3 f4 f5⟩
 self := fun _ _ _ _ _ st h => wpAny_pyIter_listiter st h
theorem tN {P : Program} {w : World} {K : Frag} {tg : Expr} (it : Addr) (lo : Int) (n : Nat) : Turn P w K tg (FY lo n) [it] it (fun i h => IsRangeIter h it (lo + (i : Nat) * 1) ((n : Int) - (i : Nat)) 1) where
 mem := by simp
 obj := fun i h st b hb => by
  have e : b = it := by simpa using hb
  subst e;exact ⟨_, st, fun v z => by
   have z' : Data.fields _ = Data.cell v := z;cases z'⟩
 keep := fun i h h' st k => k it (by simp) _ st
 item := by
  intro X hP hw hK hc i pins s σ H E I hf st hg;subst hP hw hK;obtain ⟨f0, f1, f2, f3, f4, f5⟩ := hf it (by simp);have W := Walks.range (prog := X.prog) (w := X.w) (I.ok.hd hc) it lo 1 n;refine W.item i s _ _ hg st fun v h' tk hv st' kk => ?_;obtain ⟨t, rfl⟩ := hv;have I1 : Inv X pins σ H { s with heap := h', toks := tk } := I.turned (fun b o hb e => kk b o (by simpa using hb) e) f0 f1 f3 f4 f5;refine ⟨_, rfl, Ct (s := { s with heap := h', toks := tk }) (n := "range_iterator") st' rfl rfl (by decide) ⟨.int (lo + i), H, I1, ⟨t, ?_⟩, ⟨rfl, rfl⟩, st', fun b hb => (hf b hb).1⟩⟩;rw [Int.mul_one]
 done := by
  intro X hP hw hK hc i pins s σ H E I hf st hg;subst hP hw hK;obtain ⟨f0, f1, f2, f3, f4, f5⟩ := hf it (by simp);exact wpAny_pyNext_range_end (I.ok.hd hc) st (by have : n <= i := hg; omega) fun h' eb => ⟨rfl, I.turned (t' := s.toks) (fun b o hb e => eb b o hb e) f0 f1 f3 f4 f5⟩
 self := fun _ _ _ _ _ st h => wpAny_pyIter_rangeiter st h
section
variable {X : Cx} {tg : Expr}
def FQ (K : Frag) (tl : TE) : TI := fun σ H R => tl σ H fun x H1 => ∃ a, x = .ref a /\ (∃ xs, dZ K H1 a xs) /\ R (G2 K a) H1
theorem Bl {l : Expr} {tl : TE} (hl : PE X l tl) : PI X tg l (FQ X.K tl) := by
 intro pins s σ H R I h;refine cy (hl pins s σ H _ I h) fun v s1 ⟨x, H1, I1, r1, q1⟩ => ?_;obtain ⟨a, e, ⟨xs, hq⟩, q⟩ := q1;subst e;cases r1;obtain ⟨its, rv, p, hz⟩ := I1.list hq;refine wpAny_pyIter_list p.isList ?_;refine ⟨s1.heap.objs.size, [s1.heap.objs.size], _, _, H1, rfl, I1.kept (t' := s1.toks) fun b o e => get?_push_of_some _ e, xJ a _, ⟨_, get?_push_size _ rfl, rfl, rfl⟩, fun b hb => ?_, q⟩;have e : b = s1.heap.objs.size := by simpa using hb
 subst e;exact I1.ou (Nat.le_refl _) (I1.hok.fresh (Nat.le_refl _))
theorem zo {pins : HI} {σ : St} {H : Hp} {s : Shared} {R : It -> Hp -> Prop} {E : HB} {lo hi : Int} {t u v : Tok} {tk : Nat} (I : Inv X pins σ H s) (h1 : -(2 ^ 62) <= lo) (h2 : lo < 2 ^ 62) (h3 : -(2 ^ 62) <= hi) (h4 : hi < 2 ^ 62)
 (q : R (FY lo (hi - lo).toNat) H) : wpAny (model X.prog X.w) X.A (pyIter (.ref s.heap.objs.size)) (Gi X pins σ tg R) E { s with heap := s.heap.push { cls := .type "range", data := .fields #[.int lo t, .int hi u, .int 1 v] }, toks := tk } := by
 refine wpAny_pyIter_range (IsRange.new ..) (small_one h1 h2 h3 h4) ?_;have I1 : Inv X pins σ H { s with heap := s.heap.push { cls := .type "range", data := .fields #[.int lo t, .int hi u, .int 1 v] }, toks := tk } := I.kept fun b o e => get?_push_of_some _ e;refine ⟨(s.heap.push { cls := .type "range", data := .fields #[.int lo t, .int hi u, .int 1 v] }).objs.size, [(s.heap.push { cls := .type "range", data := .fields #[.int lo t, .int hi u, .int 1 v] }).objs.size], _, _, H, rfl,
  I1.kept (t' := tk) fun b o e => get?_push_of_some _ e, tN _ lo (hi - lo).toNat, ?_, fun b hb => ?_, q⟩
 . have e1 : lo + ((0 : Nat) : Int) * 1 = lo := by simp
   have e2 : (((hi - lo).toNat : Nat) : Int) - ((0 : Nat) : Int) = Builtin.Range.rangeSize lo hi 1 := by rw [rangeSize_one]; split <;> omega
   show IsRangeIter _ _ (lo + ((0 : Nat) : Int) * 1) ((((hi - lo).toNat : Nat) : Int) - ((0 : Nat) : Int)) 1;rw [e1, e2];exact get?_push_size _ rfl
 . have e : b = (s.heap.push { cls := .type "range", data := .fields #[.int lo t, .int hi u, .int 1 v] }).objs.size := by simpa using hb
   subst e;exact I1.ou (Nat.le_refl _) (I1.hok.fresh (Nat.le_refl _))
def FH (ta : TA) : TI := fun σ H R => ta σ H fun vs H1 => ∃ j : Int, vs = [.int j] /\ -(2 ^ 62) <= j /\ j < 2 ^ 62 /\ R (FY 0 j.toNat) H1
theorem wW {a : Expr} {ta : TA} {p pos : Pos} (hg : Gl X "range") (hm : X.mg "range" = none) (ha : PA X [a] ta) (hs : starEach [a] X.env = [(false, eval a X.env)] := by rfl) : PI X tg (.Call (.Name "range" p) [a] [] pos) (FH ta) := by
 intro pins s σ H R I h;refine Call_ (jv I hg hm boot_range (PyProof.Rows.callWith_type1 (cy (ha pos pins s σ H _ I h) fun us s1 ⟨vs, H1, I1, r1, q1⟩ => ?_) hs rfl));obtain ⟨j, e, q1, q2, q⟩ := q1;subst e
 cases r1 with
 | cons r rr =>
  cases rr;obtain ⟨t, rfl⟩ := r;exact call_range_1 (zo I1 (by omega) (by omega) q1 q2 (by simpa using q))
def Gu (wi : TI) (g : TG) (tb : TS) : TS := fun D σ H => wi σ H fun J H1 => ∃ W : Nat -> Nat -> St -> Hp -> Prop, (∃ m, W 0 m σ H1) /\ ∀ i m σ H, W i m σ H ->
 (J.stop i H /\ D.nx σ H) \/ (J.go i H /\ ∃ N : St -> Hp -> Prop, (∀ σ' H', N σ' H' -> ∃ m', m' < m /\ W (i + 1) m' σ' H') /\ ∀ x H', J.yld i H x H' -> g x σ H' fun σ2 H2 => tb { D with nx := N, ct := N, bk := D.nx } σ2 H2)
def mZ (fp : List Addr) (h : Heap) : List (Addr × Obj) := fp.filterMap fun b => (h.get? b).map fun o => (b, o)
theorem fT {fp : List Addr} {h : Heap} {b : Addr} {o : Obj} (hb : b ∈ fp) (e : h.get? b = some o) : (b, o) ∈ mZ fp h := List.mem_filterMap.mpr ⟨b, hb, by rw [e]; rfl⟩
theorem wB {fp : List Addr} {h : Heap} {p : Addr × Obj} (hp : p ∈ mZ fp h) : p.1 ∈ fp /\ h.get? p.1 = some p.2 := by
 obtain ⟨b, hb, e⟩ := List.mem_filterMap.mp hp
 cases q : h.get? b with
 | none => rw [q] at e; cases e
 | some o =>
  rw [q] at e;have e' : (b, o) = p := Option.some.inj e;subst e';exact ⟨hb, q⟩
theorem Inv.pinned {pins : HI} {σ : St} {H : Hp} {s : Shared} {fp : List Addr} (I : Inv X pins σ H s) (hf : ∀ b ∈ fp, kM X pins H b) (ho : ∀ b ∈ fp, ∃ o, s.heap.get? b = some o /\ ∀ v, o.data ≠ .cell v) : Inv X (pins ++ mZ fp s.heap) σ H s :=
 I.uW fun p hp => (mem_append.mp hp).elim (fun z => I.pin p (mem_append_right _ z)) fun z => by
  obtain ⟨hb, e⟩ := wB z;obtain ⟨f0, f1, f2, _⟩ := hf p.1 hb;obtain ⟨o, e', d⟩ := ho p.1 hb;rw [e] at e'; cases e';exact ⟨e, f0, f1, f2, d⟩
theorem Inv.iq {pins pl : HI} {σ : St} {H : Hp} {s : Shared} (I : Inv X (pins ++ pl) σ H s) : Inv X pins σ H s := I.uW fun p hp => I.pin p (mem_append_right _ (List.mem_append_left _ hp))
theorem AG {iter : Expr} {body : List Stmt} {wi : TI} {g : TG} {tb : TS} {pos : Pos} (hp : PassesOwn (model X.prog X.w) X.A X.env X.xe) (hc : X.calm = true) (hi : PI X tg iter wi) (hg : PG X tg g) (hb : nV X body tb)
 (hs : ∀ x, foldedSetIterable iter X.env x = pure x := by intro _; rfl) : PS X (.For tg iter body [] pos) (Gu wi g tb) := by
 intro pins s σ H D I h;refine wpAny_For (cy (hi pins s σ H _ I h) fun v s1 h1 => cy h1 fun itv s2 h2 => ?_) hs;obtain ⟨it, fp, tn, J, H2, e, I2, T, st2, f2, W, ⟨m0, w0⟩, turn⟩ := h2;subst e
 -- what stays true of the iterator's objects through the loop
 have stat : ∀ {H' : Hp}, (∀ b ∈ fp, H' b = none) -> ∀ b ∈ fp, kM X pins H' b := fun hn b hb => ⟨hn b hb, (f2 b hb).2⟩
 refine codeAny_forLoop_any (fun n s' => ∃ i σ' H', Inv X pins σ' H' s' /\ tn i s'.heap /\ (∀ b ∈ fp, H' b = none) /\ W i n σ' H') ?_ m0 ⟨0, σ, H2, I2, st2, fun b hb => (f2 b hb).1, w0⟩;rintro n s3 ⟨i, σ3, H3, I3, st3, fr3, w3⟩;rcases turn i n σ3 H3 w3 with ⟨stop, qn⟩ | ⟨go, N, hN, step⟩
 . refine wpAny_passesOwn hp (cy (T.done X rfl rfl rfl hc i pins s3 σ3 H3 X.xe I3 (stat fr3) st3 stop) fun r s4 ⟨hr, I4⟩ => ?_);subst hr;exact wpAny_execs_nil ⟨σ3, H3, I4, qn⟩
 . refine wpAny_passesOwn hp (cy (T.item X rfl rfl rfl hc i pins s3 σ3 H3 X.xe I3 (stat fr3) st3 go) fun r s4 ⟨u, hr, h4⟩ => ?_);subst hr;refine wpAny_passesOwn hp (cy h4 fun _ s5 ⟨x, H5, I5, r5, y5, st5, fr5⟩ => ?_);have I5' := I5.pinned (stat fr5) (T.obj _ _ st5);refine wpAny_passesOwn hp (cy (hg _ s5 σ3 H5 x u _ I5' r5 (step x H5 y5)) fun _ s6 ⟨σ6, H6, I6, q6⟩ => ?_);refine wpAny_passesOwn hp (cy (hb _ s6 σ6 H6 _ I6 q6) fun f s7 q7 => ?_);have again : ∀ {σ7 : St} {H7 : Hp}, Inv X (pins ++ mZ fp s5.heap) σ7 H7 s7 -> N σ7 H7 -> ∃ m, m < n /\ ∃ i σ' H', Inv X pins σ' H' s7 /\ tn i s7.heap /\ (∀ b ∈ fp, H' b = none) /\ W i m σ' H' := fun {σ7 H7} I7 n7 => by
    obtain ⟨m', hm, w7⟩ := hN σ7 H7 n7;refine ⟨m', hm, i + 1, σ7, H7, I7.iq, T.keep _ _ _ st5 fun b hb o e => (I7.pin (b, o) (mem_append_right _ (mem_append_right _ (fT hb e)))).1, fun b hb => ?_, w7⟩;obtain ⟨o, e, d⟩ := T.obj _ _ st5 b hb;exact (I7.pin (b, o) (mem_append_right _ (mem_append_right _ (fT hb e)))).2.1
   cases f with
   | next => obtain ⟨σ7, H7, I7, n7⟩ := q7; exact again I7 n7
   | cont => obtain ⟨σ7, H7, I7, n7⟩ := q7; exact again I7 n7
   | brk => obtain ⟨σ7, H7, I7, q7⟩ := q7; exact ⟨σ7, H7, I7.iq, q7⟩
   | ret v => obtain ⟨x7, σ7, H7, I7, r7, q7⟩ := q7; exact ⟨x7, σ7, H7, I7.iq, r7, q7⟩
end
abbrev R2 := V -> V -> Hp -> VK -> Prop
def iV (X : Cx) (f : Value -> Value -> Sem Value) (r : R2) : Prop :=
 ∀ (pins : HI) (s : Shared) (σ : St) (H : Hp) (x y : V) (v u : Value) (Q : VK), Inv X pins σ H s -> RelV x v -> RelV y u -> r x y H Q ->
  wpAny (model X.prog X.w) X.A (f v u) (EP X pins σ Q) X.xe s
def GQ (X : Cx) (f : Value -> Sem Value) (r : V -> Hp -> VK -> Prop) : Prop :=
 ∀ (pins : HI) (s : Shared) (σ : St) (H : Hp) (x : V) (v : Value) (Q : VK), Inv X pins σ H s -> RelV x v -> r x H Q ->
  wpAny (model X.prog X.w) X.A (f v) (EP X pins σ Q) X.xe s
def lu (X : Cx) (f : Value) (r : List V -> Hp -> VK -> Prop) : Prop :=
 ∀ (pins : HI) (s : Shared) (σ : St) (H : Hp) (xs : List V) (us : HF) (Q : VK), Inv X pins σ H s -> Vals xs us -> r xs H Q ->
  wpAny (model X.prog X.w) X.A (call f us) (EP X pins σ Q) X.xe s
def F0 (r : R2) (ta tb : TE) : TE := fun σ H Q => ta σ H fun x H1 => tb σ H1 fun y H2 => r x y H2 Q
def Hz (r : V -> Hp -> VK -> Prop) (ta : TE) : TE := fun σ H Q => ta σ H fun x H1 => r x H1 Q
def rI (C : Int -> Int -> Prop) (g : Int -> Int -> V) : R2 := fun x y H Q => ∃ i j, x = .int i /\ y = .int j /\ C i j /\ Q (g i j) H
def BE (g : Int -> Int -> V) : R2 := fun x y H Q => ∃ i j, x = .int i /\ y = .int j /\ Q (g i j) H
def rU (g : Int -> V) : V -> Hp -> VK -> Prop := fun x H Q => ∃ i, x = .int i /\ Q (g i) H
section
variable {X : Cx} {a b c : Expr} {ta tb tc : TE} {pos : Pos}
theorem Dq (ha : PE X a ta) (hb : PE X b tb) {pins : HI} {s : Shared} {σ : St} {H : Hp} {R : V -> V -> Hp -> Prop} (I : Inv X pins σ H s)
 (h : ta σ H fun x H1 => tb σ H1 fun y H2 => R x y H2) {Q : HB} {f : Value -> Value -> Sem Value}
 (hf : ∀ v u s2 x y H2, Inv X pins σ H2 s2 -> RelV x v -> RelV y u -> R x y H2 -> wpAny (model X.prog X.w) X.A (f v u) Q X.xe s2) :
 wpAny (model X.prog X.w) X.A (eval a X.env) (fun v s₁ => wpAny (model X.prog X.w) X.A (eval b X.env) (fun u s₂ => wpAny (model X.prog X.w) X.A (f v u) Q X.xe s₂) X.xe s₁) X.xe s := by
 refine cy (ha pins s σ H _ I h) fun v s1 ⟨x, H1, I1, r1, q1⟩ => ?_;refine cy (hb pins s1 σ H1 _ I1 q1) fun u s2 ⟨y, H2, I2, r2, q2⟩ => ?_;exact hf v u s2 x y H2 I2 r1 r2 q2
theorem CP {op : Operator} {r : R2} (ho : iV X (binaryOp op) r) (ha : PE X a ta) (hb : PE X b tb) : PE X (.BinOp a op b pos) (F0 r ta tb) := by
 intro pins s σ H Q I h;exact wpAny_BinOp (Dq ha hb I h fun v u s2 x y H2 I2 rx ry q => ho pins s2 σ H2 x y v u Q I2 rx ry q)
theorem FD {op : UnaryOp} {r : V -> Hp -> VK -> Prop} (ho : GQ X (unaryOp op) r) (ha : PE X a ta) : PE X (.UnaryOp op a pos) (Hz r ta) := by
 intro pins s σ H Q I h;exact UnaryOp_ (cy (ha pins s σ H _ I h) fun v s1 ⟨x, H1, I1, r1, q1⟩ => ho pins s1 σ H1 x v Q I1 r1 q1)
theorem EV {f : Value -> Value -> Sem Value} {C : Int -> Int -> Prop} {g : Int -> Int -> Int}
 (rule : ∀ (i j : Int) (t u : Tok) (s : Shared) (Q : HB) (E : HB), C i j -> Q (.int (g i j) s.toks) { s with toks := s.toks + 1 } -> wpAny (model X.prog X.w) X.A (f (.int i t) (.int j u)) Q E s) :
 iV X f (rI C fun i j => .int (g i j)) := by
 intro pins s σ H x y v u Q I rx ry h;obtain ⟨i, j, rfl, rfl, hc, q⟩ := h;obtain ⟨t, rfl⟩ := rx;obtain ⟨t', rfl⟩ := ry;exact rule i j t t' s _ _ hc ⟨.int (g i j), H, I.tok _, ⟨_, rfl⟩, q⟩
theorem BA {f : Value -> Value -> Sem Value} {g : Int -> Int -> Int}
 (rule : ∀ (i j : Int) (t u : Tok) (s : Shared) (Q : HB) (E : HB), Q (.int (g i j) s.toks) { s with toks := s.toks + 1 } -> wpAny (model X.prog X.w) X.A (f (.int i t) (.int j u)) Q E s) :
 iV X f (BE fun i j => .int (g i j)) := by
 intro pins s σ H x y v u Q I rx ry h;obtain ⟨i, j, rfl, rfl, q⟩ := h;obtain ⟨t, rfl⟩ := rx;obtain ⟨t', rfl⟩ := ry;exact rule i j t t' s _ _ ⟨.int (g i j), H, I.tok _, ⟨_, rfl⟩, q⟩
theorem C2 {f : Value -> Value -> Sem Value} {g : Int -> Int -> Bool}
 (rule : ∀ (i j : Int) (t u : Tok) (s : Shared) (Q : HB) (E : HB), Q (.bool (g i j)) s -> wpAny (model X.prog X.w) X.A (f (.int i t) (.int j u)) Q E s) :
 iV X f (BE fun i j => .bl (g i j)) := by
 intro pins s σ H x y v u Q I rx ry h;obtain ⟨i, j, rfl, rfl, q⟩ := h;obtain ⟨t, rfl⟩ := rx;obtain ⟨t', rfl⟩ := ry;exact rule i j t t' s _ _ ⟨.bl (g i j), H, I, rfl, q⟩
def EM (i j : Int) : Prop := 0 < j /\ j < 1073741824
def GI (i j : Int) : Prop := 0 <= j /\ j <= 1000000 /\ i.natAbs < 2 ^ 64
def B0 (i j : Int) : Prop := (-(2 ^ 64) < i /\ i < 2 ^ 64) \/ (-(2 ^ 64) < j /\ j < 2 ^ 64)
theorem B0.ok {i j : Int} (h : B0 i j) : IntMulOk i j := by
 rcases h with ⟨h1, h2⟩ | ⟨h1, h2⟩
 . exact .of_left (intBits_le_64 h1 h2)
 . exact .of_right (intBits_le_64 h1 h2)
theorem tH (k : Nat) : (0 : Int) <= 2 ^ k := by
 rw [two_pow_cast];exact Int.natCast_nonneg _
theorem DF : iV X (binaryOp .Add) (BE fun i j => .int (i + j)) := BA fun _ _ _ _ _ _ _ q => add_int q
theorem DV : iV X (binaryOp .Sub) (BE fun i j => .int (i - j)) := BA fun _ _ _ _ _ _ _ q => sub_int q
theorem Dt : iV X (binaryOp .Mult) (rI B0 fun i j => .int (i * j)) := EV fun _ _ _ _ _ _ _ hc q => mul_int q hc.ok
theorem Bm : iV X (binaryOp .FloorDiv) (rI EM fun i j => .int (i / j)) := EV fun i j _ _ _ _ _ hc q => by
 have h1 : (0 : Int) < j := hc.1;have h2 : j < 1073741824 := hc.2;exact floordiv_int (by omega) (by rw [Int.fdiv_eq_ediv_of_nonneg i (by omega)]; exact q) (.inl (PyProof.noPylong_small (by omega)))
theorem DB : iV X (binaryOp .Mod) (rI (fun _ j => 0 < j) fun i j => .int (i % j)) := EV fun i j _ _ _ _ _ hc q => by
 have h1 : (0 : Int) < j := hc;exact mod_int' (by omega) (by rw [Int.fmod_eq_emod_of_nonneg i (by omega)]; exact q)
theorem Eo : iV X (binaryOp .LShift) (rI GI fun i j => .int (i * 2 ^ j.toNat)) := EV fun _ _ _ _ _ _ _ hc q => lshift_int_small hc.1 hc.2.1 hc.2.2 q
theorem C8 : iV X (binaryOp .RShift) (rI (fun _ j => 0 <= j) fun i j => .int (i / 2 ^ j.toNat)) := EV fun i j _ _ _ _ _ hc q =>
 rshift_int hc (by rw [Int.fdiv_eq_ediv_of_nonneg i (tH _)]; exact q)
theorem Dz : iV X (binaryOp .BitAnd) (BE fun i j => .int (Builtin.bitAnd i j)) := BA fun _ _ _ _ _ _ _ q => and_int q
theorem Fz : iV X (binaryOp .BitOr) (BE fun i j => .int (Builtin.bitOr i j)) := BA fun _ _ _ _ _ _ _ q => or_int q
theorem Ht {f : Value -> Sem Value} {g : Int -> Int}
 (rule : ∀ (i : Int) (t : Tok) (s : Shared) (Q : HB) (E : HB), Q (.int (g i) s.toks) { s with toks := s.toks + 1 } -> wpAny (model X.prog X.w) X.A (f (.int i t)) Q E s) :
 GQ X f (rU fun i => .int (g i)) := by
 intro pins s σ H x v Q I rx h;obtain ⟨i, rfl, q⟩ := h;obtain ⟨t, rfl⟩ := rx;exact rule i t s _ _ ⟨.int (g i), H, I.tok _, ⟨_, rfl⟩, q⟩
theorem CZ : GQ X (unaryOp .USub) (rU fun i => .int (-i)) := Ht fun _ _ _ _ _ q => neg_int q
end
def Fu : V -> V -> Bool
 | .non, .non => true | .non, .int _ => true | .int _, .non => true | .non, .bl _ => true | .bl _, .non => true | .non, .str _ => true | .str _, .non => true
 | .int _, .int _ => true | .bl _, .bl _ => true | .str _, .str _ => true | .byt _, .byt _ => true
 | .int _, .str _ => true | .str _, .int _ => true | .bl _, .str _ => true | .str _, .bl _ => true
 | _, _ => false
def Hw : R2 := fun x y H Q => Fu x y = true /\ Q (.bl (decide (x = y))) H
def Hv : R2 := fun x y H Q => Fu x y = true /\ Q (.bl (!decide (x = y))) H
theorem vo {i j : Int} : decide (V.int i = V.int j) = (i == j) := by
 rw [Bool.eq_iff_iff];simp
theorem yI {i j : Bool} : decide (V.bl i = V.bl j) = (i == j) := by
 rw [Bool.eq_iff_iff];simp
theorem vP {i j : Str} : decide (V.str i = V.str j) = (i == j) := by
 rw [Bool.eq_iff_iff];simp
theorem va {i j : Array UInt8} : decide (V.byt i = V.byt j) = (i.toList == j.toList) := by
 rw [Bool.eq_iff_iff];cases i;cases j;simp
section
variable {X : Cx} {a b c : Expr} {ta tb tc : TE} {pos : Pos}
theorem aZ {pins : HI} {σ : St} {H : Hp} {s : Shared} {Q : VK} {k k' : Bool} (I : Inv X pins σ H s) (q : Q (.bl k) H) (e : k = k') : EP X pins σ Q (.bool k') s := by
 subst e;exact ⟨.bl k, H, I, rfl, q⟩
theorem yy : iV X (compareOp .Eq) Hw := by
 intro pins s σ H x y v u Q I rx ry h;obtain ⟨hs, q⟩ := h
 cases x with
 | non =>
  cases rx
  cases y with
  | non => cases ry; exact PySem.EqNone.eq_none_none (aZ I q (by simp))
  | bl j => cases ry; exact PySem.EqNone.eq_none_bool (aZ I q (by simp))
  | int j => obtain ⟨t', rfl⟩ := ry; exact PySem.EqNone.eq_none_int (aZ I q (by simp))
  | str j => obtain ⟨t', rfl⟩ := ry; exact PySem.EqNone.eq_none_str (aZ I q (by simp))
  | _ => exact absurd (show false = true from hs) Bool.false_ne_true
 | bl i =>
  cases rx
  cases y with
  | non => cases ry; exact PySem.EqNone.eq_bool_none (aZ I q (by simp))
  | bl j => cases ry; exact eq_bool (aZ I q yI)
  | str j => obtain ⟨t', rfl⟩ := ry; exact PySem.EqMixed.eq_bool_str (aZ I q (by simp))
  | _ => exact absurd (show false = true from hs) Bool.false_ne_true
 | int i =>
  obtain ⟨t, rfl⟩ := rx
  cases y with
  | non => cases ry; exact PySem.EqNone.eq_int_none (aZ I q (by simp))
  | int j => obtain ⟨t', rfl⟩ := ry; exact eq_int (aZ I q vo)
  | str j => obtain ⟨t', rfl⟩ := ry; exact PySem.EqMixed.eq_int_str (aZ I q (by simp))
  | _ => exact absurd (show false = true from hs) Bool.false_ne_true
 | str i =>
  obtain ⟨t, rfl⟩ := rx
  cases y with
  | non => cases ry; exact PySem.EqNone.eq_str_none (aZ I q (by simp))
  | bl j => cases ry; exact PySem.EqMixed.eq_str_bool (aZ I q (by simp))
  | int j => obtain ⟨t', rfl⟩ := ry; exact PySem.EqMixed.eq_str_int (aZ I q (by simp))
  | str j => obtain ⟨t', rfl⟩ := ry; exact eq_str (aZ I q vP)
  | _ => exact absurd (show false = true from hs) Bool.false_ne_true
 | byt i =>
  obtain ⟨t, rfl⟩ := rx
  cases y with
  | byt j => obtain ⟨t', rfl⟩ := ry; exact PySem.W.eq_bytes (aZ I q va)
  | _ => exact absurd (show false = true from hs) Bool.false_ne_true
 | _ => cases y <;> exact absurd (show false = true from hs) Bool.false_ne_true
theorem EZ : iV X (compareOp .NotEq) Hv := by
 intro pins s σ H x y v u Q I rx ry h;obtain ⟨hs, q⟩ := h
 cases x with
 | non =>
  cases rx
  cases y with
  | non => cases ry; exact PySem.EqNone.ne_none_none (aZ I q (by simp))
  | bl j => cases ry; exact PySem.EqNone.ne_none_bool (aZ I q (by simp))
  | int j => obtain ⟨t', rfl⟩ := ry; exact PySem.EqNone.ne_none_int (aZ I q (by simp))
  | str j => obtain ⟨t', rfl⟩ := ry; exact PySem.EqNone.ne_none_str (aZ I q (by simp))
  | _ => exact absurd (show false = true from hs) Bool.false_ne_true
 | bl i =>
  cases rx
  cases y with
  | non => cases ry; exact PySem.EqNone.ne_bool_none (aZ I q (by simp))
  | bl j => cases ry; exact ne_bool (aZ I q (congrArg not yI))
  | str j => obtain ⟨t', rfl⟩ := ry; exact PySem.EqMixed.ne_bool_str (aZ I q (by simp))
  | _ => exact absurd (show false = true from hs) Bool.false_ne_true
 | int i =>
  obtain ⟨t, rfl⟩ := rx
  cases y with
  | non => cases ry; exact PySem.EqNone.ne_int_none (aZ I q (by simp))
  | int j => obtain ⟨t', rfl⟩ := ry; exact ne_int (aZ I q (congrArg not vo))
  | str j => obtain ⟨t', rfl⟩ := ry; exact PySem.EqMixed.ne_int_str (aZ I q (by simp))
  | _ => exact absurd (show false = true from hs) Bool.false_ne_true
 | str i =>
  obtain ⟨t, rfl⟩ := rx
  cases y with
  | non => cases ry; exact PySem.EqNone.ne_str_none (aZ I q (by simp))
  | bl j => cases ry; exact PySem.EqMixed.ne_str_bool (aZ I q (by simp))
  | int j => obtain ⟨t', rfl⟩ := ry; exact PySem.EqMixed.ne_str_int (aZ I q (by simp))
  | str j => obtain ⟨t', rfl⟩ := ry; exact ne_str (aZ I q (congrArg not vP))
  | _ => exact absurd (show false = true from hs) Bool.false_ne_true
 | byt i =>
  obtain ⟨t, rfl⟩ := rx
  cases y with
  | byt j => obtain ⟨t', rfl⟩ := ry; exact PySem.W.ne_bytes (aZ I q (congrArg not va))
  | _ => exact absurd (show false = true from hs) Bool.false_ne_true
 | _ => cases y <;> exact absurd (show false = true from hs) Bool.false_ne_true
theorem FT : iV X (compareOp .Lt) (BE fun i j => .bl (decide (i < j))) := C2 fun _ _ _ _ _ _ _ q => lt_int q
theorem CI : iV X (compareOp .LtE) (BE fun i j => .bl (decide (i <= j))) := C2 fun _ _ _ _ _ _ _ q => le_int q
theorem FA : iV X (compareOp .GtE) (BE fun i j => .bl (decide (j <= i))) := C2 fun _ _ _ _ _ _ _ q => ge_int q
theorem fc (b : Expr) {op : CmpOp} (h : op ≠ .In := by decide) (h2 : op ≠ .NotIn := by decide) : behindInMarks op b = false := by
 have e1 : (op == CmpOp.In) = false := by cases op <;> first | rfl | exact absurd rfl h
 have e2 : (op == CmpOp.NotIn) = false := by cases op <;> first | rfl | exact absurd rfl h2
 cases b <;> simp [behindInMarks, e1, e2]
theorem Ck {op : CmpOp} {r : R2} (ho : iV X (compareOp op) r) (ha : PE X a ta) (hb : PE X b tb) (hm : behindInMarks op b = false) : PE X (.Compare a [op] [b] pos) (F0 r ta tb) := by
 intro pins s σ H Q I h;exact wpAny_Compare1 (Dq ha hb I h fun v u s2 x y H2 I2 rx ry q => ho pins s2 σ H2 x y v u Q I2 rx ry q) hm
def EG (t : TE) : TT := fun σ H Q => t σ H fun x H' => ∃ k, x = .bl k /\ Q k H'
theorem BI {op : CmpOp} {r : R2} (ho : iV X (compareOp op) r) (ha : PE X a ta) (hb : PE X b tb) (hm : behindInMarks op b = false) : PT X (.Compare a [op] [b] pos) (EG (F0 r ta tb)) := by
 intro pins s σ H Q I h;refine wpAny_isTrue_Compare1 (cy (ha pins s σ H _ I h) fun v s1 ⟨x, H1, I1, r1, q1⟩ => cy (hb pins s1 σ H1 _ I1 q1) fun u s2 ⟨y, H2, I2, r2, q2⟩ =>
  cy (ho pins s2 σ H2 x y v u _ I2 r1 r2 q2) fun c s3 ⟨z, H3, I3, r3, k, e, q3⟩ => ?_) hm
 subst e;cases r3;exact wpAny_truthy_bool ⟨H3, I3, q3⟩
def Ds (r r' : R2) (ta tb tc : TE) : TE := fun σ H Q => ta σ H fun x H1 => tb σ H1 fun y H2 => r x y H2 fun z H3 => ∃ k, z = .bl k /\
 (if k = true then tc σ H3 fun w' H4 => r' y w' H4 Q else Q (.bl false) H3)
theorem zy {op op' : CmpOp} {r r' : R2} (ho : iV X (compareOp op) r) (ho' : iV X (compareOp op') r') (ha : PE X a ta) (hb : PE X b tb) (hc : PE X c tc)
 (hm : lastMarks [op, op'] [b, c] = false := by with_unfolding_all rfl) : PE X (.Compare a [op, op'] [b, c] pos) (Ds r r' ta tb tc) := by
 intro pins s σ H Q I h;refine Compare_chain (cy (ha pins s σ H _ I h) fun v s1 ⟨x, H1, I1, r1, q1⟩ => chain_link (cy (hb pins s1 σ H1 _ I1 q1) fun u s2 ⟨y, H2, I2, r2, q2⟩ =>
  cy (ho pins s2 σ H2 x y v u _ I2 r1 r2 q2) fun d s3 ⟨z, H3, I3, r3, k, e, q3⟩ => ?_)) hm
 subst e;cases r3;refine wpAny_truthy_bool ?_
 cases k with
 | false => exact ite_ff ⟨.bl false, H3, I3, rfl, q3⟩
 | true => exact ite_tt (chain_last (cy (hc pins s3 σ H3 _ I3 q3) fun w' s4 ⟨z', H4, I4, r4, q4⟩ => ho' pins s4 σ H4 y z' u w' Q I4 r2 r4 q4))
theorem mH : (sizeLine : Nat) < 2 ^ 63 := by rw [sizeLine_eq]; decide
theorem uk : iV X (binaryOp .Add) (fun x y H Q => ∃ i j, x = .str i /\ y = .str j /\ i.length + j.length <= sizeLine /\ Q (.str (i ++ j)) H) := by
 intro pins s σ H x y v u Q I rx ry h;obtain ⟨i, j, rfl, rfl, hz, q⟩ := h;obtain ⟨t, rfl⟩ := rx;obtain ⟨t', rfl⟩ := ry;exact add_str (fun t' tk => ⟨.str (i ++ j), H, I.tok _, ⟨_, rfl⟩, q⟩) hz
theorem vals1 {x : V} {us : HF} (r : Vals [x] us) : ∃ u, us = [u] /\ RelV x u := by
 cases r with
 | cons r1 r2 => cases r2; exact ⟨_, rfl, r1⟩
theorem vals2 {x y : V} {us : HF} (r : Vals [x, y] us) : ∃ u w', us = [u, w'] /\ RelV x u /\ RelV y w' := by
 cases r with
 | cons r1 r2 =>
  cases r2 with
  | cons r3 r4 => cases r4; exact ⟨_, _, rfl, r1, r3⟩
end
theorem gF.some_of {v : V} {o : Option Value} (r : gF (some v) o) : ∃ u, o = some u /\ RelV v u := by
 cases o with
 | none => exact (show False from r).elim
 | some u => exact ⟨u, rfl, r⟩
structure bx (k : Nat) (A : Around) : Prop where
 hd : A.handled = none
 dp : A.depth + 3 * k + 5 < recursionLimit
 un : A.units + 16 * k + 200 < cLine
theorem bx.mono {j k : Nat} {A : Around} (r : bx k A) (h : j <= k) : bx j A := ⟨r.hd, by have := r.dp; omega, by have := r.un; omega⟩
theorem bx.deeper {k : Nat} {A : Around} (r : bx (k + 1) A) (env : Env) : bx k (A.deeper env) :=
 ⟨r.hd, by have := r.dp; show A.depth + 1 + 3 * k + 5 < _; omega, by have := r.un; show A.units + 3 + 16 * k + 200 < _; omega⟩
theorem bx.in1 {k : Nat} {A : Around} (r : bx (k + 1) A) : bx k A.in1 :=
 ⟨r.hd, by have := r.dp; show A.depth + 3 * k + 5 < _; omega, by have := r.un; show A.units + 1 + 16 * k + 200 < _; omega⟩
theorem bx.depth {k : Nat} {A : Around} (r : bx k A) : A.depth < recursionLimit := by have := r.dp; omega
def Gf : TA := fun _ H Q => Q [] H
def EX (ta : TE) (tr : TA) : TA := fun σ H Q => ta σ H fun x H1 => tr σ H1 fun xs H2 => Q (x :: xs) H2
section
variable {X : Cx} {e : Expr} {es : List Expr} {te : TE} {t : TA} {pos : Pos}
theorem bu : PA X [] Gf := fun _ _ _ _ H Q I h => Calls.spliced_nil ⟨[], H, I, .nil, h⟩
theorem aK (ha : PE X e te) (hr : PA X es t) (hs : starEach (e :: es) X.env = (false, eval e X.env) :: starEach es X.env := by rfl) : PA X (e :: es) (EX te t) := by
 intro pos pins s σ H Q I h;rw [hs];show wpAny _ _ (spliced ((false, eval e X.env) :: backTo pos (starEach es X.env))) _ _ s;refine Calls.spliced_cons (cy (ha pins s σ H _ I h) fun u s1 ⟨x, H1, I1, r1, q1⟩ => ?_);exact cy (hr pos pins s1 σ H1 _ I1 q1) fun us s2 ⟨xs, H2, I2, r2, q2⟩ => ⟨x :: xs, H2, I2, .cons r1 r2, q2⟩
def Gy (t : TA) : TE := fun σ H Q => t σ H fun xs H1 => xs.length <= sizeLine /\ ∀ p, H1 p = none -> Q (.ref p) (upd H1 p (.tup xs))
def GJ (t : TA) : TE := fun σ H Q => t σ H fun xs H1 => xs.length <= sizeLine /\ ∀ p, H1 p = none -> Q (.ref p) (upd H1 p (.lst xs))
theorem yw {x1} (h : PA X es t) : PE X (.Tuple es x1 pos) (Gy t) := by
 intro pins s σ H Q I hq;refine wpAny_Tuple_spliced (cy (h pos pins s σ H _ I hq) fun us s1 ⟨xs, H1, I1, r, z, q⟩ => ⟨by rw [<- r.length]; exact z, ?_⟩);have hf : H1 s1.heap.objs.size = none := I1.hok.fresh (Nat.le_refl _);refine ⟨.ref s1.heap.objs.size, upd H1 s1.heap.objs.size (.tup xs), I1.laid (t' := s1.toks) (fun b u e => get?_push_of_some _ e) (Nat.le_refl _) ?_, rfl, q _ hf⟩;exact ⟨z, us, r, ⟨_, get?_push_size _ rfl, rfl, _, rfl⟩⟩
theorem mY (h : PA X es t) : PE X (.List es pos) (GJ t) := by
 intro pins s σ H Q I hq;refine wpAny_List_spliced (cy (h pos pins s σ H _ I hq) fun us s1 ⟨xs, H1, I1, r, z, q⟩ => ⟨by rw [<- r.length]; exact z, ?_⟩);have hf : H1 s1.heap.objs.size = none := I1.hok.fresh (Nat.le_refl _);refine ⟨.ref s1.heap.objs.size, upd H1 s1.heap.objs.size (.lst xs), I1.laid (t' := s1.toks) (fun b u e => get?_push_of_some _ e) (Nat.le_refl _) ?_, rfl, q _ hf⟩;exact ⟨z, us, 0, r, get?_push_size _ rfl⟩
end
abbrev Sp := List V -> Hp -> VK -> XK -> Prop
abbrev A3 := List Env -> Hp -> Shared -> XK -> Value -> Shared -> Prop
structure oj (P : Program) (w : World) (K : Frag) (mg : HE) (base : Heap) (A : Around) (outer : List Env) (s : Shared) (H : Hp) : Prop where
 frames : A.frames = some outer
 mod : Mod K mg base
 bs : ∀ b o, base.get? b = some o -> s.heap.get? b = some o /\ H b = none
 bsz : base.objs.size <= s.heap.objs.size
 gH : s.heap.FunFrames base outer
 frf : ∀ b ∈ qg outer, H b = none
 hok : jM P w H s.heap
 bare : AllBare s.gens
def CE (outer : List Env) (P : Program) (w : World) (H : Hp) (s : Shared) (Q : VK) (u : Value) (s' : Shared) : Prop :=
 ∃ v H', s'.os = s.os /\ AllBare s'.gens /\ Un (qg outer) [] H H' s.heap s'.heap /\ jM P w H' s'.heap /\ RelV v u /\ Q v H'
def CR (CX : A3) (outer : List Env) (P : Program) (w : World) (H : Hp) (s : Shared) (Q : VK) (E : XK) (r : Result) (s' : Shared) : Prop :=
 match r with
 | .ok (.ret u) => CE outer P w H s Q u s'
 | .ok _ => False
 | .error e => CX outer H s E e s'
structure fi (P : Program) (w : World) (K : Frag) (mg : HE) (base : Heap) (CX : A3) (k : Nat) (f : Addr) (fd : FuncData) (ps : HL) (sp : Sp) : Prop where
 len : ∀ vs H Q E, sp vs H Q E -> vs.length = ps.length
 run : ∀ (A : Around) (outer : List Env) (s : Shared) (H : Hp) (args : Args) (us : HF) (vs : List V) (Q : VK) (E : XK), bx k A -> oj P w K mg base A outer s H -> BindsTo s fd args (ps.zip us) -> Vals vs us -> sp vs H Q E ->
  codeAny (model P w) A (.call (.ref f) args) (CR CX outer P w H s Q E) s
theorem fi.imp {P : Program} {w : World} {K : Frag} {mg : HE} {base : Heap} {CX : A3} {k : Nat} {f : Addr} {fd : FuncData} {ps : HL} {sp sp' : Sp} (F : fi P w K mg base CX k f fd ps sp)
 (h : ∀ vs H Q E, sp' vs H Q E -> sp vs H Q E) : fi P w K mg base CX k f fd ps sp' :=
 ⟨fun vs H Q E q => F.len vs H Q E (h _ _ _ _ q), fun A outer s H args us vs Q E hr he hb hv hs => F.run A outer s H args us vs Q E hr he hb hv (h _ _ _ _ hs)⟩
section
variable {X : Cx} {pins : HI} {σ : St} {H : Hp} {s s' : Shared}
theorem Inv.gG (I : Inv X pins σ H s) : oj X.prog X.w X.K X.mg X.base X.A X.stack s H :=
 ⟨I.ok.frames, I.ok.mod, I.bs, Nat.le_trans I.ok.bsz I.sz, I.stack, I.vF, I.hok, I.bare⟩
theorem Inv.after {Q : VK} {u : Value} (I : Inv X pins σ H s) (h : CE X.stack X.prog X.w H s Q u s') : EP X pins σ Q u s' := by
 obtain ⟨v, H', os, bare, un, hok, r, q⟩ := h;obtain ⟨hh, g, d, t, os'⟩ := s';obtain rfl : os' = s.os := os;exact ⟨v, H', I.call (h' := hh) (g' := g) (d' := d) (t' := t) (ch := []) un hok bare (fun b z => absurd z (by simp)), r, q⟩
end
def E2 (sp : Sp) (dvs : List V) (E : XK) (t : TA) : TE := fun σ H Q => t σ H fun vs H1 => sp (vs ++ dvs) H1 Q E
def Binds (K : Frag) (fd : FuncData) (ps : HL) (ds : HF) : Prop :=
 ∀ (s : Shared) (us : HF), K.In s.heap -> (us ++ ds).length = ps.length -> BindsTo s fd ⟨us, []⟩ (ps.zip (us ++ ds))
theorem Binds.all {K : Frag} {fd : FuncData} {ps : HL} (h : ∀ us : List Value, us.length = ps.length -> bindArgs fd ⟨us, []⟩ = pure (ps.zip us)) : Binds K fd ps [] := fun s us _ hl => by
 rw [append_nil] at hl ⊢;exact .of_eq (h us hl)
def Passes (CX : A3) (X : Cx) (E : XK) : Prop := ∀ (pins : HI) (σ : St) (H : Hp) (s : Shared) (e : Value) (s' : Shared), Inv X pins σ H s -> CX X.stack H s E e s' -> X.xe e s'
section
variable {X : Cx} {CX : A3} {k : Nat} {f C : Addr} {fd : FuncData} {ps : HL} {sp : Sp} {dvs : List V} {ds : HF} {E : XK} {x m : Str} {p pos apos : Pos} {e o : Expr} {es : List Expr} {ta : TE} {t : TA}
theorem Ej {pins : HI} {σ : St} {H : Hp} {s : Shared} {Q : VK} {us : HF} {vs : List V} (F : fi X.prog X.w X.K X.mg X.base CX k f fd ps sp) (hr : bx k X.A) (hb : Binds X.K fd ps ds) (hd : Vals dvs ds) (hx : Passes CX X E)
 (I : Inv X pins σ H s) (r : Vals vs us) (h : sp (vs ++ dvs) H Q E) : wpAny (model X.prog X.w) X.A (call (.ref f) us) (EP X pins σ Q) X.xe s := by
 have r2 : Vals (vs ++ dvs) (us ++ ds) := r.append hd;have hl : (us ++ ds).length = ps.length := by rw [<- r2.length]; exact F.len _ _ _ _ h
 refine wpAny_call (codeAny_mono (F.run X.A X.stack s H ⟨us, []⟩ (us ++ ds) (vs ++ dvs) Q E hr I.gG (hb s us I.BZ hl) r2 h) fun r s' hq => ?_)
 cases r with
 | error e => exact hx pins σ H s e s' I hq
 | ok fl =>
  cases fl with
  | ret u => exact I.after hq
  | next => exact False.elim hq
  | brk => exact False.elim hq
  | cont => exact False.elim hq
theorem qh (F : fi X.prog X.w X.K X.mg X.base CX k f fd ps sp) (hr : bx k X.A) (hg : Gl X x) (hm : X.mg x = some (.ref f)) (hk : keepIn X.K (.ref f) = true) (hb : Binds X.K fd ps ds) (hd : Vals dvs ds) (hx : Passes CX X E)
 (ha : PA X (e :: es) t) (hdb : NdX x := by decide) (he : starEach (e :: es) X.env = (false, eval e X.env) :: starEach es X.env := by rfl) (hpl : (backTo pos (starEach es X.env)).any (·.1) = false := by rfl) :
 PE X (.Call (.Name x p) (e :: es) [] pos) (E2 sp dvs E t) := by
 intro pins s σ H Q I h;refine wpAny_Call_Name_kw (vT I hg hm ?_ hdb);refine PySem.W.callWith_K (h₀ := X.base) I.ok.mod.kin hk (cy (ha pos pins s σ H _ I h) fun us s1 ⟨vs, H1, I1, r, q⟩ => ⟨I1.BZ, ?_⟩) he hpl;exact Ej F hr hb hd hx I1 r q
end
structure aB (N P : HL) (sc : Scope) : Prop where
 kind : sc.kind = .function
 co : sc.isCoroutine = false
 gen : sc.isGenerator = false
 nd : N.Nodup
 pre : N.take P.length = P
 par : ∀ x ∈ P, sc.names.lookup x = some .local \/ sc.names.lookup x = some .cell
 nofree : ∀ y ∈ sc.names, y.2 ≠ .free
theorem pb {kindOf : Str -> Option NameKind} {x : Str} : ∀ {binds : List (Str × Value)} {m : HE}, (∀ v, (x, v) ∉ binds) -> bindL kindOf binds m x = m x
 | [], _, _ => rfl
 | (n, v) :: r, m, h => by
  unfold bindL;rw [pb fun w hw => h w (mem_cons_of_mem _ hw)];split
  . have : x ≠ n := by rintro rfl; exact h v mem_cons_self
    simp [this]
  . rfl
theorem pq {kindOf : Str -> Option NameKind} {x : Str} : ∀ {binds : List (Str × Value)} {m : HE}, (∀ v, (x, v) ∉ binds) -> bindC kindOf binds m x = m x
 | [], _, _ => rfl
 | (n, v) :: r, m, h => by
  unfold bindC;rw [pq fun w hw => h w (mem_cons_of_mem _ hw)];split
  . rfl
  . have : x ≠ n := by rintro rfl; exact h v mem_cons_self
    simp [this]
theorem pB {kindOf : Str -> Option NameKind} {x : Str} {v : Value} : ∀ {P : HL} {vs : HF} {i : Nat} {m : HE}, P.Nodup -> P[i]? = some x -> vs[i]? = some v -> kindOf x = some .local ->
 bindL kindOf (P.zip vs) m x = some v
 | [], _, _, _, _, h, _, _ => by simp at h
 | _ :: _, [], _, _, _, _, h, _ => by simp at h
 | p :: P, w :: vs, 0, m, nd, h1, h2, hk => by
  simp at h1 h2; subst h1; subst h2;show bindL kindOf ((p, w) :: P.zip vs) m p = _;unfold bindL;rw [pb fun v hv => (nodup_cons.mp nd).1 (List.of_mem_zip hv).1, if_pos hk];simp
 | p :: P, w :: vs, i + 1, m, nd, h1, h2, hk => by
  show bindL kindOf ((p, w) :: P.zip vs) m x = _;unfold bindL;exact pB (i := i) (nodup_cons.mp nd).2 (by simpa using h1) (by simpa using h2) hk
theorem pC {kindOf : Str -> Option NameKind} {x : Str} {v : Value} : ∀ {P : HL} {vs : HF} {i : Nat} {m : HE}, P.Nodup -> P[i]? = some x -> vs[i]? = some v -> kindOf x ≠ some .local ->
 bindC kindOf (P.zip vs) m x = some v
 | [], _, _, _, _, h, _, _ => by simp at h
 | _ :: _, [], _, _, _, _, h, _ => by simp at h
 | p :: P, w :: vs, 0, m, nd, h1, h2, hk => by
  simp at h1 h2; subst h1; subst h2;show bindC kindOf ((p, w) :: P.zip vs) m p = _;unfold bindC;rw [pq fun v hv => (nodup_cons.mp nd).1 (List.of_mem_zip hv).1, if_neg hk];simp
 | p :: P, w :: vs, i + 1, m, nd, h1, h2, hk => by
  show bindC kindOf ((p, w) :: P.zip vs) m x = _;unfold bindC;exact pC (i := i) (nodup_cons.mp nd).2 (by simpa using h1) (by simpa using h2) hk
def start (N : HL) (vs : List V) : St := vs.map some ++ List.replicate (N.length - vs.length) none
def lO (CX : A3) (P : Program) (w : World) (K : Frag) (mg : HE) (base : Heap) (N : HL) (qual : Str) (scope : Scope) (f : Addr) (cd : Value) (A : Around) (outer : List Env) (s : Shared) (H : Hp) (E : XK) : Cx where
 prog := P
 w := w
 K := K
 mg := mg
 base := base
 A := A.deeper (envOfC qual scope s.heap.objs.size f cd)
 N := N
 s₀ := s
 H₀ := H
 env := envOfC qual scope s.heap.objs.size f cd
 outer := outer
 stack := envOfC qual scope s.heap.objs.size f cd :: outer
 ex := []
 calm := true
 fn := fun _ => true
 pn := []
 xe := fun e s' => wpAny (model P w) (A.deeper (envOfC qual scope s.heap.objs.size f cd)) (leaving (envOfC qual scope s.heap.objs.size f cd) e) (fun _ s'' => CX outer H s E e s'') (fun e' s'' => CX outer H s E e' s'') s'
theorem rP {sc : Scope} {n : Nat} {x : Str} (h : sc.names.lookup x = some .cell) : ∃ c, (cellsFrom n sc.names []).lookup x = some c := by
 have q := PySem.W.cellsFrom_some sc.names n [] (.inl h);exact Option.isSome_iff_exists.mp q
theorem wu {CX : A3} {P : Program} {w : World} {K : Frag} {mg : HE} {base : Heap} {N ps : HL} {qual : Str} {scope : Scope} {f : Addr} {cd : Value} {A : Around} {outer : List Env} {s s1 : Shared} {H : Hp} {E : XK} {us : HF} {vs : List V}
 (S : aB N ps scope) (hd : A.handled = none) (e0 : oj P w K mg base A outer s H) (hl : vs.length = ps.length) (r : Vals vs us)
 (x : InCallC s s.heap.objs.size (bindL (envOfC qual scope s.heap.objs.size f cd).kindOf (ps.zip us) fun _ => none) (cellsFrom (s.heap.objs.size + 1) scope.names []) (bindC (envOfC qual scope s.heap.objs.size f cd).kindOf (ps.zip us) fun _ => none) s1) :
 Inv (lO CX P w K mg base N qual scope f cd A outer s H E) [] (start N vs) H s1 := by
 have hpl : ps.length <= N.length := by have := congrArg List.length S.pre; rw [length_take] at this; omega
 obtain ⟨h1, tk, rfl, hk⟩ := x.done;have noA : ∀ b : Addr, b ∉ (lO CX P w K mg base N qual scope f cd A outer s H E).ex := fun b z => absurd (show b ∈ ([] : List Addr) from z) (by simp);refine ⟨⟨e0.mod, S.kind, rfl, rfl, Nat.le_refl _, fun y z c h1 h2 => ?_, fun y hy => ?_, fun y c _ h => ?_, fun _ => hd, Around.frames_deeper e0.frames, .inr ⟨rfl, rfl⟩, fun b z => absurd z (noA b), e0.bs, e0.bsz, fun b _ _ => noA b, fun b z => absurd z (noA b), e0.gH, e0.frf⟩,
  rfl, e0.bare, Un.kept hk, ⟨_, x.toInCall.ns, fun i y v h1 h2 h3 => ?_⟩, fun y c h => ⟨_, x.cell y c h⟩, e0.hok.fresh (Nat.le_refl _), fun y c h => ?_, fun p hp => absurd (show p ∈ ([] : HI) from hp) (by simp), e0.hok.kept hk, ?_⟩
 . exact name_of_addr x.apart (PySem.mem_of_lookup h1) (PySem.mem_of_lookup h2)
 . have hy : scope.names.lookup y = some .cell \/ scope.names.lookup y = some .free := hy;rcases hy with hy | hy
   . exact rP hy
   . exact absurd rfl (S.nofree _ (PySem.mem_of_lookup hy))
 . exact Nat.le_of_lt (x.above y c (PySem.mem_of_lookup h))
 . have hi : i < vs.length := by
    unfold start at h2;by_cases hi : i < vs.length
    . exact hi
    . rw [getElem?_append_right (by simpa using hi)] at h2;rw [List.getElem?_replicate] at h2;split at h2 <;> cases h2
   have ha : vs[i]? = some v := by
    unfold start at h2;rw [getElem?_append_left (by simpa using hi), getElem?_map] at h2
    cases e : vs[i]? with
    | none => rw [e] at h2; cases h2
    | some a => rw [e] at h2; cases h2; rfl
   obtain ⟨u, hu, rv⟩ := r.get ha;have hp : ps[i]? = some y := by
    rw [<- S.pre, List.getElem?_take_of_lt (by omega)]; exact h1
   have ndP : ps.Nodup := by rw [<- S.pre]; exact S.nd.sublist (List.take_sublist _ _)
   refine ⟨u, rv, ?_⟩;rcases S.par y (mem_of_getElem? hp) with k | k
   . exact .inl ⟨k, pB ndP hp hu k⟩
   . obtain ⟨c, e⟩ := rP (n := s.heap.objs.size + 1) k;refine .inr ⟨.inl k, c, e, ?_⟩;have q := x.cell y c e;rw [pC ndP hp hu (by show scope.names.lookup y ≠ _; rw [k]; decide)] at q;exact q
 . exact e0.hok.fresh (Nat.le_of_lt (x.above y c (PySem.mem_of_lookup h)))
 . unfold start;show _ = N.length;rw [List.length_append, length_map, List.length_replicate];omega
theorem CT {CX : A3} {P : Program} {w : World} {K : Frag} {mg : HE} {base : Heap} {k : Nat} {f : Addr} {name qual : Str} {params : Arguments} {body : List Stmt} {scope : Scope} {dV kV doc pm cdv ct oc : Value} {an od : HH}
 {osl : HD} {N ps : HL} {sp : Sp} (lk : K.lookup f = some ⟨oc, od, .func (PySem.W.fnOf name qual params body scope dV kV doc pm an cdv ct), osl⟩) (hcd : PySem.W.codeIn K cdv qual = true) (S : aB N ps scope)
 (len : ∀ vs H Q E, sp vs H Q E -> vs.length = ps.length)
 (hbody : ∀ (A : Around) (outer : List Env) (s : Shared) (H : Hp) (vs : List V) (Q : VK) (E : XK), bx k (A.deeper (envOfC qual scope s.heap.objs.size f cdv)) -> sp vs H Q E ->
  ∃ t, nV (lO CX P w K mg base N qual scope f cdv A outer s H E) body t /\ t { nx := fun _ H' => Q .non H', rt := Q } (start N vs) H) :
 fi P w K mg base CX (k + 1) f (PySem.W.fnOf name qual params body scope dV kV doc pm an cdv ct) ps sp := by
 refine ⟨len, fun A outer s H args us vs Q E hr e0 hb r hsp => ?_⟩;have hl := len _ _ _ _ hsp;have KX : K.In s.heap := e0.mod.kin.keeps fun b o e => (e0.bs b o e).1;have lim : s.heap.NoLimit := e0.mod.nolimit.keeps fun b o e => (e0.bs b o e).1;have hkind : ∀ y ∈ ps.zip us, scope.names.lookup y.1 = some .local \/ (scope.names.lookup y.1 = some .cell /\ ((cellsFrom (s.heap.objs.size + 1) scope.names []).lookup y.1).isSome = true) := fun ⟨n, v⟩ hy => by
  rcases S.par n (List.of_mem_zip hy).1 with q | q
  . exact .inl q
  . exact .inr ⟨q, PySem.W.cellsFrom_some _ _ _ (.inl q)⟩
 refine codeAny_call_function hr.depth (KX _ _ lk) rfl S.co S.gen rfl (PySem.W.codeRec_of KX hcd) (hb _ _ _ _ ?_);refine wpAny_newFunctionEnv_cells S.kind hkind fun env he s1 x => ?_;subst he;refine ⟨lim.keeps x.toInCall.keep, codeAny_func ?_⟩;obtain ⟨t, ht, hq⟩ := hbody A outer s H vs Q E (hr.deeper _) hsp;have I : Inv (lO CX P w K mg base N qual scope f cdv A outer s H E) [] (start N vs) H s1 := wu S hr.hd e0 hl r x;refine wpAny_mono (ht [] s1 (start N vs) H _ I hq) (fun fl s' hs => ?_) fun e s' hs => hs;have fin : ∀ {σ' : St} {H' : Hp} {v : V} {u : Value}, Inv (lO CX P w K mg base N qual scope f cdv A outer s H E) [] σ' H' s' -> RelV v u -> Q v H' -> CE outer P w H s Q u s' :=
  fun {σ' H' v u} J rv q => ⟨v, H', J.os, J.bare, J.base, J.hok, rv, q⟩
 cases fl with
 | ret u =>
  obtain ⟨v, σ', H', J, rv, q⟩ := hs;exact fin J rv q
 | next =>
  obtain ⟨σ', H', J, q⟩ := hs;exact fin (v := V.non) (u := Value.none) J rfl q
 | brk =>
  obtain ⟨_, _, _, q⟩ := hs;exact False.elim q
 | cont =>
  obtain ⟨_, _, _, q⟩ := hs;exact False.elim q
section
variable {X : Cx} {x : Str} {p pos : Pos} {e : Expr} {es : List Expr} {t : TA} {id T : String} {r : List V -> Hp -> VK -> Prop}
def GY (r : List V -> Hp -> VK -> Prop) (t : TA) : TE := fun σ H Q => t σ H fun vs H1 => r vs H1 Q
theorem gU (hc : lu X (.builtin id) r) (hg : Gl X x) (hm : X.mg x = none) (hv : bootBuiltins x = some (.builtin id)) (ha : PA X (e :: es) t) (hn : x ≠ "__name__" := by decide) (hdb : NdX x := by decide)
 (he : starEach (e :: es) X.env = (false, eval e X.env) :: starEach es X.env := by rfl) (hpl : (backTo pos (starEach es X.env)).any (·.1) = false := by rfl) : PE X (.Call (.Name x p) (e :: es) [] pos) (GY r t) := by
 intro pins s σ H Q I h;refine wpAny_Call_Name_kw (jv I hg hm hv ?_ hn hdb);exact PyProof.Rows.callWith_builtin1 (cy (ha pos pins s σ H _ I h) fun us s1 ⟨vs, H1, I1, r1, q1⟩ => hc pins s1 σ H1 vs us Q I1 r1 q1) he hpl
theorem xv (hc : lu X (.type T) r) (hg : Gl X x) (hm : X.mg x = none) (hv : bootBuiltins x = some (.type T)) (ha : PA X (e :: es) t) (hn : x ≠ "__name__" := by decide) (hdb : NdX x := by decide)
 (he : starEach (e :: es) X.env = (false, eval e X.env) :: starEach es X.env := by rfl) (hpl : (backTo pos (starEach es X.env)).any (·.1) = false := by rfl) : PE X (.Call (.Name x p) (e :: es) [] pos) (GY r t) := by
 intro pins s σ H Q I h;refine wpAny_Call_Name_kw (jv I hg hm hv ?_ hn hdb);exact PyProof.Rows.callWith_type1 (cy (ha pos pins s σ H _ I h) fun us s1 ⟨vs, H1, I1, r1, q1⟩ => hc pins s1 σ H1 vs us Q I1 r1 q1) he hpl
end
end L2
namespace HT
open PySem PyProof.Rows
section
variable {prog : Program} {w : World} {A : Around} {E : HB} {s : Shared}
def pj (n d : Nat) : Option Int -> Nat
 | none => d
 | some v => if v < 0 then (v + (n : Int)).toNat else min v.toNat n
theorem sJ (n d : Nat) : pj n d none = d := rfl
theorem lZ (n d k : Nat) : pj n d (some (k : Int)) = min k n := by
 show (if (k : Int) < 0 then ((k : Int) + (n : Int)).toNat else min (k : Int).toNat n) = min k n;rw [if_neg (by omega), Int.toNat_natCast]
end
end HT
namespace L2
open PySem PySem.Spec PyProof.Rows
abbrev TO := St -> Hp -> (Option Int -> Hp -> Prop) -> Prop
def PO (X : Cx) (e : Option Expr) (t : TO) : Prop :=
 ∀ (pins : HI) (s : Shared) (σ : St) (H : Hp) (Q : Option Int -> Hp -> Prop), Inv X pins σ H s -> t σ H Q ->
  wpAny (model X.prog X.w) X.A (evalPart e X.env) (fun u s' => ∃ o H', Inv X pins σ H' s' /\ IsPart u o /\ Q o H') X.xe s
def Bc : TO := fun _ H Q => Q none H
def FP (t : TE) : TO := fun σ H Q => t σ H fun x H1 => ∃ i, x = .int i /\ Q (some i) H1
theorem intsAre_of {ns : HM} : ∀ {us : HF}, Vals (ns.map V.int) us -> IntsAre us ns := by
 induction ns with
 | nil => intro us r; rw [map_nil] at r; cases r; exact .nil
 | cons n ns ih =>
  intro us r;rw [map_cons] at r
  cases r with
  | cons r1 r2 =>
   obtain ⟨t, e⟩ := r1;subst e;exact .cons n t (ih r2)
section
variable {X : Cx} {e : Expr} {te : TE} {lo hi : Option Expr} {tl th : TO} {pos p2 : Pos}
theorem BD : PO X none Bc := by
 intro pins s σ H Q I h;rw [evalPart_none];exact wpAny_pure ⟨none, H, I, .none, h⟩
theorem Cj (h : PE X e te) : PO X (some e) (FP te) := by
 intro pins s σ H Q I hw;rw [evalPart_some];refine cy (h pins s σ H _ I hw) fun u s1 ⟨x, H1, I1, r1, q1⟩ => ?_;obtain ⟨i, rfl, q⟩ := q1;obtain ⟨t, rfl⟩ := r1;exact ⟨some i, H1, I1, .int i t, q⟩
def GB (X : Cx) (r : V -> Option Int -> Option Int -> Hp -> VK -> Prop) : Prop :=
 ∀ (pins : HI) (s : Shared) (σ : St) (H : Hp) (x : V) (v vl vu : Value) (lo hi : Option Int) (sl : Addr) (Q : VK), Inv X pins σ H s -> RelV x v -> s.heap.IsSliceOf sl vl vu .none -> IsPart vl lo -> IsPart vu hi -> r x lo hi H Q ->
  ∃ T id, typeLookup (.type T) "__getitem__" = pure (some (.builtin id)) /\ s.TypeIs v T /\ wpAny (model X.prog X.w) X.A (getItem v (.ref sl)) (EP X pins σ Q) X.xe s
def Hx (r : V -> Option Int -> Option Int -> Hp -> VK -> Prop) (te : TE) (tl th : TO) : TE := fun σ H Q => te σ H fun x H1 => tl σ H1 fun l H2 => th σ H2 fun u H3 => r x l u H3 Q
theorem rC {r : V -> Option Int -> Option Int -> Hp -> VK -> Prop} (hr : GB X r) (he : PE X e te) (hl : PO X lo tl) (hu : PO X hi th) : PE X (.Subscript e (.Slice lo hi none p2) pos) (Hx r te tl th) := by
 intro pins s σ H Q I h;refine Subscript_ (cy (he pins s σ H _ I h) fun v s1 ⟨x, H1, I1, r1, q1⟩ => ?_);refine wpAny_Slice (cy (hl pins s1 σ H1 _ I1 q1) fun vl s2 ⟨l, H2, I2, pl, q2⟩ => cy (hu pins s2 σ H2 _ I2 q2) fun vu s3 ⟨u, H3, I3, pu, q3⟩ => ?_);rw [evalPart_none];refine wpAny_pure ?_;have I4 : Inv X pins σ H3 { s3 with heap := s3.heap.push { cls := .type "slice", data := .fields #[vl, vu, .none] } } := I3.kept (t' := s3.toks) fun b ob q => get?_push_of_some _ q;obtain ⟨T, id, hT, ht, hg⟩ := hr pins { s3 with heap := s3.heap.push { cls := .type "slice", data := .fields #[vl, vu, .none] } } σ H3 x v vl vu l u s3.heap.objs.size Q I4 r1 (Heap.IsSliceOf.new ..) pl pu q3;show wpAny (model X.prog X.w) X.A (subscriptTail e (.Slice lo hi none p2) v (.ref s3.heap.objs.size)) (EP X pins σ Q) X.xe { s3 with heap := s3.heap.push { cls := .type "slice", data := .fields #[vl, vu, .none] } };exact tail_any (ops := [.ref s3.heap.objs.size, v]) ht hT hg (by with_unfolding_all rfl)
def tO (xs : List V) (lo hi : Option Int) : List V := (xs.drop (HT.pj xs.length 0 lo)).take (HT.pj xs.length xs.length hi - HT.pj xs.length 0 lo)
theorem rG (xs : List V) (lo hi : Option Int) : (tO xs lo hi).length <= xs.length := by
 unfold tO;rw [length_take, length_drop];omega
end
def AO (n : Nat) (i : Int) : Option Nat := if 0 <= i then (if i < n then some i.toNat else none) else if -(n : Int) <= i then some (i + n).toNat else none
def nY {α : Type} (xs : List α) (i : Int) : Option α := (AO xs.length i).bind fun j => xs[j]?
theorem A9 {n : Nat} {i : Int} {j : Nat} (h : AO n i = some j) : seqIndex? i n = some j /\ j < n /\ -(n : Int) <= i /\ i < n := by
 unfold AO at h;by_cases h0 : 0 <= i
 . rw [if_pos h0] at h;by_cases h1 : i < n
   . rw [if_pos h1] at h;have e : i.toNat = j := Option.some.inj h;exact ⟨by rw [seqIndex_of h0 h1, e], by omega, by omega, h1⟩
   . rw [if_neg h1] at h; cases h
 . rw [if_neg h0] at h;by_cases h1 : -(n : Int) <= i
   . rw [if_pos h1] at h;have e : (i + n).toNat = j := Option.some.inj h;exact ⟨by rw [seqIndex_neg (by omega) h1, e], by omega, h1, by omega⟩
   . rw [if_neg h1] at h; cases h
theorem fo {α : Type} {xs : List α} {i : Int} {v : α} (h : nY xs i = some v) : ∃ j, seqIndex? i xs.length = some j /\ xs[j]? = some v /\ j < xs.length /\ -(xs.length : Int) <= i /\ i < xs.length := by
 unfold nY at h
 cases e : AO xs.length i with
 | none => rw [e] at h; cases h
 | some j =>
  rw [e] at h;obtain ⟨h1, h2, h3, h4⟩ := A9 e;exact ⟨j, h1, h, h2, h3, h4⟩
theorem dY {α : Type} {xs : List α} {j : Nat} {v : α} (h : xs[j]? = some v) : nY xs (j : Int) = some v := by
 have hj : j < xs.length := (List.getElem?_eq_some_iff.mp h).1;have e : AO xs.length (j : Int) = some j := by
  unfold AO;rw [if_pos (by omega), if_pos (by omega)]; simp
 unfold nY; rw [e]; exact h
theorem sG {α : Type} (xs : List α) (v : α) : nY (xs ++ [v]) (-1) = some v := by
 have hl : (xs ++ [v]).length = xs.length + 1 := by simp
 have e : AO (xs ++ [v]).length (-1) = some xs.length := by
  unfold AO;rw [hl, if_neg (by decide), if_pos (by omega)];congr 1;omega
 unfold nY;rw [e];show (xs ++ [v])[xs.length]? = some v;simp
def iG (b : Expr) : Prop := ∀ o i, subscripted b false o i = operate [o, i] (getItem o i)
def FV (X : Cx) (r : R2) : Prop :=
 ∀ (value slice : Expr) (pins : HI) (s : Shared) (σ : St) (H : Hp) (x y : V) (v u : Value) (Q : VK), Inv X pins σ H s -> RelV x v -> RelV y u -> r x y H Q ->
  subscripted slice false v u = operate [v, u] (getItem v u) -> wpAny (model X.prog X.w) X.A (subscriptTail value slice v u) (EP X pins σ Q) X.xe s
def E5 (X : Cx) (id : String) (r : V -> List V -> Hp -> VK -> Prop) : Prop :=
 ∀ (pins : HI) (s : Shared) (σ : St) (H : Hp) (x : V) (xs : List V) (v : Value) (us : HF) (Q : VK), Inv X pins σ H s -> RelV x v -> Vals xs us -> r x xs H Q ->
  wpAny (model X.prog X.w) X.A (call (.builtin id) (v :: us)) (EP X pins σ Q) X.xe s
section
variable {X : Cx} {a b : Expr} {ta tb : TE} {pos : Pos}
theorem r0 {r : R2} (hr : FV X r) (ha : PE X a ta) (hb : PE X b tb) (hs : iG b) : PE X (.Subscript a b pos) (F0 r ta tb) := by
 intro pins s σ H Q I h;exact Subscript_ (Dq ha hb I h fun v u s2 x y H2 I2 rx ry q => hr a b pins s2 σ H2 x y v u Q I2 rx ry q (hs _ _))
def GK (K : Frag) : R2 := fun x y H Q => ∃ p xs i v, x = .ref p /\ y = .int i /\ dZ K H p xs /\ nY xs i = some v /\ Q v H
def Gw (K : Frag) : R2 := fun x y H Q => ∃ p xs i v, x = .ref p /\ y = .int i /\ x8 K H p xs /\ nY xs i = some v /\ Q v H
def GF : R2 := fun x y H Q => ∃ z i c, x = .str z /\ y = .int i /\ z.length <= sizeLine /\ nY z.cps.toList i = some c /\ Q (.str ⟨#[c]⟩) H
theorem qf : FV X (GK X.K) := by
 intro value slice pins s σ H x y v u Q I rx ry h hs;obtain ⟨p, xs, i, z, rfl, rfl, hq, he, q⟩ := h;cases rx;obtain ⟨t, rfl⟩ := ry;obtain ⟨its, r, pl, hz⟩ := I.list hq;obtain ⟨j, h1, h2, h3, h4, h5⟩ := fo he;obtain ⟨w, ew, rw'⟩ := r.get h2;have hl := r.length;have hn := mH;have fin : EP X pins σ Q w s := ⟨z, H, I, rw', q⟩
 by_cases h0 : 0 <= i
 . have hj : i.toNat = j := by
    rw [seqIndex_of h0 h5] at h1;exact Option.some.inj h1
   exact item_listR pl.isList h0 (by omega) (by rw [hj]; simpa using ew) fin hs
 . have hj : (i + (its.toArray.size : Int)).toNat = j := by
    rw [seqIndex_neg (by omega) h4] at h1;rw [size_toArray, <- hl];exact Option.some.inj h1
   exact subscriptTail_builtinR (x := w) pl.isList.typeIs slot_list_getitem.lookup
    (wpAny_getItem_list_neg (Q := fun r s' => r = w /\ EP X pins σ Q r s') pl.isList (by omega) (by rw [size_toArray] <;> omega) (by omega) (by rw [hj]; simpa using ew) ⟨rfl, fin⟩) hs
theorem C6 : FV X (Gw X.K) := by
 intro value slice pins s σ H x y v u Q I rx ry h hs;obtain ⟨p, xs, i, z, rfl, rfl, hq, he, q⟩ := h;cases rx;obtain ⟨t, rfl⟩ := ry;obtain ⟨its, r, pl, hz⟩ := I.tuple hq;obtain ⟨j, h1, h2, h3, h4, h5⟩ := fo he;obtain ⟨w, ew, rw'⟩ := r.get h2;have hl := r.length;have hn := mH;have fin : EP X pins σ Q w s := ⟨z, H, I, rw', q⟩
 exact subscriptTail_builtinR (x := w) pl.typeIs slot_tuple_getitem.lookup
  (getItem_tuple (j := j) (Q := fun r s' => r = w /\ EP X pins σ Q r s') pl (by omega) (by omega) (by rw [size_toArray, <- hl]; exact h1) (by simpa using ew) ⟨rfl, fin⟩) hs
theorem Ec : FV X GF := by
 intro value slice pins s σ H x y v u Q I rx ry h hs;obtain ⟨z, i, c, rfl, rfl, hz, he, q⟩ := h;obtain ⟨t, rfl⟩ := rx;obtain ⟨t', rfl⟩ := ry;obtain ⟨j, h1, h2, h3, h4, h5⟩ := fo he;have hl : z.cps.toList.length = z.length := by simp [Str.length]
 rw [hl] at h1 h4 h5;have hn := mH;exact tail_any (typeIs_str s z t) slot_str_getitem.lookup (getItem_str (c := c) (by
  have e1 : decide (i < -(2 ^ 63 : Int)) = false := decide_eq_false (by omega);have e2 : decide (i ≥ 2 ^ 63) = false := decide_eq_false (by omega);rw [e1, e2, Bool.or_false]) (by rw [h1]; simpa using h2) ⟨.str ⟨#[c]⟩, H, I.tok _, ⟨_, rfl⟩, q⟩) hs
theorem pT (lo hi : Option Int) (n : Nat) : (sliceBounds lo hi none n).1 = ((HT.pj n 0 lo : Nat) : Int) /\ (sliceBounds lo hi none n).2.1 = ((HT.pj n n hi : Nat) : Int) /\ (sliceBounds lo hi none n).2.2 = 1 := by
 refine ⟨?_, ?_, rfl⟩
 . cases lo with
   | none => simp [sliceBounds, HT.pj]
   | some i =>
    simp only [sliceBounds, HT.pj, Option.getD_none, show (1 : Int) > 0 by decide, if_true];by_cases h : i < 0
    . simp only [h, if_true] <;> omega
    . simp only [h, if_false] <;> omega
 . cases hi with
   | none => simp [sliceBounds, HT.pj]
   | some i =>
    simp only [sliceBounds, HT.pj, Option.getD_none, show (1 : Int) > 0 by decide, if_true];by_cases h : i < 0
    . simp only [h, if_true] <;> omega
    . simp only [h, if_false] <;> omega
theorem oh (its : HF) (lo hi : Option Int) : slicePick its.toArray lo hi none = ((its.drop (HT.pj its.length 0 lo)).take (HT.pj its.length its.length hi - HT.pj its.length 0 lo)).toArray := by
 obtain ⟨h1, h2, h3⟩ := pT lo hi its.toArray.size;unfold slicePick;rw [h1, h2, h3];simp only [sliceRange_one, pick_run, size_toArray] <;> rfl
def GU (K : Frag) : V -> Option Int -> Option Int -> Hp -> VK -> Prop := fun x lo hi H Q => ∃ a xs, x = .ref a /\ dZ K H a xs /\ ∀ p, H p = none -> Q (.ref p) (upd H p (.lst (tO xs lo hi)))
theorem Bn : GB X (GU X.K) := by
 intro pins s σ H x v vl vu lo hi sl Q I rx hs pl pu h;obtain ⟨a, xs, rfl, hx, q⟩ := h;cases rx;obtain ⟨its, r, ht, hz⟩ := I.list hx;have hlen := r.length;refine ⟨"list", _, slot_list_getitem.lookup, ht.isList.typeIs, ?_⟩;refine wpAny_getItem_list_slice ht.isList hs pl pu .none (by simp) ?_ (by rw [size_toArray] <;> omega);rw [oh, <- hlen];refine ⟨.ref s.heap.objs.size, _, I.laid (t' := s.toks) (o := .lst (tO xs lo hi)) (fun b ob q => get?_push_of_some _ q) (Nat.le_refl _) ?_, rfl, q _ (I.hok.fresh (Nat.le_refl _))⟩;exact ⟨Nat.le_trans (rG xs lo hi) hz, _, 0, (r.drop (HT.pj xs.length 0 lo)).take (HT.pj xs.length xs.length hi - HT.pj xs.length 0 lo), get?_push_size _ rfl⟩
def gs : V -> Bool
 | .non => true
 | .bl _ => true
 | .int _ => true
 | .str _ => true
 | _ => false
def uS : V -> V -> Bool
 | .non, .non => true
 | .bl a, .bl b => a == b
 | .bl a, .int b => (if a then 1 else 0) == b
 | .int a, .bl b => a == (if b then 1 else 0)
 | .int a, .int b => a == b
 | .str a, .str b => a == b
 | _, _ => false
theorem Dk {A : Around} {s : Shared} {y x : V} {u v : Value} (ry : RelV y u) (rx : RelV x v) (fy : gs y = true) (fx : gs x = true) : SeqAt.EqAt A s u v (uS y x) := by
 cases y with
 | non =>
  cases ry
  cases x with
  | non => cases rx; exact SeqAt.EqAt.same _
  | bl b => cases rx; exact SeqAt.EqAt.none_bool b
  | int b => obtain ⟨t, rfl⟩ := rx; exact SeqAt.EqAt.none_int b t
  | str b => obtain ⟨t, rfl⟩ := rx; exact SeqAt.EqAt.none_str b t
  | _ => exact absurd (show false = true from fx) Bool.false_ne_true
 | bl a =>
  cases ry
  cases x with
  | non => cases rx; exact SeqAt.EqAt.bool_none a
  | bl b => cases rx; exact SeqAt.EqAt.bool_bool a b
  | int b => obtain ⟨t, rfl⟩ := rx; exact SeqAt.EqAt.bool_int a b t
  | str b => obtain ⟨t, rfl⟩ := rx; exact SeqAt.EqAt.bool_str a b t
  | _ => exact absurd (show false = true from fx) Bool.false_ne_true
 | int a =>
  obtain ⟨t', rfl⟩ := ry
  cases x with
  | non => cases rx; exact SeqAt.EqAt.int_none a t'
  | bl b => cases rx; exact SeqAt.EqAt.int_bool a t' b
  | int b => obtain ⟨t, rfl⟩ := rx; exact SeqAt.EqAt.int_int a t' b t
  | str b => obtain ⟨t, rfl⟩ := rx; exact SeqAt.EqAt.int_str a t' b t
  | _ => exact absurd (show false = true from fx) Bool.false_ne_true
 | str a =>
  obtain ⟨t', rfl⟩ := ry
  cases x with
  | non => cases rx; exact SeqAt.EqAt.str_none a t'
  | bl b => cases rx; exact SeqAt.EqAt.str_bool a t' b
  | int b => obtain ⟨t, rfl⟩ := rx; exact SeqAt.EqAt.str_int a t' b t
  | str b => obtain ⟨t, rfl⟩ := rx; exact SeqAt.EqAt.str_str a t' b t
  | _ => exact absurd (show false = true from fx) Bool.false_ne_true
 | _ => exact absurd (show false = true from fy) Bool.false_ne_true
def uO (x : V) (u : Value) : Bool := match u with
 | .none => uS .non x
 | .bool b => uS (.bl b) x
 | .int i _ => uS (.int i) x
 | .str z _ => uS (.str z) x
 | _ => false
theorem yb {x y : V} {u : Value} (r : RelV y u) (f : gs y = true) : uO x u = uS y x := by
 cases y with
 | non => cases r; rfl
 | bl b => cases r; rfl
 | int i => obtain ⟨t, rfl⟩ := r; rfl
 | str z => obtain ⟨t, rfl⟩ := r; rfl
 | _ => exact absurd (show false = true from f) Bool.false_ne_true
theorem kr {x : V} : ∀ {xs : List V} {us : HF}, Vals xs us -> xs.all gs = true -> us.any (uO x) = xs.any fun y => uS y x
 | _, _, .nil, _ => rfl
 | y :: xs, u :: us, .cons r t, f => by
  rw [List.all_cons, Bool.and_eq_true] at f;rw [List.any_cons, List.any_cons, yb r f.1, kr t f.2]
theorem hU {A : Around} {s : Shared} {x : V} {v : Value} (rx : RelV x v) (fx : gs x = true) : ∀ {xs : List V} {us : HF}, Vals xs us -> xs.all gs = true -> ∀ u ∈ us, SeqAt.EqAt A s u v (uO x u)
 | _, _, .nil, _ => fun u hu => by cases hu
 | y :: xs, u :: us, .cons r t, f => fun u' hu => by
  rw [List.all_cons, Bool.and_eq_true] at f;rcases mem_cons.mp hu with rfl | hu
  . rw [yb r f.1]; exact Dk r rx f.1 fx
  . exact hU rx fx t f.2 u' hu
def CG (x : V) (xs : List V) : Bool := xs.any fun y => uS y x
def GX (K : Frag) (neg : Bool) : R2 := fun x y H Q => ∃ p xs, y = .ref p /\ (dZ K H p xs \/ x8 K H p xs) /\ gs x = true /\ xs.all gs = true /\ Q (.bl (if neg then !CG x xs else CG x xs)) H
theorem pH : iV X (compareOp .In) (GX X.K false) := by
 intro pins s σ H x y v u Q I rx ry h;obtain ⟨p, xs, rfl, hq, fx, fs, q⟩ := h;cases ry;rcases hq with hq | hq
 . obtain ⟨its, r, pl, hz⟩ := I.list hq;refine SeqAt.in_listAt (uO x) pl.isList (fun w hw => hU rx fx r fs w (by simpa using hw)) ⟨.bl _, H, I, rfl, ?_⟩;rw [show its.toArray.any (uO x) = its.any (uO x) by simp, kr r fs];exact q
 . obtain ⟨its, r, pl, hz⟩ := I.tuple hq;refine SeqAt.in_tupleAt (uO x) pl (fun w hw => hU rx fx r fs w (by simpa using hw)) ⟨.bl _, H, I, rfl, ?_⟩;rw [show its.toArray.any (uO x) = its.any (uO x) by simp, kr r fs];exact q
theorem qO : iV X (compareOp .NotIn) (GX X.K true) := by
 intro pins s σ H x y v u Q I rx ry h;obtain ⟨p, xs, rfl, hq, fx, fs, q⟩ := h;cases ry;rcases hq with hq | hq
 . obtain ⟨its, r, pl, hz⟩ := I.list hq;refine SeqAt.notIn_listAt (uO x) pl.isList (fun w hw => hU rx fx r fs w (by simpa using hw)) ⟨.bl _, H, I, rfl, ?_⟩;rw [show its.toArray.any (uO x) = its.any (uO x) by simp, kr r fs];exact q
 . obtain ⟨its, r, pl, hz⟩ := I.tuple hq;refine SeqAt.notIn_tupleAt (uO x) pl (fun w hw => hU rx fx r fs w (by simpa using hw)) ⟨.bl _, H, I, rfl, ?_⟩;rw [show its.toArray.any (uO x) = its.any (uO x) by simp, kr r fs];exact q
theorem pO : lu X (.builtin "len") (fun xs H Q => ∃ p ys, xs = [.ref p] /\ (dZ X.K H p ys \/ x8 X.K H p ys) /\ Q (.int ys.length) H) := by
 intro pins s σ H xs us Q I r h;obtain ⟨p, ys, rfl, hq, q⟩ := h;obtain ⟨u, rfl, rx⟩ := vals1 r;cases rx;have hn := mH;rcases hq with hq | hq
 . obtain ⟨its, r', pl, hz⟩ := I.list hq;have hlen := r'.length;exact Calls.call_len_list pl.isList (by simp only [size_toArray] <;> omega) ⟨.int ys.length, H, I.tok _, ⟨s.toks + 1, by rw [size_toArray, hlen]⟩, q⟩
 . obtain ⟨its, r', pl, hz⟩ := I.tuple hq;have hlen := r'.length;exact len_tuple pl (by simp only [size_toArray] <;> omega) ⟨.int ys.length, H, I.tok _, ⟨s.toks + 1, by rw [size_toArray, hlen]⟩, q⟩
theorem pY : lu X (.builtin "len") (fun xs H Q => ∃ z, xs = [.str z] /\ z.length <= sizeLine /\ Q (.int z.length) H) := by
 intro pins s σ H xs us Q I r h;obtain ⟨z, rfl, hz, q⟩ := h;obtain ⟨u, rfl, t, rfl⟩ := vals1 r;have hn := mH;exact len_str (by omega) ⟨.int z.length, H, I.tok _, ⟨_, rfl⟩, q⟩
theorem qI : lu X (.type "list") (fun xs H Q => ∃ p ys, xs = [.ref p] /\ (dZ X.K H p ys \/ x8 X.K H p ys) /\ ∀ l, H l = none -> Q (.ref l) (upd H l (.lst ys))) := by
 intro pins s σ H xs us Q I r h;obtain ⟨p, ys, rfl, hq, q⟩ := h;obtain ⟨u, rfl, rx⟩ := vals1 r;cases rx;have fin : ∀ (its : HF), Vals ys its -> ys.length <= sizeLine -> ∀ (h' : Heap) (c' : Nat), (∀ b o', s.heap.get? b = some o' -> h'.get? b = some o') ->
  h'.get? s.heap.objs.size = some { cls := .type "list", dict := none, data := .seq its.toArray c', slots := #[] } -> EP X pins σ Q (.ref s.heap.objs.size) { s with heap := h' } := fun its r' hz h' c' kp e =>
  ⟨.ref s.heap.objs.size, _, I.laid (t' := s.toks) kp (Nat.le_refl _) (show bR X.prog X.w _ h' _ (.lst ys) from ⟨hz, its, c', r', e⟩), rfl, q _ (I.hok.fresh (Nat.le_refl _))⟩
 rcases hq with hq | hq
 . obtain ⟨its, r', pl, hz⟩ := I.list hq;have hlen := r'.length;obtain ⟨o, ho, hc, n, hd⟩ := pl.isList;exact call_list_seq p (.inl rfl) ho hc hd (fun h' c' kp e => fin its r' hz h' c' kp e) (by simp only [size_toArray] <;> omega)
 . obtain ⟨its, r', pl, hz⟩ := I.tuple hq;have hlen := r'.length;obtain ⟨o, ho, hc, n, hd⟩ := pl;exact call_list_seq p (.inr rfl) ho hc hd (fun h' c' kp e => fin its r' hz h' c' kp e) (by simp only [size_toArray] <;> omega)
def Gg (K : Frag) (T : String) (x : V) (H : Hp) : Prop := match x with
 | .str _ => T = "str"
 | .int _ => T = "int"
 | .ref p => (T = "list" /\ ∃ xs, dZ K H p xs) \/ (T = "tuple" /\ ∃ o, K.lookup p = some o /\ o.cls = .type "tuple" /\ o.dict = none) \/
  (T = "dict" /\ ((∃ kvs, H p = some (.dK kvs)) \/ ∃ kvs, H p = some (.dT kvs))) \/ (T = "set" /\ ∃ S n, H p = some (.set S n))
 | _ => False
theorem Al {pins : HI} {σ : St} {H : Hp} {s : Shared} {T : String} {x : V} {v : Value} (I : Inv X pins σ H s) (r : RelV x v) (ty : Gg X.K T x H) :
 s.TypeIs v T /\ ∀ a, v = .ref a -> ∃ ob, s.heap.get? a = some ob /\ ob.dict = none := by
 cases x with
 | str z =>
  obtain ⟨t, rfl⟩ := r;cases (show T = "str" from ty);exact ⟨typeIs_str s z t, fun _ e => nomatch e⟩
 | int i =>
  obtain ⟨t, rfl⟩ := r;cases (show T = "int" from ty);exact ⟨typeIs_int s i t, fun _ e => nomatch e⟩
 | ref p =>
  cases r;rcases ty with ⟨rfl, xs, hq⟩ | ⟨rfl, o, hk, hc, hd⟩ | ⟨rfl, hk⟩ | ⟨rfl, S, n, hk⟩
  . obtain ⟨its, _, pl, _⟩ := I.list hq;refine ⟨pl.isList.typeIs, fun a e => ?_⟩;cases e;obtain ⟨o, n, e, c, hd, _⟩ := pl;exact ⟨o, e, hd⟩
  . refine ⟨⟨o, I.BZ p o hk, hc⟩, fun a e => ?_⟩;cases e;exact ⟨o, I.BZ _ o hk, hd⟩
  . have z : ∃ o, s.heap.get? p = some o /\ o.ExactDict := by
     rcases hk with ⟨kvs, hk⟩ | ⟨kvs, hk⟩
     . obtain ⟨_, _, _, _, o, _, _, e, ex, _⟩ := I.hok p _ hk;exact ⟨o, e, ex⟩
     . obtain ⟨_, _, _, _, o, _, _, e, ex, _⟩ := I.hok p _ hk;exact ⟨o, e, ex⟩
    obtain ⟨o, e, ex⟩ := z;refine ⟨⟨o, e, ex.1⟩, fun a e2 => ?_⟩;cases e2;exact ⟨o, e, ex.2.1⟩
  . obtain ⟨o, _, _, _, e, ex, _⟩ := I.hok p _ hk;refine ⟨⟨o, e, ex.1⟩, fun a e2 => ?_⟩;cases e2;exact ⟨o, e, ex.2.1⟩
 | _ => exact False.elim ty
def Ge (K : Frag) (T : String) (r : V -> List V -> Hp -> VK -> Prop) (to : TE) : TE := fun σ H Q => to σ H fun x H1 => Gg K T x H1 /\ r x [] H1 Q
def Hn (K : Frag) (T : String) (r : V -> List V -> Hp -> VK -> Prop) (to : TE) (t : TA) : TE := fun σ H Q => to σ H fun x H1 => Gg K T x H1 /\ t σ H1 fun xs H2 => r x xs H2 Q
variable {o e : Expr} {es : List Expr} {to : TE} {t : TA} {name : Str} {apos cpos : Pos} {T id : String} {r : V -> List V -> Hp -> VK -> Prop}
theorem Em (pa : PlainAttrs T) (slot : Slot T name id) (hty : typeOf (.builtin id) = pure (.type "method_descriptor")) (hm : E5 X id r) (ho : PE X o to)
 (hbase : attributeBase o name X.env (eval o X.env) = eval o X.env := by rfl) (hline : (apos.endLine == cpos.line) = true := by rfl) : PE X (.Call (.Attribute o name apos) [] [] cpos) (Ge X.K T r to) := by
 intro pins s σ H Q I h;refine wpAny_Call_method0_late hbase hline (cy (ho pins s σ H _ I h) fun v s1 ⟨x, H1, I1, r1, ty, q1⟩ => ?_);obtain ⟨h1, h2⟩ := Al I1 r1 ty;exact ⟨T, id, pa, slot, hty, h1, h2, Calls.callWith_builtin rfl (PySem.evalArgs_none (hm pins s1 σ H1 x [] v [] Q I1 r1 .nil q1))⟩
theorem gY (pa : PlainAttrs T) (slot : Slot T name id) (hty : typeOf (.builtin id) = pure (.type "method_descriptor")) (hm : E5 X id r) (ho : PE X o to) (ha : PA X (e :: es) t)
 (hbase : attributeBase o name X.env (eval o X.env) = eval o X.env := by rfl)
 (hfew : ((backTo cpos (starEach (e :: es) X.env)).all (fun x => !x.1) && (backToKw cpos (keywordEach [] X.env)).all (fun x => x.1.isSome)
  && decide ((e :: es).length + ([] : List Keyword).length + (if ([] : List Keyword).isEmpty then 0 else 1) < 30)) = true := by rfl)
 (hline : (apos.endLine == cpos.line) = true := by rfl) (hs : starEach (e :: es) X.env = (false, eval e X.env) :: starEach es X.env := by rfl) (hplain : (backTo cpos (starEach es X.env)).any (·.1) = false := by rfl) :
 PE X (.Call (.Attribute o name apos) (e :: es) [] cpos) (Hn X.K T r to t) := by
 intro pins s σ H Q I h;refine wpAny_Call_method_late hbase hfew hline rfl (cy (ho pins s σ H _ I h) fun v s1 ⟨x, H1, I1, r1, ty, q1⟩ => ?_);obtain ⟨h1, h2⟩ := Al I1 r1 ty;refine ⟨T, id, pa, slot, hty, h1, h2, ?_⟩;have hA := ha cpos pins s1 σ H1 _ I1 q1;rw [hs] at hA ⊢;refine Calls.callWith_builtin (by show (false || (backTo cpos (starEach es X.env)).any (·.1)) = false; rw [hplain] <;> rfl) (Calls.evalArgs_plain ?_);exact cy hA fun us s2 ⟨vs, H2, I2, r2, q2⟩ => hm pins s2 σ H2 x vs v us Q I2 r1 r2 q2
end
def G8 (X : Cx) (id : String) (r : V -> List V -> Hp -> VK -> Prop) : Prop :=
 ∀ (pins : HI) (s : Shared) (σ : St) (H : Hp) (x : V) (xs : List V) (v : Value) (us : HF) (Q : VK), Inv X pins σ H s -> RelV x v -> Vals xs us -> r x xs H Q ->
  wpAny (model X.prog X.w) X.A (call (.builtin id) (v :: us)) (EP X pins σ Q) X.xe s
theorem Vals.one : ∀ {x : V} {us : HF}, Vals [x] us -> ∃ u, us = [u] /\ RelV x u
 | _, _, .cons r .nil => ⟨_, rfl, r⟩
theorem Vals.zero : ∀ {us : HF}, Vals [] us -> us = []
 | _, .nil => rfl
section
variable {X : Cx} {pins : HI} {σ : St} {H : Hp} {s : Shared} {l b : Addr} {xs ys zs : List V}
theorem Inv.BL {its its' : HF} {n : Nat} {f : Array Value -> Array Value} {t' : Nat} (I : Inv X pins σ H s) (hH : H l = some (.lst xs))
 (e : s.heap.get? l = some { cls := .type "list", data := .seq its.toArray n }) (hf : f its.toArray = its'.toArray) (hv : Vals ys its') (hz : ys.length <= sizeLine) :
 Inv X pins σ (upd H l (.lst ys)) { s with heap := s.heap.update l (Obj.mapSeq f), toks := t' } := by
 have q := PySem.IsL.update e f;rw [hf] at q;refine I.write (x := l) (e := l) (by rw [hH]; exact trivial) (.inl rfl) (fun b' u hb hu => (Heap.get?_update_other s.heap (Obj.mapSeq f) (Ne.symm hb)).trans hu) ⟨_, q⟩ ?_;exact ⟨hz, its', _, hv, q⟩
theorem Inv.Fh {its : HF} {t' : Nat} (I : Inv X pins σ H s) (hv : Vals ys its) (hz : ys.length <= sizeLine) :
 Inv X pins σ (upd H s.heap.objs.size (.lst ys)) { s with heap := s.heap.push { cls := .type "list", data := .seq its.toArray }, toks := t' } :=
 I.laid (fun _ _ q => get?_push_of_some _ q) (Nat.le_refl _) ⟨hz, its, 0, hv, get?_push_size _ rfl⟩
theorem Inv.fresh (I : Inv X pins σ H s) : H s.heap.objs.size = none := I.hok.fresh (Nat.le_refl _)
theorem Inv.Aa (I : Inv X pins σ H s) (hH : H l = some (.lst xs)) : xs.length <= sizeLine /\ ∃ (its : HF) (n : Nat), Vals xs its /\ xs.length = its.length /\ s.heap.get? l = some { cls := .type "list", data := .seq its.toArray n } := by
 obtain ⟨z, its, n, r, e⟩ := I.hok l _ hH;exact ⟨z, its, n, r, r.length, e⟩
theorem zG {n : Nat} (h : n <= sizeLine) : Builtin.List.listTooLong n = false := by
 unfold Builtin.List.listTooLong;exact decide_eq_false (by omega)
end
section
variable {X : Cx}
def BR : V -> List V -> Hp -> VK -> Prop := fun x vs H Q => ∃ l xs y, x = .ref l /\ vs = [y] /\ H l = some (.lst xs) /\ xs.length < sizeLine /\ Q .non (upd H l (.lst (xs ++ [y])))
theorem cz : G8 X "list.append" BR := by
 intro pins s σ H x vs v us Q I rx rv h;obtain ⟨l, xs, y, rfl, rfl, hH, hz, q⟩ := h;cases rx;obtain ⟨u, rfl, ru⟩ := rv.one;obtain ⟨z, its, n, r, hl, e⟩ := I.Aa hH;refine call_meets F.slot_list_append ⟨_, e, rfl⟩ F.entry_list_append (F.args_list_append_2 _ _) (PySem.list_append l its.toArray n u (by rw [size_toArray]; omega)) ⟨e, ?_⟩;refine ⟨.non, _, I.BL (its' := its ++ [u]) hH e (by simp) (r.append (.cons ru .nil)) ?_, rfl, q⟩;rw [List.length_append, List.length_singleton];omega
def Ba : V -> List V -> Hp -> VK -> Prop := fun x vs H Q => ∃ l b xs zs, x = .ref l /\ vs = [.ref b] /\ H l = some (.lst xs) /\ H b = some (.lst zs) /\ xs.length + zs.length <= sizeLine /\ Q .non (upd H l (.lst (xs ++ zs)))
theorem wI : G8 X "list.extend" Ba := by
 intro pins s σ H x vs v us Q I rx rv h;obtain ⟨l, b, xs, zs, rfl, rfl, hH, hB, hz, q⟩ := h;cases rx;obtain ⟨u, rfl, ru⟩ := rv.one;cases ru;obtain ⟨z, its, n, r, hl, e⟩ := I.Aa hH;obtain ⟨z2, its2, n2, r2, hl2, e2⟩ := I.Aa hB;have hsz : its.toArray.size + its2.toArray.size <= sizeLine := by rw [size_toArray, size_toArray]; omega
 have hlong : ¬ (!its.toArray.isEmpty && Builtin.List.listTooLong (its.toArray.size + its2.toArray.size)) = true := by
  rw [zG hsz, Bool.and_false];exact Bool.false_ne_true
 refine call_meets F.slot_list_extend ⟨_, e, rfl⟩ F.entry_list_extend (F.args_list_extend_2 _ _)
  (AutoSeq1.list_extend_list_list_0 l its.toArray n b its2.toArray n2 hlong (by rw [size_toArray]; omega) (by omega)) ⟨e, e2, ?_⟩
 refine ⟨.non, _, I.BL (its' := its ++ its2) hH e (by simp) (r.append r2) ?_, rfl, q⟩;rw [List.length_append];omega
end
end L2
namespace Att
open PySem PySem.W PySem.Calls PyProof.Rows
theorem lP {P : Params} {h : Heap} : ∀ (ns : HM) (vs : HF), WellAll P h vs (ns.map WData.int) -> IntsAre vs ns := by
 intro ns
 induction ns with
 | nil =>
  intro vs w;rw [map_nil] at w;cases w;exact .nil
 | cons n ns ih =>
  intro vs w;rw [map_cons] at w
  cases w with
  | cons a b =>
   cases a;exact .cons _ _ (ih _ b)
theorem we {l : OpenLaw} {n : Nat} (hn : l.most = some n) {P : Params} {h : Heap} {args : List WData} {vals : HF}
 (hpre : l.row.toRowW.claim.pre args = true) (hwl : WellAll P h vals args) :
 ∃ a vs ns, vals = [Value.ref a] /\ args = [WData.list (ns.map WData.int)] /\ h.get? a = some { cls := .type "list", data := .seq vs.toArray } /\ IntsAre vs ns /\ ns.length <= n := by
 have hsh : WShape.hasAll [] args [.list .int] = true := (pre_splitW hpre).1;have hc : l.pre.holds [] { args := args } = true := (pre_splitW hpre).2;obtain ⟨d, r, rfl, h1, h2⟩ := hasAllW_cons hsh;obtain rfl := hasAllW_nil h2;obtain ⟨xs, rfl, h3⟩ := hasW_list h1;obtain ⟨ns, rfl⟩ := items_int h3;have hlen : ns.length <= n := by
  unfold OpenLaw.pre at hc;have h4 : (WTm.not (.lt (.lit (.int (n : Int))) (.len (.arg 0)))).holds [] { args := [.list (ns.map .int)] } = true := by
   have h4 := (holds_andW hc).1;rw [hn] at h4;exact h4
  have h5 := condW_of h4 (w_not (w_lt w_lit (w_len_list (w_arg rfl))));rw [length_map] at h5;refine Nat.le_of_not_lt fun q => ?_;have q' : (n : Int) < ((ns.length : Nat) : Int) := by omega
  first
   | (rw [decide_eq_true q'] at h5; exact absurd h5 (by decide))
   | (simp at h5; omega)
 cases hwl with
 | cons w1 w2 =>
  cases w2
  cases w1 with
  | list ho hall => exact ⟨_, _, ns, rfl, rfl, ho, lP ns _ hall, hlen⟩
theorem xP (l : OpenLaw) (args : List WData) : l.row.toRowW.claim.post args (.bool true) args = true :=
 postW_of (r := l.row.toRowW) (X := (true == true))
  (show WShape.has [] (.bool true) .bool = true by first | rfl | decide | simp [WShape.has, WShape.arms, WShape.armsAll])
  (show (WTm.eq .res (.lit (.bool true))).value [] { args := args, res := some (.bool true), after := args } = some (.bool (true == true)) from w_eq_bool (w_res rfl) w_lit) rfl
theorem sU {l : OpenLaw} {n : Nat} {q : Program} {loose : HL} {XP : HE -> Heap -> Prop} {YP : World -> Heap -> Prop} {d : DefRec}
 (hn : l.most = some n) (hdf : d.params.defaults = [])
 (call : ∀ (w : World) (s₀ s₁ : Shared) (mg mb : HE) (fa : Addr) (o : Obj) (pm cd doc : Value) (a : Addr) (vs : HF) (ns : HM),
  Ground q loose [] XP w s₀ mg mb s₁.heap -> YP w s₁.heap ->
  s₁.heap.get? fa = some o -> o.data = .func (docDef d.name d.params d.body d.scope pm cd doc) -> s₁.heap.CodeRec cd d.name -> mg d.name = some (.ref fa) ->
  s₁.heap.get? a = some { cls := .type "list", data := .seq vs.toArray } -> IntsAre vs ns -> ns.length <= n -> s₁.gens = #[] ->
  codeAny (model l.prog w) callerA (.call (.ref fa) ⟨[.ref a], []⟩) (fun r s' => r = .ok (.ret (.bool true)) /\ OldK s₁.heap s'.heap /\ s'.os = s₁.os /\ AllBare s'.gens) s₁) :
 WalkO q loose XP YP l.row.toRowW d [] (fun f vs => PySem.call f vs) := by
 intro w s₀ s₁ mg mb G Y fa o pm cd doc dV kV ho hd hcd hD hmg hg args vals as hpre hlay hrd hwl hlo;obtain rfl : dV = .none := Dflts.none hD hdf;obtain rfl : kV = .none := Dflts.noKw hD;obtain ⟨a, vs, ns, rfl, rfl, hobj, hints, hlen⟩ := we hn hpre hwl;refine enter_call (codeAny_mono (call w s₀ s₁ mg mb fa o pm cd doc a vs ns G Y ho (fd_plain hd) hcd hmg hobj hints hlen hg) fun r s' hq => ?_);obtain ⟨rfl, h2, h3, h4⟩ := hq;exact ⟨.inl ⟨.bool true, .bool true, [], rfl, fun _ => rfl, .bool true, xP l _, fun _ => ⟨List.Pairwise.nil, fun _ hm => (nomatch hm)⟩⟩, h2, h3, h4⟩
end Att
namespace L2
open PySem PySem.Spec PyProof.Rows
theorem pe : ∀ {vs : HF} {ns : HM}, IntsAre vs ns -> Vals (ns.map V.int) vs
 | _, _, .nil => .nil
 | _, _, .cons n t h => .cons ⟨t, rfl⟩ (pe h)
def Hk (H : Hp) : Prop := ∀ b, H b = none \/ ∃ o xs, H b = some (.frz o (.lst xs))
def cT (s : Stmt) : Arguments := match s with
 | .FunctionDef _ a _ _ _ _ _ _ _ _ => a
 | _ => { posonlyargs := [], args := [], vararg := none, kwonlyargs := [], kw_defaults := [], kwarg := none, defaults := [] }
def bA (s : Stmt) : List Stmt := match s with
 | .FunctionDef _ _ b _ _ _ _ _ _ _ => b
 | _ => []
def ah (s : Stmt) : Scope := match s with
 | .FunctionDef _ _ _ _ _ _ sc _ _ _ => sc
 | _ => { kind := .function, names := [], isGenerator := false, isCoroutine := false }
abbrev lM : A3 := fun _ _ _ _ _ _ => False
abbrev E0 : XK := fun _ _ _ => False
theorem vg {X : Cx} : Passes lM X E0 := fun _ _ _ _ _ _ _ h => h.elim
structure eg (K : Frag) (x qual : Str) (st : Stmt) (f : Addr) (fd : FuncData) : Prop where
 ex : ∃ (oc : Value) (od : HH) (kV doc pm : Value) (an : HH) (cdv ct : Value) (osl : HD),
  fd = PySem.W.fnOf x qual (cT st) (bA st) (ah st) .none kV doc pm an cdv ct /\ K.lookup f = some ⟨oc, od, .func fd, osl⟩ /\ PySem.W.codeIn K cdv qual = true
 kp : keepIn K (.ref f) = true
section
variable {P : Program} {w : World} {K : Frag} {mg : HE} {base : Heap}
theorem eg.ok {x qual : Str} {st : Stmt} {f : Addr} {fd : FuncData} {N ps : HL} {k : Nat} {sp : Sp} (F : eg K x qual st f fd) (S : aB N ps (ah st)) (len : ∀ vs H Q E, sp vs H Q E -> vs.length = ps.length)
 (hbody : ∀ (cdv : Value) (A : Around) (outer : List Env) (s : Shared) (H : Hp) (vs : List V) (Q : VK) (E : XK), bx k (A.deeper (envOfC qual (ah st) s.heap.objs.size f cdv)) -> sp vs H Q E ->
  ∃ t, nV (lO lM P w K mg base N qual (ah st) f cdv A outer s H E).zL (bA st) t /\ t { nx := fun _ H' => Q .non H', rt := Q } (start N vs) H) : fi P w K mg base lM (k + 1) f fd ps sp := by
 obtain ⟨oc, od, kV, doc, pm, an, cdv, ct, osl, rfl, lk, hcd⟩ := F.ex;refine CT lk hcd S len fun A outer s H vs Q E hr hsp => ?_;obtain ⟨t, h, q⟩ := hbody cdv A outer s H vs Q E hr hsp;exact ⟨t, h.zL, q⟩
theorem eg.binds {x qual : Str} {st : Stmt} {f : Addr} {fd : FuncData} {ps : HL} (F : eg K x qual st f fd)
 (h : ∀ (kV doc pm : Value) (an : HH) (cdv ct : Value) (us : HF), us.length = ps.length -> bindArgs (PySem.W.fnOf x qual (cT st) (bA st) (ah st) .none kV doc pm an cdv ct) ⟨us, []⟩ = pure (ps.zip us)) : Binds K fd ps [] := by
 obtain ⟨oc, od, kV, doc, pm, an, cdv, ct, osl, rfl, lk, hcd⟩ := F.ex;exact .all (h kV doc pm an cdv ct)
theorem zY {x qual : Str} {st : Stmt} {f : Addr} {oc : Value} {od an : HH} {osl : HD} {kV doc pm cdv ct : Value} (l : K.lookup f = some ⟨oc, od, .func (PySem.W.fnOf x qual (cT st) (bA st) (ah st) .none kV doc pm an cdv ct), osl⟩)
 (c : PySem.W.codeIn K cdv qual = true) (k : keepIn K (.ref f) = true) : eg K x qual st f (PySem.W.fnOf x qual (cT st) (bA st) (ah st) .none kV doc pm an cdv ct) := ⟨⟨oc, od, kV, doc, pm, an, cdv, ct, osl, rfl, l, c⟩, k⟩
end
theorem aW {n : Nat} (h : n <= 1000) : n < sizeLine := Nat.lt_of_le_of_lt h (by decide)
theorem mV {A B : Prop} (h : B) : if false = true then A else B := by
 rw [if_neg Bool.false_ne_true];exact h
theorem nG {A B : Prop} (h : A) : if true = true then A else B := by
 rw [if_pos rfl];exact h
def au (H H' : Hp) : Prop := ∀ b o, H b = some o -> H' b = some o
theorem au.refl (H : Hp) : au H H := fun _ _ h => h
theorem au.trans {H H1 H2 : Hp} (a : au H H1) (b : au H1 H2) : au H H2 := fun c o h => b c o (a c o h)
theorem au.free {H H' : Hp} (e : au H H') {l : Addr} (h : H' l = Option.none) : H l = Option.none := by
 cases q : H l with
 | none => rfl
 | some o =>
  rw [e l o q] at h;cases h
theorem au.seq {K : Frag} {H H' : Hp} {a : Addr} {xs : List V} (e : au H H') (h : dZ K H a xs) : dZ K H' a xs := by
 rcases h with (h | ⟨o, h⟩) | h
 . exact .inl (.inl (e _ _ h))
 . exact .inl (.inr ⟨o, e _ _ h⟩)
 . exact .inr h
section
variable {κ : Type} [DecidableEq κ]
def cQ (kvs : List (κ × V)) (k : κ) : Option V := (kvs.find? fun kv => decide (kv.1 = k)).map (·.2)
def putK (kvs : List (κ × V)) (k : κ) (v : V) : List (κ × V) :=
 if (kvs.any fun kv => decide (kv.1 = k)) = true then kvs.map (fun kv => if kv.1 = k then (kv.1, v) else kv) else kvs ++ [(k, v)]
theorem jN {p : κ × V} {r : List (κ × V)} {k : κ} (e : p.1 = k) : cQ (p :: r) k = some p.2 := by simp [cQ, find?_cons, e]
theorem mD {p : κ × V} {r : List (κ × V)} {k : κ} (e : ¬ p.1 = k) : cQ (p :: r) k = cQ r k := by simp [cQ, find?_cons, e]
theorem ni (k : κ) : ∀ kvs : List (κ × V), (kvs.any fun kv => decide (kv.1 = k)) = (cQ kvs k).isSome
 | [] => rfl
 | p :: r => by
  rw [List.any_cons];by_cases e : p.1 = k
  . simp only [jN e, decide_eq_true e, Bool.true_or, Option.isSome_some]
  . rw [mD e, decide_eq_false e, Bool.false_or]; exact ni k r
theorem ip (kvs : List (κ × V)) (k : κ) (v : V) : (putK kvs k v).length <= kvs.length + 1 := by
 unfold putK;split
 . rw [length_map]; omega
 . rw [List.length_append, length_cons, List.length_nil]; omega
theorem zm {kvs : List (κ × V)} {k : κ} (v : V) (h : cQ kvs k = none) : putK kvs k v = kvs ++ [(k, v)] := by
 unfold putK;rw [ni, h];exact if_neg (by decide)
theorem gF.wG {o : Option V} {u : Option Value} (r : gF o u) : o.isSome = u.isSome := by
 cases o with
 | none => cases u with
  | none => rfl
  | some _ => exact (show False from r).elim
 | some _ => cases u with
  | none => exact (show False from r).elim
  | some _ => rfl
theorem gF.getD {o : Option V} {u : Option Value} {d : V} {d' : Value} (r : gF o u) (rd : RelV d d') : RelV (o.getD d) (u.getD d') := by
 cases o with
 | none => cases u with
  | none => exact rd
  | some _ => exact (show False from r).elim
 | some _ => cases u with
  | none => exact (show False from r).elim
  | some _ => exact r
theorem KV.val {kvs : List (κ × V)} {vs : List (κ × Value)} (r : KV kvs vs) (k : κ) : gF (cQ kvs k) (valueAt vs k) := by
 unfold KV at r
 induction r with
 | nil => exact True.intro
 | @cons p q ps qs h t ih =>
  obtain ⟨h1, h2⟩ := h;by_cases e : p.1 = k
  . have e' : q.1 = k := h1.symm.trans e;have b : valueAt (q :: qs) k = some q.2 := by simp [valueAt, find?_cons, e']
    rw [jN e, b]; exact h2
  . have e' : ¬ q.1 = k := fun z => e (h1.trans z);have b : valueAt (q :: qs) k = valueAt qs k := by simp [valueAt, find?_cons, e']
    rw [mD e, b]; exact ih
theorem KV.any {kvs : List (κ × V)} {vs : List (κ × Value)} (r : KV kvs vs) (k : κ) : (kvs.any fun kv => decide (kv.1 = k)) = vs.any fun kv => decide (kv.1 = k) := by
 unfold KV at r
 induction r with
 | nil => rfl
 | cons h t ih => rw [List.any_cons, List.any_cons, ih, h.1]
theorem KV.Du {kvs : List (κ × V)} {vs : List (κ × Value)} (r : KV kvs vs) (k : κ) {y : V} {u : Value} (ry : RelV y u) :
 KV (kvs.map fun kv => if kv.1 = k then (kv.1, y) else kv) (vs.map fun kv => if kv.1 = k then (kv.1, u) else kv) := by
 unfold KV at r ⊢
 induction r with
 | nil => exact .nil
 | @cons p q ps qs h t ih =>
  rw [map_cons, map_cons];refine .cons ?_ ih;obtain ⟨h1, h2⟩ := h;by_cases e : p.1 = k
  . rw [if_pos e, if_pos (h1.symm.trans e)]; exact ⟨h1, ry⟩
  . rw [if_neg e, if_neg (fun z => e (h1.trans z))]; exact ⟨h1, h2⟩
theorem KV.put {kvs : List (κ × V)} {vs : List (κ × Value)} (r : KV kvs vs) (k : κ) {y : V} {u : Value} (ry : RelV y u) : KV (putK kvs k y) (stored vs k u) := by
 unfold putK stored;rw [r.any k];by_cases e : (vs.any fun kv => decide (kv.1 = k)) = true
 . rw [if_pos e, if_pos e]; exact r.Du k ry
 . rw [if_neg e, if_neg e]; exact Paired.snoc r ⟨rfl, ry⟩
theorem KV.length {kvs : List (κ × V)} {vs : List (κ × Value)} (r : KV kvs vs) : kvs.length = vs.length := Paired.length r
end
theorem rF {P : Program} {w : World} {k : Key} {u : Value} (r : RelV (kV k) u) : (bt P w).is k u = true := by
 cases k with
 | inl i => obtain ⟨t, e⟩ := (show ∃ t, u = Value.int i t from r); subst e; exact sr P w i t
 | inr x => obtain ⟨t, e⟩ := (show ∃ t, u = Value.str x t from r); subst e; exact rV P w x t
theorem El {a b : Key} (e : kV a = kV b) : a = b := by
 cases a with
 | inl i => cases b with
  | inl j => have e' : V.int i = V.int j := e; injection e' with e'; rw [e']
  | inr y => exact nomatch (show V.int i = V.str y from e)
 | inr x => cases b with
  | inl j => exact nomatch (show V.str x = V.int j from e)
  | inr y => have e' : V.str x = V.str y := e; injection e' with e'; rw [e']
theorem vB : ∀ {a b : List Key}, a.map kV = b.map kV -> a = b
 | [], [], _ => rfl
 | [], _ :: _, e => by simp at e
 | _ :: _, [], e => by simp at e
 | x :: xs, y :: ys, e => by
  rw [map_cons, map_cons] at e;injection e with e1 e2;rw [El e1, vB e2]
theorem ph {P : Program} {w : World} : ∀ {ks : List Key} {us : HF}, Vals (ks.map kV) us -> ItemsAre (bt P w) ks us
 | [], _, r => by rw [map_nil] at r; cases r; exact .nil
 | k :: ks, _, r => by
  rw [map_cons] at r
  cases r with
  | cons h t => exact .cons (rF h) (ph t)
abbrev KT (H : Hp) : List (List Key × V) -> List (List Key × Addr × Value) -> Prop := Paired fun p q => p.1 = q.1 /\ H q.2.1 = some (.tup (p.1.map kV)) /\ RelV p.2 q.2.2
theorem KT.val {H : Hp} {kvs : List (List Key × V)} {xs : List (List Key × Addr × Value)} (r : KT H kvs xs) (k : List Key) : gF (cQ kvs k) ((atKey xs k).map (·.2)) := by
 induction r with
 | nil => exact True.intro
 | @cons p q ps qs h t ih =>
  obtain ⟨h1, _, h2⟩ := h;by_cases e : p.1 = k
  . have e' : q.1 = k := h1.symm.trans e;have b : atKey (q :: qs) k = some q.2 := by simp [atKey, find?_cons, e']
    rw [jN e, b]; exact h2
  . have e' : ¬ q.1 = k := fun z => e (h1.trans z);have b : atKey (q :: qs) k = atKey qs k := by simp [atKey, find?_cons, e']
    rw [mD e, b]; exact ih
theorem KT.Du {H : Hp} {kvs : List (List Key × V)} {xs : List (List Key × Addr × Value)} (r : KT H kvs xs) (k : List Key) {y : V} {u : Value} (ry : RelV y u) :
 KT H (kvs.map fun kv => if kv.1 = k then (kv.1, y) else kv) (xs.map (putAt k u)) := by
 induction r with
 | nil => exact .nil
 | @cons p q ps qs h t ih =>
  rw [map_cons, map_cons];refine .cons ?_ ih;obtain ⟨h1, h2, h3⟩ := h;unfold putAt;by_cases e : p.1 = k
  . rw [if_pos e, if_pos (h1.symm.trans e)]; exact ⟨h1, h2, ry⟩
  . rw [if_neg e, if_neg (fun z => e (h1.trans z))]; exact ⟨h1, h2, h3⟩
theorem KT.put {H : Hp} {kvs : List (List Key × V)} {xs : List (List Key × Addr × Value)} (r : KT H kvs xs) (k : List Key) {b : Addr} {y : V} {u : Value} (hb : H b = some (.tup (k.map kV))) (ry : RelV y u) :
 KT H (putK kvs k y) (storedH xs k b u) := by
 have e : (kvs.any fun kv => decide (kv.1 = k)) = (atKey xs k).isSome := by
  rw [ni, (r.val k).wG, Option.isSome_map]
 unfold putK storedH;rw [e];by_cases q : (atKey xs k).isSome = true
 . rw [if_pos q, if_pos q]; exact r.Du k ry
 . rw [if_neg q, if_neg q]; exact Paired.snoc r ⟨rfl, hb, ry⟩
theorem KT.keeps {H H' : Hp} {kvs : List (List Key × V)} {xs : List (List Key × Addr × Value)} (r : KT H kvs xs) (ht : ∀ b ys, H b = some (.tup ys) -> H' b = some (.tup ys)) : KT H' kvs xs :=
 Paired.Dp r fun _ _ z => ⟨z.1, ht _ _ z.2.1, z.2.2⟩
section
variable {P : Program} {w : World} {H : Hp} {h : Heap} {a : Addr}
theorem CF {u : HO} (ok : jM P w H h) (e : Rd H a u) : bR P w H h a u := e.ok ok
theorem sy {kvs : List (Key × V)} (ok : jM P w H h) (e : Rd H a (.dK kvs)) : kvs.length <= sizeLine /\ (a == sysModules) = false /\ ∃ vs, KV kvs vs /\ h.DictOf (bt P w) a vs :=
 show bR P w H h a (.dK kvs) from CF ok e
theorem sT {kvs : List (Key × V)} (ok : jM P w H h) (e : H a = some (.dK kvs)) : kvs.length <= sizeLine /\ (a == sysModules) = false /\ ∃ vs, KV kvs vs /\ h.DictOf (bt P w) a vs := sy ok (.inl e)
theorem qq {ks : List Key} (ok : jM P w H h) (e : H a = some (.tup (ks.map kV))) : (tupleKind (bt P w)).is h ks a := by
 obtain ⟨_, its, r, o, h1, h2, n, h3⟩ := (show bR P w H h a (.tup (ks.map kV)) from ok a _ e)
 exact ⟨o, its.toArray, n, h1, h2, h3, by simpa using ph r⟩
theorem sN {kvs : List (List Key × V)} (ok : jM P w H h) (e : Rd H a (.dT kvs)) : kvs.length <= sizeLine /\ (a == sysModules) = false /\
 ∃ xs, KT H kvs xs /\ h.DictOfH (tupleKind (bt P w)) a xs := by
 obtain ⟨z, y, xs, r, o, es, ep, h1, h2, h3, h4, h5⟩ := (show bR P w H h a (.dT kvs) from CF ok e)
 refine ⟨z, y, xs, r, o, es, ep, h1, h2, h3, h4, fun x hx => ?_, h5⟩;have all : ∀ {l : List (List Key × V)} {m : List (List Key × Addr × Value)}, KT H l m -> ∀ x ∈ m, (tupleKind (bt P w)).is h x.1 x.2.1 := by
  intro l m q
  induction q with
  | nil => intro x hx; exact nomatch hx
  | @cons p q ps qs hq t ih =>
   intro x hx;rcases mem_cons.mp hx with e | hx
   . subst e;exact qq ok (by rw [<- hq.1]; exact hq.2.1)
   . exact ih x hx
 exact all r x hx
theorem z8 {kvs : List (List Key × V)} (ok : jM P w H h) (e : H a = some (.dT kvs)) : kvs.length <= sizeLine /\ (a == sysModules) = false /\
 ∃ xs, KT H kvs xs /\ h.DictOfH (tupleKind (bt P w)) a xs := sN ok (.inl e)
end
def oi (H : Hp) (a : Addr) (y : V) (r : Option V) : Prop :=
 (∃ kvs k, Rd H a (.dK kvs) /\ y = kV k /\ r = cQ kvs k) \/ ∃ kvs k b, Rd H a (.dT kvs) /\ y = .ref b /\ H b = some (.tup (k.map kV)) /\ r = cQ kvs k
def uH (H : Hp) (a : Addr) (y v : V) (H' : Hp) : Prop :=
 (∃ kvs k, H a = some (.dK kvs) /\ y = kV k /\ kvs.length < sizeLine /\ H' = upd H a (.dK (putK kvs k v))) \/
 ∃ kvs k b, H a = some (.dT kvs) /\ y = .ref b /\ H b = some (.tup (k.map kV)) /\ kvs.length < sizeLine /\ H' = upd H a (.dT (putK kvs k v))
theorem oi.k {H : Hp} {a : Addr} {kvs : List (Key × V)} {k : Key} (e : H a = some (.dK kvs)) : oi H a (kV k) (cQ kvs k) := .inl ⟨kvs, k, .inl e, rfl, rfl⟩
theorem oi.t {H : Hp} {a b : Addr} {kvs : List (List Key × V)} {k : List Key} (e : H a = some (.dT kvs)) (eb : H b = some (.tup (k.map kV))) : oi H a (.ref b) (cQ kvs k) := .inr ⟨kvs, k, b, .inl e, rfl, eb, rfl⟩
theorem uH.k {H : Hp} {a : Addr} {kvs : List (Key × V)} {k : Key} {v : V} (e : H a = some (.dK kvs)) (hl : kvs.length < sizeLine) : uH H a (kV k) v (upd H a (.dK (putK kvs k v))) := .inl ⟨kvs, k, e, rfl, hl, rfl⟩
theorem uH.t {H : Hp} {a b : Addr} {kvs : List (List Key × V)} {k : List Key} {v : V} (e : H a = some (.dT kvs)) (eb : H b = some (.tup (k.map kV))) (hl : kvs.length < sizeLine) :
 uH H a (.ref b) v (upd H a (.dT (putK kvs k v))) := .inr ⟨kvs, k, b, e, rfl, eb, hl, rfl⟩
section
variable {X : Cx} {pins : HI} {σ : St} {H : Hp} {s : Shared} {a : Addr} {y v : V} {u r : Value} {o : Option V} {A : Around} {E : HB}
theorem Inv.big (I : Inv X pins σ H s) : sysModules < s.heap.objs.size := by
 have h : mainGlobals < s.heap.objs.size := (I.mod.glob.keeps I.bk).lt;exact Nat.lt_trans (by decide) h
theorem xk {Q : HB} (hu : A.units + 1 < cLine) (I : Inv X pins σ H s) (g : oi H a y (some v)) (ry : RelV y u) (h : ∀ w' s', Inv X pins σ H s' -> RelV v w' -> Q w' s') :
 wpAny (model X.prog X.w) A (getItem (.ref a) u) Q E s := by
 rcases g with ⟨kvs, k, e, ey, l⟩ | ⟨kvs, k, b, e, ey, eb, l⟩
 . subst ey;obtain ⟨z, hd, vs, rel, dd⟩ := sy I.hok e;obtain ⟨w', hw, rw'⟩ := gF.some_of (v := v) (o := valueAt vs k) (by rw [l]; exact rel.val k);exact wpAny_getItem_of (rF ry) dd.mapOf hw (h w' _ (I.tok _) rw')
 . subst ey;cases (show u = Value.ref b from ry);obtain ⟨z, hd, xs, rel, dd⟩ := sN I.hok e;obtain ⟨w', hw, rw'⟩ := gF.some_of (v := v) (o := (atKey xs k).map (·.2)) (by rw [l]; exact rel.val k);obtain ⟨p, hp, hp2⟩ := Option.map_eq_some_iff.mp hw;refine wpAny_getItem_heap (tupleKind_room_in1 hu) (qq I.hok eb) dd hp ?_;rw [hp2];exact h w' _ (I.tok _) rw'
theorem qF {h' : Heap} {t' : Nat} {ob : HO} (I : Inv X pins σ H s) (mu : Fd (H a)) (hs : Heap.SameBut a s.heap h') (he : ∃ q, h'.get? a = some q) (new : bR X.prog X.w (upd H a ob) h' a ob) :
 Inv X pins σ (upd H a ob) { s with heap := h', toks := t' } :=
 I.write (x := a) (e := a) mu (.inl rfl) (fun b q hb z => (hs.2 b hb).trans z) he new
theorem Ai {P : Program} {w : World} {H' : Hp} {h' : Heap} {kvs : List (Key × V)} {vs : List (Key × Value)} (z : kvs.length <= sizeLine) (hd : (a == sysModules) = false) (rel : KV kvs vs) (dd : h'.DictOf (bt P w) a vs) :
 bR P w H' h' a (.dK kvs) := ⟨z, hd, vs, rel, dd⟩
theorem wZ {H' : Hp} {Q : Unit -> Shared -> Prop} (hu : A.units + 1 < cLine) (I : Inv X pins σ H s) (g : uH H a y v H') (ry : RelV y u) (rv : RelV v r) (h : ∀ s', Inv X pins σ H' s' -> Q () s') :
 wpAny (model X.prog X.w) A (setItem (.ref a) u r) Q E s := by
 rcases g with ⟨kvs, k, e, ey, l, eH⟩ | ⟨kvs, k, b, e, ey, eb, l, eH⟩
 . subst ey eH;obtain ⟨z, hd, vs, rel, dd⟩ := sT I.hok e;have hz : vs.length <= sizeLine := by rw [<- rel.length]; exact z
   have hl : (putK kvs k v).length <= sizeLine := by have := ip kvs k v; omega
   refine wpAny_setItem_pairs (hsz := hz) (rF ry) dd fun h' dd' hs => h _ ?_;have he : ∃ q, h'.get? a = some q := let ⟨q, _, _, hq, _⟩ := dd'; ⟨q, hq⟩;exact qF I (by rw [e]; exact True.intro) hs he (Ai hl hd (rel.put k rv) dd')
 . subst ey eH;cases (show u = Value.ref b from ry);obtain ⟨z, hd, xs, rel, dd⟩ := z8 I.hok e;have hz : xs.length <= sizeLine := by rw [<- Paired.length rel]; exact z
   have hl : (putK kvs k v).length <= sizeLine := by have := ip kvs k v; omega
   refine wpAny_setItem_heap (hsz := hz) (tupleKind_room_in1 hu) (qq I.hok eb) dd fun h' dd' hs => h _ ?_;obtain ⟨q, es, ep, hq, h2, h3, h4, _, h5⟩ := dd';refine qF I (by rw [e]; exact True.intro) hs ⟨q, hq⟩ ⟨hl, hd, _, (rel.put k eb rv).keeps fun c ys ec => ?_, q, es, ep, hq, h2, h3, h4, h5⟩;rw [ae (eF ec e (fun z => nomatch z))];exact ec
end
def CW (i : Expr) : Prop := ∀ ov iv, subscripted i false ov iv = operate [ov, iv] (getItem ov iv)
theorem Bw {prog : Program} {w : World} {A : Around} {E : HB} {s : Shared} {env : Env} {value slice : Expr} {pos : Pos} {T id : String} {Q : HB}
 (hl : typeLookup (.type T) "__getitem__" = pure (some (.builtin id))) (hs : CW slice)
 (h : wpAny (model prog w) A (eval value env) (fun o s₁ => wpAny (model prog w) A (eval slice env) (fun i s₂ => s₂.TypeIs o T /\ wpAny (model prog w) A (getItem o i) Q E s₂) E s₁) E s) :
 wpAny (model prog w) A (eval (.Subscript value slice pos) env) Q E s := by
 refine Subscript_ (wpAny_mono h (fun o s₁ h₁ => wpAny_mono h₁ (fun i s₂ h₂ => ?_) fun _ _ x => x) fun _ _ x => x);obtain ⟨hT, h₂⟩ := h₂;unfold subscriptTail;refine wpAny_bind ?_;rw [getitemInPython_of_ne hT.not_modules];refine wpAny_bind (wpAny_specialOf hT hl ?_);have fin : wpAny (model prog w) A (subscripted slice false o i) (fun r s₃ => wpAny (model prog w) A (letTemporaryGo value o r >>= fun _ => pure r) Q E s₃) E s₂ := by
  rw [hs o i];exact wpAny_operating (wpAny_mono h₂ (fun r s₃ h₃ => wpAny_bind (wpAny_letTemporaryGo (wpAny_pure h₃))) fun _ _ x => x)
 first
  | exact wpAny_pure (wpAny_bind fin)
  | exact wpAny_bind (wpAny_pure (wpAny_bind fin))
  | exact wpAny_bind fin
theorem sC {X : Cx} {pins : HI} {σ : St} {H : Hp} {s : Shared} {a : Addr} {y : V} {o : Option V} (I : Inv X pins σ H s) (g : oi H a y o) : s.TypeIs (.ref a) "dict" := by
 rcases g with ⟨kvs, k, e, _, _⟩ | ⟨kvs, k, b, e, _, _, _⟩
 . obtain ⟨_, _, vs, _, dd⟩ := sy I.hok e;exact dd.typeIs
 . obtain ⟨_, _, xs, _, dd⟩ := sN I.hok e;exact dd.typeIs
def Fj (td ty : TE) : TE := fun σ H Q => td σ H fun x H1 => ty σ H1 fun y H2 => ∃ a v, x = .ref a /\ oi H2 a y (some v) /\ Q v H2
def Fc (td ty tv : TE) : TS := fun D σ H => tv σ H fun v H1 => td σ H1 fun x H2 => ty σ H2 fun y H3 => ∃ a H4, x = .ref a /\ uH H3 a y v H4 /\ D.nx σ H4
section
variable {X : Cx} {o i e value : Expr} {pos pos' tpos : Pos} {td ty tv : TE}
theorem BW (hu : X.A.units + 1 < cLine) (ho : PE X o td) (hi : PE X i ty) (hs : CW i) : PE X (.Subscript o i pos) (Fj td ty) := by
 intro pins s σ H Q I h;refine Bw PySem.F.slot_dict_getitem.lookup hs (cy (ho pins s σ H _ I h) fun u s1 ⟨x, H1, I1, rx, q1⟩ => cy (hi pins s1 σ H1 _ I1 q1) fun iv s2 ⟨y, H2, I2, ry, a, v, ex, g, q2⟩ => ?_);subst ex;obtain rfl : u = Value.ref a := rx;exact ⟨sC I2 g, xk hu I2 g ry fun w' s3 I3 rw' => ⟨v, H2, I3, rw', q2⟩⟩
theorem Ci (hu : X.A.units + 1 < cLine) (ho : PE X o td) (hi : PE X i ty) (hv : PE X value tv) (hs : swapsWith value (some (.Subscript o i pos')) pos.line X.env = pure false) :
 PS X (.Assign [.Subscript o i pos'] value pos) (Fc td ty tv) := by
 intro pins s σ H D I h;refine wpAny_Assign_Subscript (cy (hv pins s σ H _ I h) fun r s1 ⟨v, H1, I1, rv, q1⟩ => cy (ho pins s1 σ H1 _ I1 q1) fun u s2 ⟨x, H2, I2, rx, q2⟩ => cy (hi pins s2 σ H2 _ I2 q2) fun iv s3 ⟨y, H3, I3, ry, a, H4, ex, g, q3⟩ => ?_) hs;subst ex;obtain rfl : u = Value.ref a := rx;exact wZ hu I3 g ry rv fun s4 I4 => ⟨σ, H4, I4, q3⟩
end
theorem yf {P : Program} {w : World} {H : Hp} (h : Heap) (hb : sysModules < h.objs.size) : bR P w H (h.push { cls := .type "dict", data := .dict #[] }) h.objs.size (.dK []) :=
 ⟨Nat.zero_le _, beq_eq_false_iff_ne.mpr (Ne.symm (Nat.ne_of_lt hb)), [], .nil, Heap.DictOf.new h⟩
theorem yC {P : Program} {w : World} {H : Hp} (h : Heap) (hb : sysModules < h.objs.size) : bR P w H (h.push { cls := .type "dict", data := .dict #[] }) h.objs.size (.dT []) :=
 ⟨Nat.zero_le _, beq_eq_false_iff_ne.mpr (Ne.symm (Nat.ne_of_lt hb)), [], .nil, _, #[], 0, get?_push_size _ rfl, ⟨rfl, rfl, rfl⟩, rfl, rfl, List.nodup_nil⟩
def DU : TE := fun _ H Q => ∀ p, H p = none -> Q (.ref p) (upd H p (.dK []))
def En : TE := fun _ H Q => ∀ p, H p = none -> Q (.ref p) (upd H p (.dT []))
section
variable {X : Cx} {pos : Pos}
theorem ze : PE X (.Dict [] [] pos) DU := fun pins s σ H Q I h =>
 wpAny_Dict_empty ⟨.ref s.heap.objs.size, _, I.laid (a := s.heap.objs.size) (o := .dK []) (t' := s.toks) (fun _ _ q => get?_push_of_some _ q) (Nat.le_refl _) (yf s.heap I.big), rfl, h _ (I.hok.fresh (Nat.le_refl _))⟩
theorem zu : PE X (.Dict [] [] pos) En := fun pins s σ H Q I h =>
 wpAny_Dict_empty ⟨.ref s.heap.objs.size, _, I.laid (a := s.heap.objs.size) (o := .dT []) (t' := s.toks) (fun _ _ q => get?_push_of_some _ q) (Nat.le_refl _) (yC s.heap I.big), rfl, h _ (I.hok.fresh (Nat.le_refl _))⟩
end
structure M2 (X : Cx) (o : Expr) (m : Str) (apos : Pos) (e f : Expr) (cpos : Pos) : Prop where
 base : attributeBase o m X.env (eval o X.env) = eval o X.env
 few : ((backTo cpos (starEach [e, f] X.env)).all (fun x => !x.1) && (backToKw cpos (keywordEach [] X.env)).all (fun x => x.1.isSome)
  && decide (([e, f] : List Expr).length + ([] : List Keyword).length + (if ([] : List Keyword).isEmpty then 0 else 1) < 30)) = true
 line : (apos.endLine == cpos.line) = true
 trees : backTo cpos (starEach [e, f] X.env) = [(false, eval e X.env), (false, eval f X.env)]
def G4 (H : Hp) (a : Addr) : Prop := (∃ kvs, Rd H a (.dK kvs)) \/ ∃ kvs, Rd H a (.dT kvs)
theorem Eg {X : Cx} {pins : HI} {σ : St} {H : Hp} {s : Shared} {a : Addr} (I : Inv X pins σ H s) (d : G4 H a) :
 s.TypeIs (.ref a) "dict" /\ (∀ b, Value.ref a = .ref b -> ∃ ob, s.heap.get? b = some ob /\ ob.dict = none) /\ (a == sysModules) = false := by
 rcases d with ⟨kvs, e⟩ | ⟨kvs, e⟩
 . obtain ⟨_, hd, vs, _, dd⟩ := sy I.hok e;refine ⟨dd.typeIs, fun b q => ?_, hd⟩;cases q;obtain ⟨ob, _, _, h1, h2, _⟩ := dd;exact ⟨ob, h1, h2.2.1⟩
 . obtain ⟨_, hd, xs, _, dd⟩ := sN I.hok e;refine ⟨dd.typeIs, fun b q => ?_, hd⟩;cases q;obtain ⟨ob, _, _, h1, h2, _⟩ := dd;exact ⟨ob, h1, h2.2.1⟩
section
variable {X : Cx} {pins : HI} {σ : St} {H : Hp} {s : Shared} {a : Addr} {y d : V} {u r : Value} {o : Option V} {A : Around} {E : HB}
theorem DX {Q : HB} (hu : A.units + 1 < cLine) (I : Inv X pins σ H s) (g : oi H a y o) (ry : RelV y u) (rd : RelV d r) (h : ∀ w' s', Inv X pins σ H s' -> RelV (o.getD d) w' -> Q w' s') :
 wpAny (model X.prog X.w) A (call (.builtin "dict.get") [.ref a, u, r]) Q E s := by
 rcases g with ⟨kvs, k, e, ey, l⟩ | ⟨kvs, k, b, e, ey, eb, l⟩
 . subst ey;obtain ⟨z, hd, vs, rel, dd⟩ := sy I.hok e;refine call_meetsIn PySem.F.slot_dict_get dd.typeIs PySem.F.entry_dict_get (PySem.F.args_dict_get_3 _ _ _) (meets_dict_get_default (bt X.prog X.w) a (rF ry) hd r) ⟨_, dd.mapOf, h _ _ (I.tok _) ?_⟩;rw [l];exact (rel.val k).getD rd
 . subst ey;cases (show u = Value.ref b from ry);obtain ⟨z, hd, xs, rel, dd⟩ := sN I.hok e;refine call_meetsIn PySem.F.slot_dict_get dd.typeIs PySem.F.entry_dict_get (PySem.F.args_dict_get_3 _ _ _) (meetsH_dict_get_default (tupleKind (bt X.prog X.w)) a b hd r) ⟨tupleKind_room_in1 hu, k, xs, qq I.hok eb, dd, h _ _ (I.tok _) ?_⟩;rw [l];exact (rel.val k).getD rd
end
def Er (td ty tx : TE) : TE := fun σ H Q => td σ H fun x H1 => ∃ a, x = .ref a /\ G4 H1 a /\ ty σ H1 fun y H2 => tx σ H2 fun z H3 => ∃ o, oi H3 a y o /\ Q (o.getD z) H3
section
variable {X : Cx} {o e f : Expr} {apos cpos : Pos} {td ty tx : TE}
theorem Ae (hu : X.A.units + 1 < cLine) (ho : PE X o td) (he : PE X e ty) (hf : PE X f tx) (m : M2 X o "get" apos e f cpos) : PE X (.Call (.Attribute o "get" apos) [e, f] [] cpos) (Er td ty tx) := by
 intro pins s σ H Q I h;refine wpAny_Call_method m.base m.few m.line PySem.F.plainAttrs_dict PySem.F.slot_dict_get PySem.F.type_dict_get (cy (ho pins s σ H _ I h) fun u s1 ⟨x, H1, I1, rx, a, ex, d, q1⟩ => ?_);subst ex;obtain rfl : u = Value.ref a := rx;obtain ⟨t1, t2, _⟩ := Eg I1 d;refine ⟨t1, t2, ?_⟩;rw [m.trees];refine Calls.callWith_builtin rfl (Calls.evalArgs_plain (Calls.spliced_cons (cy (he pins s1 σ H1 _ I1 q1) fun iv s2 ⟨y, H2, I2, ry, q2⟩ =>
  Calls.spliced_cons (cy (hf pins s2 σ H2 _ I2 q2) fun fv s3 ⟨z, H3, I3, rz, ov, g, q3⟩ => Calls.spliced_nil ?_))))
 exact DX hu I3 g ry rz fun w' s4 I4 rw' => ⟨_, H3, I4, rw', q3⟩
end
end L2
namespace Att
open PySem PySem.W PySem.Calls PyProof.Rows
end Att
namespace L2
open PySem PySem.Spec PyProof.Rows
end L2
namespace Y.DEq
open PySem PySem.SeqAt PySem.MeetsSeq PySem.AutoSeq1
abbrev x9 (dd : HH) (es : Array DictEntry) (n : Nat) (sl : HD) : Obj := ⟨.type "dict", dd, .dict es n, sl⟩
abbrev FX (T : String) (dd : HH) (xs : HG) (n : Nat) (sl : HD) : Obj := ⟨.type T, dd, .seq xs n, sl⟩
section
variable (l b : Addr) (es : Array DictEntry) (xs : HG) (n m : Nat) (dd de : HH) (sl sm : HD) (q : Bool) (i : Int) (z : Str) (t : Tok)
theorem wY : Meets (Builtin.«dict.__eq__» ⟨[.ref l, .none], []⟩) (fun _ R s => s.heap.get? l = some (x9 dd es n sl) /\ R (.ok (.ret .notImplemented)) s) :=
 .of_wp fun prog w A R s h => by
  obtain ⟨hp, g, d, tk, os⟩ := s;obtain ⟨hl, h⟩ := h;have f1 := F.sub_NoneType_dict;wp_walk using wpAny_loadPart' hl;exact ⟨_, rfl, h⟩
theorem dict_bool : Meets (Builtin.«dict.__eq__» ⟨[.ref l, .bool q], []⟩) (fun _ R s => s.heap.get? l = some (x9 dd es n sl) /\ R (.ok (.ret .notImplemented)) s) :=
 .of_wp fun prog w A R s h => by
  obtain ⟨hp, g, d, tk, os⟩ := s;obtain ⟨hl, h⟩ := h;have f1 := F.sub_bool_dict;wp_walk using wpAny_loadPart' hl;exact ⟨_, rfl, h⟩
theorem dict_int : Meets (Builtin.«dict.__eq__» ⟨[.ref l, .int i t], []⟩) (fun _ R s => s.heap.get? l = some (x9 dd es n sl) /\ R (.ok (.ret .notImplemented)) s) :=
 .of_wp fun prog w A R s h => by
  obtain ⟨hp, g, d, tk, os⟩ := s;obtain ⟨hl, h⟩ := h;have f1 := F.sub_int_dict;wp_walk using wpAny_loadPart' hl;exact ⟨_, rfl, h⟩
theorem dict_str : Meets (Builtin.«dict.__eq__» ⟨[.ref l, .str z t], []⟩) (fun _ R s => s.heap.get? l = some (x9 dd es n sl) /\ R (.ok (.ret .notImplemented)) s) :=
 .of_wp fun prog w A R s h => by
  obtain ⟨hp, g, d, tk, os⟩ := s;obtain ⟨hl, h⟩ := h;have f1 := F.sub_str_dict;wp_walk using wpAny_loadPart' hl;exact ⟨_, rfl, h⟩
theorem dict_list : Meets (Builtin.«dict.__eq__» ⟨[.ref l, .ref b], []⟩) (fun _ R s => s.heap.get? l = some (x9 dd es n sl) /\ s.heap.get? b = some (FX "list" de xs m sm) /\ R (.ok (.ret .notImplemented)) s) :=
 .of_wp fun prog w A R s h => by
  obtain ⟨hp, g, d, tk, os⟩ := s;obtain ⟨hl, hb, h⟩ := h;have f1 := F.sub_list_dict;wp_walk using wpAny_loadPart' hl, wpAny_loadPart' hb;exact ⟨_, rfl, h⟩
theorem list_dict : Meets (Builtin.«list.__eq__» ⟨[.ref b, .ref l], []⟩) (fun _ R s => s.heap.get? l = some (x9 dd es n sl) /\ s.heap.get? b = some (FX "list" de xs m sm) /\ R (.ok (.ret .notImplemented)) s) :=
 .of_wp fun prog w A R s h => by
  obtain ⟨hp, g, d, tk, os⟩ := s;obtain ⟨hl, hb, h⟩ := h;have f1 := F.sub_dict_list;wp_walk using wpAny_loadPart' hl, wpAny_loadPart' hb;exact ⟨_, rfl, h⟩
theorem dict_tuple : Meets (Builtin.«dict.__eq__» ⟨[.ref l, .ref b], []⟩) (fun _ R s => s.heap.get? l = some (x9 dd es n sl) /\ s.heap.get? b = some (FX "tuple" de xs m sm) /\ R (.ok (.ret .notImplemented)) s) :=
 .of_wp fun prog w A R s h => by
  obtain ⟨hp, g, d, tk, os⟩ := s;obtain ⟨hl, hb, h⟩ := h;have f1 := F.sub_tuple_dict;wp_walk using wpAny_loadPart' hl, wpAny_loadPart' hb;exact ⟨_, rfl, h⟩
theorem tuple_dict : Meets (Builtin.«tuple.__eq__» ⟨[.ref b, .ref l], []⟩) (fun _ R s => s.heap.get? l = some (x9 dd es n sl) /\ s.heap.get? b = some (FX "tuple" de xs m sm) /\ R (.ok (.ret .notImplemented)) s) :=
 .of_wp fun prog w A R s h => by
  obtain ⟨hp, g, d, tk, os⟩ := s;obtain ⟨hl, hb, h⟩ := h;have f1 := F.sub_dict_tuple;wp_walk using wpAny_loadPart' hl, wpAny_loadPart' hb;exact ⟨_, rfl, h⟩
theorem bool_dict : Meets (Builtin.«int.__eq__» ⟨[.bool q, .ref l], []⟩) (fun _ R s => s.heap.get? l = some (x9 dd es n sl) /\ R (.ok (.ret .notImplemented)) s) :=
 .of_wp fun prog w A R s h => by
  obtain ⟨hp, g, d, tk, os⟩ := s;obtain ⟨hl, h⟩ := h;wp_walk using wpAny_loadPart' hl, wpAny_load hl;exact ⟨_, rfl, h⟩
theorem int_dict : Meets (Builtin.«int.__eq__» ⟨[.int i t, .ref l], []⟩) (fun _ R s => s.heap.get? l = some (x9 dd es n sl) /\ R (.ok (.ret .notImplemented)) s) :=
 .of_wp fun prog w A R s h => by
  obtain ⟨hp, g, d, tk, os⟩ := s;obtain ⟨hl, h⟩ := h;wp_walk using wpAny_loadPart' hl, wpAny_load hl;exact ⟨_, rfl, h⟩
theorem str_dict : Meets (Builtin.«str.__eq__» ⟨[.str z t, .ref l], []⟩) (fun _ R s => s.heap.get? l = some (x9 dd es n sl) /\ R (.ok (.ret .notImplemented)) s) :=
 .of_wp fun prog w A R s h => by
  obtain ⟨hp, g, d, tk, os⟩ := s;obtain ⟨hl, h⟩ := h;wp_walk using wpAny_loadPart' hl, wpAny_load hl;exact ⟨_, rfl, h⟩
end
def fh (h : Heap) (a : Addr) : Prop := ∃ dd es n sl, h.get? a = some (x9 dd es n sl)
section
variable {A : Around} {s : Shared} {l b : Addr}
theorem AW  (hl : fh s.heap l) (hu : A.units < cLine) : RcAt A s (.none) (.ref l) false := fun prog w E Q h => by
 obtain ⟨dd, es, n, sl, ho⟩ := hl;refine rc_eq_decline_or (k := false) (Ta := "NoneType") (rfl) ⟨_, ho, rfl⟩ (by decide) F.sub_dict_NoneType F.slot_NoneType_eq F.slot_dict_eq_refl (fun _ hq => ?_) (fun _ hq => ?_) (fun _ hq => wpAny_of_eq (rfl : isSame (.none) (.ref l) = pure false) hq) (.inr hu) h
 . exact call_gives F.slot_NoneType_eq rfl F.entry_NoneType_eq (F.args_NoneType_eq_2 _ _) (NoneType___eq___none_ref_0 l) hq
 . exact call_meets F.slot_dict_eq_refl ⟨_, ho, rfl⟩ F.entry_dict_eq (F.args_dict_eq_2 _ _) (wY l es n dd sl) ⟨ho, hq⟩
theorem Bd  (hl : fh s.heap l) (hu : A.units < cLine) : EqAt A s (.none) (.ref l) false := fun prog w E Q h => by
 unfold eqBool;refine wpAny_holding (wpAny_ite_split (fun hab => absurd (eq_of_beq hab) nofun) fun _ => ?_);exact wpAny_bind (AW  hl hu prog w E _ (wpAny_truthy_bool h))
theorem B1 (q : Bool) (hl : fh s.heap l) (hu : A.units < cLine) : RcAt A s (.bool q) (.ref l) false := fun prog w E Q h => by
 obtain ⟨dd, es, n, sl, ho⟩ := hl;refine rc_eq_decline_or (k := false) (Ta := "bool") (rfl) ⟨_, ho, rfl⟩ (by decide) F.sub_dict_bool F.slot_bool_eq F.slot_dict_eq_refl (fun _ hq => ?_) (fun _ hq => ?_) (fun _ hq => wpAny_of_eq (rfl : isSame (.bool q) (.ref l) = pure false) hq) (.inr hu) h
 . exact call_meets F.slot_bool_eq rfl F.entry_int_eq (F.args_int_eq_2 _ _) (bool_dict l es n dd sl q) ⟨ho, hq⟩
 . exact call_meets F.slot_dict_eq_refl ⟨_, ho, rfl⟩ F.entry_dict_eq (F.args_dict_eq_2 _ _) (dict_bool l es n dd sl q) ⟨ho, hq⟩
theorem Cg (q : Bool) (hl : fh s.heap l) (hu : A.units < cLine) : EqAt A s (.bool q) (.ref l) false := fun prog w E Q h => by
 unfold eqBool;refine wpAny_holding (wpAny_ite_split (fun hab => absurd (eq_of_beq hab) nofun) fun _ => ?_);exact wpAny_bind (B1 q hl hu prog w E _ (wpAny_truthy_bool h))
theorem Dx (i : Int) (t : Tok) (hl : fh s.heap l) (hu : A.units < cLine) : RcAt A s (.int i t) (.ref l) false := fun prog w E Q h => by
 obtain ⟨dd, es, n, sl, ho⟩ := hl;refine rc_eq_decline_or (k := false) (Ta := "int") (typeIs_int s i t) ⟨_, ho, rfl⟩ (by decide) F.sub_dict_int F.slot_int_eq F.slot_dict_eq_refl (fun _ hq => ?_) (fun _ hq => ?_) (fun _ hq => wpAny_of_eq (rfl : isSame (.int i t) (.ref l) = pure false) hq) (.inr hu) h
 . exact call_meets F.slot_int_eq (typeIs_int s i t) F.entry_int_eq (F.args_int_eq_2 _ _) (int_dict l es n dd sl i t) ⟨ho, hq⟩
 . exact call_meets F.slot_dict_eq_refl ⟨_, ho, rfl⟩ F.entry_dict_eq (F.args_dict_eq_2 _ _) (dict_int l es n dd sl i t) ⟨ho, hq⟩
theorem Dc (i : Int) (t : Tok) (hl : fh s.heap l) (hu : A.units < cLine) : EqAt A s (.int i t) (.ref l) false := fun prog w E Q h => by
 unfold eqBool;refine wpAny_holding (wpAny_ite_split (fun hab => absurd (eq_of_beq hab) nofun) fun _ => ?_);exact wpAny_bind (Dx i t hl hu prog w E _ (wpAny_truthy_bool h))
theorem Di (z : Str) (t : Tok) (hl : fh s.heap l) (hu : A.units < cLine) : RcAt A s (.str z t) (.ref l) false := fun prog w E Q h => by
 obtain ⟨dd, es, n, sl, ho⟩ := hl;refine rc_eq_decline_or (k := false) (Ta := "str") (typeIs_str s z t) ⟨_, ho, rfl⟩ (by decide) F.sub_dict_str F.slot_str_eq F.slot_dict_eq_refl (fun _ hq => ?_) (fun _ hq => ?_) (fun _ hq => wpAny_of_eq (rfl : isSame (.str z t) (.ref l) = pure false) hq) (.inr hu) h
 . exact call_meets F.slot_str_eq (typeIs_str s z t) F.entry_str_eq (F.args_str_eq_2 _ _) (str_dict l es n dd sl z t) ⟨ho, hq⟩
 . exact call_meets F.slot_dict_eq_refl ⟨_, ho, rfl⟩ F.entry_dict_eq (F.args_dict_eq_2 _ _) (dict_str l es n dd sl z t) ⟨ho, hq⟩
theorem De (z : Str) (t : Tok) (hl : fh s.heap l) (hu : A.units < cLine) : EqAt A s (.str z t) (.ref l) false := fun prog w E Q h => by
 unfold eqBool;refine wpAny_holding (wpAny_ite_split (fun hab => absurd (eq_of_beq hab) nofun) fun _ => ?_);exact wpAny_bind (Di z t hl hu prog w E _ (wpAny_truthy_bool h))
theorem vJ {xs : HG} (hb : s.heap.IsList b xs) (hl : fh s.heap l) : b ≠ l := fun e => by
 subst e;obtain ⟨o, ho, hc, _⟩ := hb;obtain ⟨dd, es, n, sl, ho2⟩ := hl;rw [ho] at ho2;cases ho2;exact absurd hc (by simp)
theorem BN {xs : HG} (hb : s.heap.IsList b xs) (hl : fh s.heap l) (hu : A.units < cLine) : RcAt A s (.ref b) (.ref l) false := fun prog w E Q h => by
 have hne := vJ hb hl;obtain ⟨dd, es, n, sl, ho⟩ := hl;obtain ⟨⟨cls, de, data, sm⟩, hb1, hc, m, hd⟩ := id hb;simp only at hc hd;subst hc hd;refine rc_eq_decline_or (k := false) (Ta := "list") ⟨_, hb1, rfl⟩ ⟨_, ho, rfl⟩ (by decide) F.sub_dict_list F.slot_list_eq F.slot_dict_eq_refl (fun _ hq => ?_) (fun _ hq => ?_) (fun _ hq => wpAny_isSame_ref_other hne hb1 ho (by simp) hq) (.inr hu) h
 . exact call_meets F.slot_list_eq ⟨_, hb1, rfl⟩ F.entry_list_eq (F.args_list_eq_2 _ _) (list_dict l b es xs n m dd de sl sm) ⟨ho, hb1, hq⟩
 . exact call_meets F.slot_dict_eq_refl ⟨_, ho, rfl⟩ F.entry_dict_eq (F.args_dict_eq_2 _ _) (dict_list l b es xs n m dd de sl sm) ⟨ho, hb1, hq⟩
theorem A7 {xs : HG} (hb : s.heap.IsList b xs) (hl : fh s.heap l) (hu : A.units < cLine) : EqAt A s (.ref b) (.ref l) false := .of_refs (vJ hb hl) (BN hb hl hu)
theorem rl {xs : HG} (hb : s.heap.IsTuple b xs) (hl : fh s.heap l) : b ≠ l := fun e => by
 subst e;obtain ⟨o, ho, hc, _⟩ := hb;obtain ⟨dd, es, n, sl, ho2⟩ := hl;rw [ho] at ho2;cases ho2;exact absurd hc (by simp)
theorem y9 {xs : HG} (hb : s.heap.IsTuple b xs) (hl : fh s.heap l) (hu : A.units < cLine) : RcAt A s (.ref b) (.ref l) false := fun prog w E Q h => by
 have hne := rl hb hl;obtain ⟨dd, es, n, sl, ho⟩ := hl;obtain ⟨⟨cls, de, data, sm⟩, hb1, hc, m, hd⟩ := id hb;simp only at hc hd;subst hc hd;refine rc_eq_decline_or (k := false) (Ta := "tuple") ⟨_, hb1, rfl⟩ ⟨_, ho, rfl⟩ (by decide) F.sub_dict_tuple F.slot_tuple_eq F.slot_dict_eq_refl (fun _ hq => ?_) (fun _ hq => ?_) (fun _ hq => wpAny_isSame_ref_other' hne hb1 ho (by simp) hq) (.inr hu) h
 . exact call_meets F.slot_tuple_eq ⟨_, hb1, rfl⟩ F.entry_tuple_eq (F.args_tuple_eq_2 _ _) (tuple_dict l b es xs n m dd de sl sm) ⟨ho, hb1, hq⟩
 . exact call_meets F.slot_dict_eq_refl ⟨_, ho, rfl⟩ F.entry_dict_eq (F.args_dict_eq_2 _ _) (dict_tuple l b es xs n m dd de sl sm) ⟨ho, hb1, hq⟩
theorem sj {xs : HG} (hb : s.heap.IsTuple b xs) (hl : fh s.heap l) (hu : A.units < cLine) : EqAt A s (.ref b) (.ref l) false := .of_refs (rl hb hl) (y9 hb hl hu)
end
end Y.DEq
set_option autoImplicit false
set_option maxHeartbeats 4000000
namespace Y
open PySem PySem.Spec PyProof.Rows L2
theorem bo {α : Sort _} {B C D : α → Prop} {R : Prop} (h : ∃ a, B a /\ C a /\ D a) (f : ∀ a, B a → C a → D a → R) : R := by
 obtain ⟨a, b, c, d⟩ := h;exact f a b c d
theorem fF {α β γ : Sort _} {B C D : α → β → γ → Prop} {R : Prop} (h : ∃ a b c, B a b c /\ C a b c /\ D a b c) (f : ∀ a b c, B a b c → C a b c → D a b c → R) : R := by
 obtain ⟨a, b, c, x, y, z⟩ := h;exact f a b c x y z
abbrev St := L2.St
class cq where
 T : List (Addr × Str)
variable [cq]
def xI : HO -> Bool
 | .tbl _ => true
 | _ => false
def om (c : Addr) (q : Str) : HO := .ext fun h => h.CodeRec (.ref c) q
def TabsOk (H : Hp) : Prop := ∀ P ∈ cq.T, ∃ ps, H P.1 = some (.tbl ps) /\ TriplesOk ps.toList /\ ∀ pos cv, codeAmong pos ps.toList = some cv -> ∃ c, cv = .ref c /\ H c = some (om c P.2)
structure au (H H' : Hp) : Prop where
 get : ∀ b o, H b = some o -> xI o = false -> H' b = some o
 tbl : ∀ b ps, H b = some (.tbl ps) -> ∃ ps', H' b = some (.tbl ps')
 tabs : TabsOk H -> TabsOk H'
theorem au.at {H H' : Hp} (s : au H H') {b : Addr} {o : HO} (h : H b = some o) (n : xI o = false := by rfl) : H' b = some o := s.get b o h n
theorem au.refl (H : Hp) : au H H := ⟨fun _ _ h _ => h, fun _ ps h => ⟨ps, h⟩, fun t => t⟩
theorem au.trans {H H1 H2 : Hp} (a : au H H1) (b : au H1 H2) : au H H2 :=
 ⟨fun c o h n => b.get c o (a.get c o h n) n, fun c ps h => let ⟨ps', e⟩ := a.tbl c ps h; b.tbl c ps' e, fun t => b.tabs (a.tabs t)⟩
theorem au.free {H H' : Hp} (e : au H H') {l : Addr} (h : H' l = Option.none) : H l = Option.none := by
 cases q : H l with
 | none => rfl
 | some o =>
  cases n : xI o with
  | false => rw [e.get l o q n] at h; cases h
  | true =>
   cases o with
   | tbl ps => obtain ⟨ps', z⟩ := e.tbl l ps q; rw [z] at h; cases h
   | _ => cases n
theorem au.seq {K : Frag} {H H' : Hp} {a : Addr} {xs : List V} (e : au H H') (h : dZ K H a xs) : dZ K H' a xs := by
 rcases h with (h | ⟨o, h⟩) | h
 . exact .inl (.inl (e.at h))
 . exact .inl (.inr ⟨o, e.at h⟩)
 . exact .inr h
inductive DO where
 | k (kvs : List (Key × V))
 | t (kvs : List (List Key × V))
def DO.ho : DO -> HO
 | .k kvs => .dK kvs
 | .t kvs => .dT kvs
inductive MO where
 | l (xs : List V)
 | d (o : DO)
 | i (C dx : Addr) (fs : List (Str × V))
def MO.ho : MO -> HO
 | .l xs => .lst xs
 | .d o => o.ho
 | .i C dx fs => .ins C dx fs
theorem MO.nt (o : MO) : xI o.ho = false := by
 rcases o with xs | (kvs | kvs) | _ <;> rfl
theorem DO.nt (o : DO) : xI o.ho = false := MO.nt (.d o)
theorem DO.inj {o o' : DO} (h : o.ho = o'.ho) : o = o' := by
 cases o <;> cases o' <;> cases h <;> rfl
theorem MO.wt (o : MO) {xs : List V} (h : o.ho = .tup xs) : False := by
 rcases o with xs | (kvs | kvs) | _ <;> cases h
theorem MO.E3 (o : MO) {b : Obj} {u : HO} (h : o.ho = .frz b u) : False := by
 rcases o with xs | (kvs | kvs) | _ <;> cases h
theorem TabsOk.upd {H : Hp} {p : Addr} {o : HO} (h : H p = none \/ ∃ xs : MO, H p = some xs.ho) (t : TabsOk H) : TabsOk (upd H p o) := fun P hP => by
 obtain ⟨ps, e, tr, k⟩ := t P hP;have ne : ∀ {b : Addr} {u : HO}, H b = some u -> (∀ xs : MO, u ≠ xs.ho) -> b ≠ p := fun {b u} q n z => by
  rcases h with h | ⟨xs, h⟩
  . rw [z, h] at q; cases q
  . rw [z, h] at q; exact n xs (Option.some.inj q).symm
 refine ⟨ps, by rw [ae (ne e (by intro xs z; rcases xs with xs | (kvs | kvs) | _ <;> cases z))]; exact e, tr, fun pos cv q => ?_⟩;obtain ⟨c, rfl, hc⟩ := k pos cv q;exact ⟨c, rfl, by rw [ae (ne hc (by intro xs z; rcases xs with xs | (kvs | kvs) | _ <;> cases z))]; exact hc⟩
theorem au.ju {H H' : Hp} {l : Addr} {xs : MO} {o : HO} (s : au H H') (h : H l = none) (h' : H' l = some xs.ho) : au H (upd H' l o) :=
 ⟨fun b u e n => by rw [ae (aw e h)]; exact s.get b u e n, fun b ps e => by rw [ae (aw e h)]; exact s.tbl b ps e, fun t => (s.tabs t).upd (.inr ⟨xs, h'⟩)⟩
theorem au.write {H H' : Hp} {l : Addr} {xs : List V} {o : HO} (s : au H H') (h : H l = none) (h' : H' l = some (.lst xs)) : au H (upd H' l o) := s.ju (xs := .l xs) h h'
inductive Sh where
 | k (ks : List Key)
 | t (ks : List (List Key))
 | o (C : Addr) (fs : HL)
def Sh.at (H : Hp) (a : Addr) (xs : List V) : Sh -> Prop
 | .k ks => ks.length = xs.length /\ H a = some (.dK (ks.zip xs))
 | .t ks => ks.length = xs.length /\ H a = some (.dT (ks.zip xs))
 | .o C fs => fs.length = xs.length /\ ∃ dx, H a = some (.ins C dx (fs.zip xs))
theorem Sh.mo {H : Hp} {a : Addr} {xs : List V} {s : Sh} (h : s.at H a xs) : ∃ m : MO, H a = some m.ho /\ ∀ H' : Hp, H' a = some m.ho -> s.at H' a xs := by
 cases s with
 | k ks => exact ⟨.d (.k _), h.2, fun H' e => ⟨h.1, e⟩⟩
 | t ks => exact ⟨.d (.t _), h.2, fun H' e => ⟨h.1, e⟩⟩
 | o C fs =>
  obtain ⟨h1, dx, h2⟩ := h;exact ⟨.i C dx _, h2, fun H' e => ⟨h1, dx, e⟩⟩
inductive D where
 | non
 | bl (b : Bool)
 | int (i : Int)
 | str (x : Str)
 | lst (ds : List D)
 | tup (ds : List D)
 | dct (o : DO)
 | ktup (ks : List Key)
 | agg (s : Sh) (ds : List D)
def kD : Key -> D
 | .inl i => .int i
 | .inr x => .str x
structure aE where
 m : Bool
 S : Addr -> Prop
def RO (K : Frag) (H : Hp) (a : Addr) (xs : List V) : Prop :=
 (∃ o, H a = some (.frz o (.lst xs))) \/
  ∃ (o : Obj) (its : HG) (n : Nat), K.lookup a = some o /\ o.cls = .type "list" /\ o.dict = none /\ o.data = .seq its n /\ its.size <= sizeLine /\ Vals xs its.toList
def LstAt (K : Frag) (H : Hp) (Z : aE) (a : Addr) (xs : List V) : Prop := (H a = some (.lst xs) /\ Z.S a) \/ (Z.m = false /\ RO K H a xs)
theorem LstAt.sq {K : Frag} {H : Hp} {Z : aE} {a : Addr} {xs : List V} (h : LstAt K H Z a xs) : dZ K H a xs := by
 rcases h with ⟨h, _⟩ | ⟨_, h | h⟩
 . exact .inl (.inl h)
 . exact .inl (.inr h)
 . exact .inr h
def wj (K : Frag) (a : Addr) (ks : List Key) : Prop := ∃ (o : Obj) (its : HG) (n : Nat), K.lookup a = some o /\ o.cls = .type "tuple" /\ o.data = .seq its n /\ its.size <= sizeLine /\ Vals (ks.map kV) its.toList
mutual
def In (K : Frag) (H : Hp) (Z : aE) : D -> V -> Prop
 | .non, v => v = .non
 | .bl b, v => v = .bl b
 | .int i, v => v = .int i
 | .str x, v => v = .str x
 | .lst ds, v => ∃ a xs, v = .ref a /\ LstAt K H Z a xs /\ aH K H Z ds xs
 | .tup ds, v => ∃ a xs, v = .ref a /\ H a = some (.tup xs) /\ aH K H Z ds xs
 | .dct o, v => ∃ a, v = .ref a /\ H a = some o.ho /\ Z.S a
 | .ktup ks, v => ∃ a, v = .ref a /\ wj K a ks
 | .agg _ _, _ => False
def aH (K : Frag) (H : Hp) (Z : aE) : List D -> List V -> Prop
 | [], xs => xs = []
 | d :: ds, xs => ∃ v vs, xs = v :: vs /\ In K H Z d v /\ aH K H Z ds vs
end
structure Carry (K : Frag) (H : Hp) (Z : aE) (H' : Hp) (Z' : aE) : Prop where
 l : ∀ a (xs : MO), H a = some xs.ho -> Z.S a -> H' a = some xs.ho /\ Z'.S a
 r : Z.m = false -> Z'.m = false /\ ∀ a xs, RO K H a xs -> RO K H' a xs
 t : ∀ a (xs : List V), H a = some (.tup xs) -> H' a = some (.tup xs)
section
variable {K : Frag} {H H' H2 : Hp} {Z Z' Z2 : aE}
theorem LstAt.carry {a : Addr} {xs : List V} (c : Carry K H Z H' Z') (h : LstAt K H Z a xs) : LstAt K H' Z' a xs := by
 rcases h with ⟨h, s⟩ | ⟨m, h⟩
 . exact .inl (c.l a (.l xs) h s)
 . exact .inr ⟨(c.r m).1, (c.r m).2 a xs h⟩
mutual
theorem In.carry (c : Carry K H Z H' Z') : ∀ {d : D} {v : V}, In K H Z d v -> In K H' Z' d v
 | .non, _, h => by unfold In at h ⊢; exact h
 | .bl _, _, h => by unfold In at h ⊢; exact h
 | .int _, _, h => by unfold In at h ⊢; exact h
 | .str _, _, h => by unfold In at h ⊢; exact h
 | .lst ds, v, h => by
  unfold In at h ⊢;obtain ⟨a, xs, e, l, i⟩ := h;exact ⟨a, xs, e, l.carry c, aH.carry c i⟩
 | .tup ds, v, h => by
  unfold In at h ⊢;obtain ⟨a, xs, e, l, i⟩ := h;exact ⟨a, xs, e, c.t a xs l, aH.carry c i⟩
 | .dct o, v, h => by
  unfold In at h ⊢;obtain ⟨a, e, l, i⟩ := h;exact ⟨a, e, c.l a (.d o) l i⟩
 | .ktup ks, v, h => by unfold In at h ⊢; exact h
 | .agg _ _, v, h => by unfold In at h; exact h.elim
theorem aH.carry (c : Carry K H Z H' Z') : ∀ {ds : List D} {vs : List V}, aH K H Z ds vs -> aH K H' Z' ds vs
 | [], _, h => by unfold aH at h ⊢; exact h
 | d :: ds, vs, h => by
  unfold aH at h ⊢;obtain ⟨v, r, e, i, j⟩ := h;exact ⟨v, r, e, In.carry c i, aH.carry c j⟩
end
theorem RO.same {a : Addr} {xs : List V} (s : au H H') (h : RO K H a xs) : RO K H' a xs := by
 rcases h with ⟨o, h⟩ | h
 . exact .inl ⟨o, s.at h⟩
 . exact .inr h
theorem Carry.of (s : au H H') (hS : ∀ a (xs : MO), H a = some xs.ho -> Z.S a -> Z'.S a) (hm : Z.m = false -> Z'.m = false) : Carry K H Z H' Z' :=
 ⟨fun a xs h z => ⟨s.at h xs.nt, hS a xs h z⟩, fun m => ⟨hm m, fun a xs h => h.same s⟩, fun a xs h => s.at h⟩
theorem Carry.same (s : au H H') : Carry K H Z H' Z := .of s (fun _ _ _ z => z) fun m => m
theorem In.same {d : D} {v : V} (s : au H H') (h : In K H Z d v) : In K H' Z d v := h.carry (.same s)
theorem aH.same {ds : List D} {vs : List V} (s : au H H') (h : aH K H Z ds vs) : aH K H' Z ds vs := h.carry (.same s)
theorem Carry.ju {l : Addr} {xs : MO} {o : HO} (h : H l = some xs.ho) (n : ¬ Z.S l) : Carry K H Z (upd H l o) Z := by
 refine ⟨fun a zs e z => ⟨?_, z⟩, fun m => ⟨m, fun a zs e => ?_⟩, fun a zs e => ?_⟩
 . have : a ≠ l := by rintro rfl; exact n z
   rw [ae this]; exact e
 . rcases e with ⟨o, e⟩ | e
   . refine .inl ⟨o, ?_⟩;rw [ae (eF e h (by intro q; exact xs.E3 q.symm))]; exact e
   . exact .inr e
 . rw [ae (eF e h (by intro q; exact xs.wt q.symm))]; exact e
theorem Carry.write {l : Addr} {xs ys : List V} (h : H l = some (.lst xs)) (n : ¬ Z.S l) : Carry K H Z (upd H l (.lst ys)) Z := Carry.ju (xs := .l xs) h n
mutual
def D.flat : D -> Bool
 | .lst _ => false
 | .dct _ => false
 | .agg _ _ => false
 | .tup ds => bj ds
 | _ => true
def bj : List D -> Bool
 | [] => true
 | d :: ds => D.flat d && bj ds
end
mutual
theorem In.flat (s : ∀ a (xs : List V), H a = some (.tup xs) -> H' a = some (.tup xs)) : ∀ {d : D} {v : V}, D.flat d = true -> In K H Z d v -> In K H' Z' d v
 | .non, _, _, h => by unfold In at h ⊢; exact h
 | .bl _, _, _, h => by unfold In at h ⊢; exact h
 | .int _, _, _, h => by unfold In at h ⊢; exact h
 | .str _, _, _, h => by unfold In at h ⊢; exact h
 | .lst ds, v, f, h => by unfold D.flat at f; cases f
 | .dct o, v, f, h => by unfold D.flat at f; cases f
 | .agg _ _, v, f, h => by unfold D.flat at f; cases f
 | .ktup ks, v, f, h => by unfold In at h ⊢; exact h
 | .tup ds, v, f, h => by
  unfold D.flat at f;unfold In at h ⊢;obtain ⟨a, xs, e, l, i⟩ := h;exact ⟨a, xs, e, s a xs l, aH.flat s f i⟩
theorem aH.flat (s : ∀ a (xs : List V), H a = some (.tup xs) -> H' a = some (.tup xs)) : ∀ {ds : List D} {vs : List V}, bj ds = true -> aH K H Z ds vs -> aH K H' Z' ds vs
 | [], _, _, h => by unfold aH at h ⊢; exact h
 | d :: ds, vs, f, h => by
  unfold bj at f;rw [Bool.and_eq_true] at f;unfold aH at h ⊢;obtain ⟨v, r, e, i, j⟩ := h;exact ⟨v, r, e, In.flat s f.1 i, aH.flat s f.2 j⟩
end
theorem In.ef {d : D} {v : V} (f : d.flat = true) (h : In K H Z d v) : In K H Z' d v := In.flat (fun _ _ e => e) f h
theorem aH.ef {ds : List D} {vs : List V} (f : bj ds = true) (h : aH K H Z ds vs) : aH K H Z' ds vs := aH.flat (fun _ _ e => e) f h
theorem bK {v : V} : In K H Z .non v ↔ v = .non := by unfold In; exact Iff.rfl
theorem aR {b : Bool} {v : V} : In K H Z (.bl b) v ↔ v = .bl b := by unfold In; exact Iff.rfl
theorem ao {i : Int} {v : V} : In K H Z (.int i) v ↔ v = .int i := by unfold In; exact Iff.rfl
theorem in_str {x : Str} {v : V} : In K H Z (.str x) v ↔ v = .str x := by unfold In; exact Iff.rfl
theorem av {ds : List D} {v : V} : In K H Z (.lst ds) v ↔ ∃ a xs, v = .ref a /\ LstAt K H Z a xs /\ aH K H Z ds xs := by unfold In; exact Iff.rfl
theorem cF {ds : List D} {v : V} : In K H Z (.tup ds) v ↔ ∃ a xs, v = .ref a /\ H a = some (.tup xs) /\ aH K H Z ds xs := by unfold In; exact Iff.rfl
theorem aN {ds : List D} {v : V} (h : In K H Z (.tup ds) v) : ∃ a xs, v = .ref a /\ x8 K H a xs /\ aH K H Z ds xs :=
 let ⟨a, xs, e, l, i⟩ := cF.mp h
 ⟨a, xs, e, .inl (.inl l), i⟩
theorem bG {ks : List Key} {v : V} : In K H Z (.ktup ks) v ↔ ∃ a, v = .ref a /\ wj K a ks := by unfold In; exact Iff.rfl
theorem bW {s : Sh} {ds : List D} {v : V} : ¬ In K H Z (.agg s ds) v := fun h => by unfold In at h; exact h
theorem wj.sq {a : Addr} {ks : List Key} (h : wj K a ks) : x8 K H a (ks.map kV) := by
 obtain ⟨o, its, n, h1, h2, h3, h4, h5⟩ := h;exact .inr ⟨o, its, n, h1, h2, h3, h4, h5⟩
theorem bw {o : DO} {v : V} : In K H Z (.dct o) v ↔ ∃ a, v = .ref a /\ H a = some o.ho /\ Z.S a := by unfold In; exact Iff.rfl
theorem aC {vs : List V} : aH K H Z [] vs ↔ vs = [] := by unfold aH; exact Iff.rfl
theorem ar {d : D} {ds : List D} {vs : List V} : aH K H Z (d :: ds) vs ↔ ∃ v r, vs = v :: r /\ In K H Z d v /\ aH K H Z ds r := by
 constructor
 . intro h; unfold aH at h; exact h
 . intro h; unfold aH; exact h
theorem aH.length : ∀ {ds : List D} {vs : List V}, aH K H Z ds vs -> ds.length = vs.length
 | [], _, h => by rw [aC.mp h]; rfl
 | d :: ds, _, h => by
  obtain ⟨v, r, rfl, _, j⟩ := ar.mp h;rw [length_cons, length_cons, aH.length j]
theorem aH.get : ∀ {ds : List D} {vs : List V} {i : Nat} {d : D}, aH K H Z ds vs -> ds[i]? = some d -> ∃ v, vs[i]? = some v /\ In K H Z d v
 | [], _, _, _, _, e => by simp at e
 | d :: ds, _, 0, _, h, e => by
  obtain ⟨v, r, rfl, a, _⟩ := ar.mp h;simp at e; subst e;exact ⟨v, rfl, a⟩
 | d :: ds, _, i + 1, d', h, e => by
  obtain ⟨v, r, rfl, _, j⟩ := ar.mp h;obtain ⟨w, h1, h2⟩ := aH.get (i := i) (d := d') j (by simpa using e);exact ⟨w, by simpa using h1, h2⟩
theorem aH.append : ∀ {ds es : List D} {vs ws : List V}, aH K H Z ds vs -> aH K H Z es ws -> aH K H Z (ds ++ es) (vs ++ ws)
 | [], _, _, _, h, k => by rw [aC.mp h]; exact k
 | d :: ds, _, _, _, h, k => by
  obtain ⟨v, r, rfl, a, j⟩ := ar.mp h;exact ar.mpr ⟨v, r ++ _, rfl, a, aH.append j k⟩
theorem aH.one {d : D} {v : V} (h : In K H Z d v) : aH K H Z [d] [v] := ar.mpr ⟨v, [], rfl, h, aC.mpr rfl⟩
theorem aH.drop : ∀ {ds : List D} {vs : List V} (n : Nat), aH K H Z ds vs -> aH K H Z (ds.drop n) (vs.drop n)
 | _, _, 0, h => h
 | [], _, _ + 1, h => by rw [aC.mp h]; exact aC.mpr (by simp)
 | _ :: _, _, n + 1, h => by
  obtain ⟨v, r, rfl, _, j⟩ := ar.mp h;exact aH.drop n j
theorem aH.take : ∀ {ds : List D} {vs : List V} (n : Nat), aH K H Z ds vs -> aH K H Z (ds.take n) (vs.take n)
 | _, _, 0, h => by rw [List.take_zero, List.take_zero]; exact aC.mpr rfl
 | [], _, _ + 1, h => by rw [aC.mp h]; exact aC.mpr (by simp)
 | _ :: _, _, n + 1, h => by
  obtain ⟨v, r, rfl, a, j⟩ := ar.mp h;exact ar.mpr ⟨v, r.take n, rfl, a, aH.take n j⟩
theorem aH.of_get : ∀ {ds : List D} {vs : List V}, ds.length = vs.length -> (∀ (i : Nat) d v, ds[i]? = some d -> vs[i]? = some v -> In K H Z d v) -> aH K H Z ds vs
 | [], [], _, _ => aC.mpr rfl
 | d :: ds, v :: vs, e, h => ar.mpr ⟨v, vs, rfl, h 0 d v rfl rfl, aH.of_get (by simpa using e) fun i d' v' a b => h (i + 1) d' v' (by simpa using a) (by simpa using b)⟩
 | [], _ :: _, e, _ => by simp at e
 | _ :: _, [], e, _ => by simp at e
theorem nv : ∀ (ns : HM), aH K H Z (ns.map D.int) (ns.map V.int)
 | [] => aC.mpr rfl
 | n :: ns => ar.mpr ⟨_, _, rfl, ao.mpr rfl, nv ns⟩
theorem y8 : ∀ (ns : HL), aH K H Z (ns.map D.str) (ns.map V.str)
 | [] => aC.mpr rfl
 | n :: ns => ar.mpr ⟨_, _, rfl, in_str.mpr rfl, y8 ns⟩
theorem FG (k : Key) : In K H Z (kD k) (kV k) := by
 cases k with
 | inl i => exact ao.mpr rfl
 | inr x => exact in_str.mpr rfl
theorem pS : ∀ (ks : List Key), aH K H Z (ks.map kD) (ks.map kV)
 | [] => aC.mpr rfl
 | k :: ks => ar.mpr ⟨_, _, rfl, FG k, pS ks⟩
theorem eI : ∀ {ns : HM} {vs : List V}, aH K H Z (ns.map D.int) vs -> vs = ns.map V.int
 | [], _, h => aC.mp h
 | n :: ns, _, h => by
  obtain ⟨v, r, rfl, a, j⟩ := ar.mp h;rw [ao.mp a, eI j]; rfl
theorem gk : ∀ (ns : HM), bj (ns.map D.int) = true
 | [] => by simp [bj]
 | n :: ns => by simp [bj, D.flat, gk ns]
theorem fU : ∀ (ns : HL), bj (ns.map D.str) = true
 | [] => by simp [bj]
 | n :: ns => by simp [bj, D.flat, fU ns]
theorem cO : ∀ {ds : List D}, (∀ d ∈ ds, d.flat = true) -> bj ds = true
 | [], _ => by simp [bj]
 | d :: ds, h => by
  have h1 := h d mem_cons_self;have h2 : bj ds = true := cO fun e he => h e (mem_cons_of_mem _ he);simp [bj, h1, h2]
theorem pf : ∀ {ds : List D}, bj ds = true -> ∀ d ∈ ds, d.flat = true
 | [], _, d, hd => by simp at hd
 | e :: ds, h, d, hd => by
  simp [bj] at h;rcases mem_cons.mp hd with rfl | hd
  . exact h.1
  . exact pf h.2 d hd
end
structure aE.Open (Z : aE) (H : Hp) : Prop where
 op : ∀ a, H a = none -> Z.S a
 tb : TabsOk H
instance {Z : aE} {H : Hp} : CoeFun (Z.Open H) (fun _ => ∀ a, H a = none -> Z.S a) := ⟨fun o => o.op⟩
def nw (H : Hp) : aE := ⟨true, fun a => H a = none⟩
theorem Dd {H : Hp} {C : Prop} (h : (nw H).m = false) : C := Bool.noConfusion (show true = false from h)
def out (m : Bool) (Z : aE) (H : Hp) : aE := if m then nw H else Z
def Fg : aE := ⟨false, fun _ => True⟩
section
variable {K : Frag} {H H1 H' : Hp} {Z : aE} {m : Bool}
theorem aE.Open.same (o : Z.Open H) (s : au H H') : Z.Open H' := ⟨fun a h => o.op a (s.free h), s.tabs o.tb⟩
theorem xj (t : TabsOk H) : Fg.Open H := ⟨fun _ _ => trivial, t⟩
theorem Bs (t : TabsOk H) (s : au H H') : (nw H).Open H' := ⟨fun a h => s.free h, s.tabs t⟩
theorem In.up {d : D} {v : V} (o : Z.Open H) (h : In K H' (nw H) d v) : In K H' Z d v := h.carry ⟨fun a xs e z => ⟨e, o a z⟩, fun m => Dd m, fun _ _ e => e⟩
theorem aH.up {ds : List D} {vs : List V} (o : Z.Open H) (h : aH K H' (nw H) ds vs) : aH K H' Z ds vs := h.carry ⟨fun a xs e z => ⟨e, o a z⟩, fun m => Dd m, fun _ _ e => e⟩
theorem In.plain {d : D} {v : V} (o : Z.Open H) (h : In K H' (out m Z H) d v) : In K H' Z d v := by
 cases m
 . exact h
 . exact h.up o
theorem In.later {d : D} {v : V} (s : au H H1) (h : In K H' (out m Z H1) d v) : In K H' (out m Z H) d v := by
 cases m
 . exact h
 . exact h.carry ⟨fun a xs e z => ⟨e, s.free z⟩, fun m => Dd m, fun _ _ e => e⟩
theorem In.vR {d : D} {v : V} {Z' : aE} (f : d.flat = true) (h : In K H' Z' d v) : In K H' (out m Z H) d v := h.ef f
end
def D.Ga : D -> Bool
 | .agg _ _ => false
 | _ => true
mutual
def nX (K : Frag) (H : Hp) (Z : aE) : D -> V -> Prop
 | .agg s ds, v => ∃ a xs, v = .ref a /\ s.at H a xs /\ Z.S a /\ jB K H Z ds xs
 | .non, v => In K H Z .non v
 | .bl b, v => In K H Z (.bl b) v
 | .int i, v => In K H Z (.int i) v
 | .str x, v => In K H Z (.str x) v
 | .lst ds, v => In K H Z (.lst ds) v
 | .tup ds, v => In K H Z (.tup ds) v
 | .dct o, v => In K H Z (.dct o) v
 | .ktup ks, v => In K H Z (.ktup ks) v
def jB (K : Frag) (H : Hp) (Z : aE) : List D -> List V -> Prop
 | [], xs => xs = []
 | d :: ds, xs => ∃ v vs, xs = v :: vs /\ nX K H Z d v /\ jB K H Z ds vs
end
section
variable {K : Frag} {H H' : Hp} {Z Z' : aE}
theorem nX.eY {d : D} {v : V} (h : nX K H Z d v) (n : d.Ga = true) : In K H Z d v := by
 cases d <;> first | (unfold nX at h; exact h) | exact Bool.noConfusion (show false = true from n)
theorem In.top {d : D} {v : V} (h : In K H Z d v) : nX K H Z d v := by
 cases d <;> first | exact absurd h bW | (unfold nX; exact h)
theorem qt {s : Sh} {ds : List D} {v : V} : nX K H Z (.agg s ds) v ↔ ∃ a xs, v = .ref a /\ s.at H a xs /\ Z.S a /\ jB K H Z ds xs := by
 constructor
 . intro h; unfold nX at h; exact h
 . intro h; unfold nX; exact h
theorem nu {vs : List V} : jB K H Z [] vs ↔ vs = [] := by unfold jB; exact Iff.rfl
theorem kR {d : D} {ds : List D} {vs : List V} : jB K H Z (d :: ds) vs ↔ ∃ v r, vs = v :: r /\ nX K H Z d v /\ jB K H Z ds r := by
 constructor
 . intro h; unfold jB at h; exact h
 . intro h; unfold jB; exact h
mutual
theorem nX.carry (c : Carry K H Z H' Z') : ∀ {d : D} {v : V}, nX K H Z d v -> nX K H' Z' d v
 | .non, _, h => (In.carry c (h.eY rfl)).top
 | .bl _, _, h => (In.carry c (h.eY rfl)).top
 | .int _, _, h => (In.carry c (h.eY rfl)).top
 | .str _, _, h => (In.carry c (h.eY rfl)).top
 | .lst _, _, h => (In.carry c (h.eY rfl)).top
 | .tup _, _, h => (In.carry c (h.eY rfl)).top
 | .dct _, _, h => (In.carry c (h.eY rfl)).top
 | .ktup _, _, h => (In.carry c (h.eY rfl)).top
 | .agg s ds, v, h => by
  obtain ⟨a, xs, e, l, z, i⟩ := qt.mp h;obtain ⟨m, e1, e2⟩ := Sh.mo l;obtain ⟨e3, z'⟩ := c.l a m e1 z;exact qt.mpr ⟨a, xs, e, e2 H' e3, z', jB.carry c i⟩
theorem jB.carry (c : Carry K H Z H' Z') : ∀ {ds : List D} {vs : List V}, jB K H Z ds vs -> jB K H' Z' ds vs
 | [], _, h => nu.mpr (nu.mp h)
 | d :: ds, vs, h => by
  obtain ⟨v, r, e, i, j⟩ := kR.mp h;exact kR.mpr ⟨v, r, e, nX.carry c i, jB.carry c j⟩
end
theorem nX.same {d : D} {v : V} (s : au H H') (h : nX K H Z d v) : nX K H' Z d v := h.carry (.same s)
theorem aH.top : ∀ {ds : List D} {vs : List V}, aH K H Z ds vs -> jB K H Z ds vs
 | [], _, h => nu.mpr (aC.mp h)
 | d :: ds, vs, h => by
  obtain ⟨v, r, e, i, j⟩ := ar.mp h;exact kR.mpr ⟨v, r, e, i.top, j.top⟩
end
def bZ (K : Frag) (H : Hp) (Z : aE) (σ : St) (ρ : List (Option D)) : Prop := ∀ (i : Nat) d, ρ[i]? = some (some d) -> ∃ v, σ[i]? = some (some v) /\ nX K H Z d v
theorem bZ.same {K : Frag} {H H' : Hp} {Z : aE} {σ : St} {ρ : List (Option D)} (s : au H H') (h : bZ K H Z σ ρ) : bZ K H' Z σ ρ := fun i d e =>
 let ⟨v, a, b⟩ := h i d e; ⟨v, a, b.same s⟩
def tE (K : Frag) (m : Bool) (ρ : List (Option D)) (d : D) : TE := fun σ H Q => ∃ Z : aE, Z.Open H /\ bZ K H Z σ ρ /\ ∀ v H', au H H' -> In K H' (out m Z H) d v -> Q v H'
def x6 (K : Frag) (ρ : List (Option D)) (b : Bool) : TT := fun σ H Q => ∃ Z : aE, Z.Open H /\ bZ K H Z σ ρ /\ ∀ H', au H H' -> Q b H'
def Hu (K : Frag) (ρ : List (Option D)) (ds : List D) : TA := fun σ H Q => ∃ Z : aE, Z.Open H /\ bZ K H Z σ ρ /\ ∀ vs H', au H H' -> aH K H' Z ds vs -> Q vs H'
def E (X : Cx) (m : Bool) (ρ : List (Option D)) (e : Expr) (d : D) : Prop := PE X e (tE X.K m ρ d)
def T (X : Cx) (ρ : List (Option D)) (e : Expr) (b : Bool) : Prop := PT X e (x6 X.K ρ b)
def TW (X : Cx) (ρ : List (Option D)) (e : Expr) (b : Bool) : Prop := PW X e (x6 X.K ρ b)
def EA (X : Cx) (ρ : List (Option D)) (es : List Expr) (ds : List D) : Prop := PA X es (Hu X.K ρ ds)
theorem PE.mono {X : Cx} {e : Expr} {t t' : TE} (h : PE X e t) (k : ∀ σ H Q, t' σ H Q -> t σ H Q) : PE X e t' := fun pins s σ H Q I q => h pins s σ H Q I (k σ H Q q)
theorem PT.mono {X : Cx} {e : Expr} {t t' : TT} (h : PT X e t) (k : ∀ σ H Q, t' σ H Q -> t σ H Q) : PT X e t' := fun pins s σ H Q I q => h pins s σ H Q I (k σ H Q q)
theorem PW.mono {X : Cx} {e : Expr} {t t' : TT} (h : PW X e t) (k : ∀ σ H Q, t' σ H Q -> t σ H Q) : PW X e t' := fun wh pins s σ H Q I q => h wh pins s σ H Q I (k σ H Q q)
theorem PA.mono {X : Cx} {es : List Expr} {t t' : TA} (h : PA X es t) (k : ∀ σ H Q, t' σ H Q -> t σ H Q) : PA X es t' := fun pos pins s σ H Q I q => h pos pins s σ H Q I (k σ H Q q)
section
variable {X : Cx} {ρ : List (Option D)} {m m1 m2 m3 : Bool} {a b c e : Expr} {es : List Expr} {d d1 d2 d3 : D} {pos : Pos}
theorem E.mode (h : E X true ρ e d) : E X m ρ e d := by
 cases m
 . refine PE.mono h fun σ H Q z0 => bo z0 fun Z oz en k => ⟨Z, oz, en, fun v H' s i => k v H' s (i.up oz)⟩
 . exact h
theorem E.uv (h : E X m ρ e d) : E X false ρ e d := by
 cases m
 . exact h
 . exact E.mode h
theorem E.flat (h : E X m1 ρ e d) (f : d.flat = true) : E X m ρ e d :=
 PE.mono h fun σ H Q z0 => bo z0 fun Z oz en k => ⟨Z, oz, en, fun v H' s i => k v H' s (i.ef f)⟩
theorem E.cast {d' : D} (h : E X m ρ e d) (q : d = d') : E X m ρ e d' := q ▸ h
theorem aa (i : Nat) {x : Str} {d : D} (hr : ρ[i]? = some (some d) := by rfl) (hN : X.N[i]? = some x := by rfl)
 (hv : sx X.env.scope x := by first | exact Or.inl rfl | exact Or.inr (Or.inl rfl) | exact Or.inr (Or.inr rfl)) (hd : NdX x := by decide)
 (hcd : NcX x := by decide) (hn : d.Ga = true := by rfl) : E X false ρ (.Name x pos) d :=
 PE.mono (dg hN hv hd hcd) fun σ H Q z0 => bo z0 fun Z oz en k => by
  obtain ⟨v, e, i⟩ := en i d hr;exact ⟨v, e, k v H (au.refl H) (i.eY hn)⟩
theorem ag {i : Int} {j : Nat} : E X true ρ (.Constant (.int i) j pos) (.int i) := PE.mono DG fun σ H Q z0 => bo z0 fun Z oz en k => k _ _ (au.refl H) (ao.mpr rfl)
theorem Ek {b : Bool} {j : Nat} : E X true ρ (.Constant (.bool b) j pos) (.bl b) := PE.mono Fv fun σ H Q z0 => bo z0 fun Z oz en k => k _ _ (au.refl H) (aR.mpr rfl)
theorem aS {x : Str} {j : Nat} : E X true ρ (.Constant (.str x) j pos) (.str x) := PE.mono Ey fun σ H Q z0 => bo z0 fun Z oz en k => k _ _ (au.refl H) (in_str.mpr rfl)
theorem bV : EA X ρ [] [] := PA.mono bu fun σ H Q z0 => bo z0 fun Z oz en k => k [] H (au.refl H) (aC.mpr rfl)
theorem ab {ds : List D} (ha : E X m1 ρ e d) (hr : EA X ρ es ds) (hs : starEach (e :: es) X.env = (false, eval e X.env) :: starEach es X.env := by rfl) : EA X ρ (e :: es) (d :: ds) :=
 PA.mono (aK ha hr hs) fun σ H Q z0 => bo z0 fun Z oz en k => ⟨Z, oz, en, fun v H1 s1 i1 => ⟨Z, oz.same s1, en.same s1, fun vs H2 s2 i2 => k (v :: vs) H2 (s1.trans s2) (ar.mpr ⟨v, vs, rfl, (i1.plain oz).same s2, i2⟩)⟩⟩
theorem aq (ha : E X m1 ρ e d) (hs : starEach (e :: []) X.env = (false, eval e X.env) :: starEach [] X.env := by rfl) : EA X ρ [e] [d] := ab ha bV hs
def FU (X : Cx) (ρ : List (Option D)) (es : List Expr) (ds : List D) : Prop := PA X es (fun σ H Q => ∃ Z : aE, Z.Open H /\ bZ X.K H Z σ ρ /\ ∀ vs H', au H H' -> aH X.K H' (nw H) ds vs -> Q vs H')
theorem iO : FU X ρ [] [] := PA.mono bu fun σ H Q z0 => bo z0 fun Z oz en k => k [] H (au.refl H) (aC.mpr rfl)
theorem aH.later {K : Frag} {H H1 H' : Hp} {ds : List D} {vs : List V} (s : au H H1) (h : aH K H' (nw H1) ds vs) : aH K H' (nw H) ds vs :=
 h.carry ⟨fun a xs e z => ⟨e, s.free z⟩, fun m => Dd m, fun _ _ e => e⟩
theorem d9 {ds : List D} (ha : E X true ρ e d) (hr : FU X ρ es ds) (hs : starEach (e :: es) X.env = (false, eval e X.env) :: starEach es X.env := by rfl) : FU X ρ (e :: es) (d :: ds) :=
 PA.mono (aK ha hr hs) fun σ H Q z0 => bo z0 fun Z oz en k => ⟨Z, oz, en, fun v H1 s1 i1 => ⟨Z, oz.same s1, en.same s1, fun vs H2 s2 i2 => k (v :: vs) H2 (s1.trans s2) (ar.mpr ⟨v, vs, rfl, In.same s2 i1, i2.later s1⟩)⟩⟩
theorem az {H : Hp} {p : Addr} {o : HO} (h : H p = none) : au H (upd H p o) := ⟨fun b u e _ => by rw [ae (aw e h)]; exact e, fun b ps e => ⟨ps, by rw [ae (aw e h)]; exact e⟩, fun t => t.upd (.inl h)⟩
theorem ee {ds : List D} {x1} (h : EA X ρ es ds) (hz : ds.length <= 1000 := by exact of_decide_eq_true rfl) : E X false ρ (.Tuple es x1 pos) (.tup ds) :=
 PE.mono (yw h) fun σ H Q z0 => bo z0 fun Z oz en k => ⟨Z, oz, en, fun vs H1 s1 i1 => ⟨by rw [<- i1.length]; exact Nat.le_trans hz (Nat.le_of_lt (aW (Nat.le_refl _))), fun p hp =>
  k (.ref p) _ (s1.trans (az hp)) (cF.mpr ⟨p, vs, rfl, ak, i1.same (az hp)⟩)⟩⟩
theorem C5 {ds : List D} {x1} (h : FU X ρ es ds) (hz : ds.length <= 1000 := by exact of_decide_eq_true rfl) : E X true ρ (.Tuple es x1 pos) (.tup ds) :=
 PE.mono (yw h) fun σ H Q z0 => bo z0 fun Z oz en k => ⟨Z, oz, en, fun vs H1 s1 i1 => ⟨by rw [<- i1.length]; exact Nat.le_trans hz (Nat.le_of_lt (aW (Nat.le_refl _))), fun p hp =>
  k (.ref p) _ (s1.trans (az hp)) (cF.mpr ⟨p, vs, rfl, ak, i1.same (az hp)⟩)⟩⟩
theorem mT {ds : List D} (h : EA X ρ es ds) (hz : ds.length <= 1000 := by exact of_decide_eq_true rfl) : E X false ρ (.List es pos) (.lst ds) :=
 PE.mono (mY h) fun σ H Q z0 => bo z0 fun Z oz en k => ⟨Z, oz, en, fun vs H1 s1 i1 => ⟨by rw [<- i1.length]; exact Nat.le_trans hz (Nat.le_of_lt (aW (Nat.le_refl _))), fun p hp =>
  k (.ref p) _ (s1.trans (az hp)) (av.mpr ⟨p, vs, rfl, .inl ⟨ak, oz p (s1.free hp)⟩, i1.same (az hp)⟩)⟩⟩
theorem m9 {ds : List D} (h : FU X ρ es ds) (hz : ds.length <= 1000 := by exact of_decide_eq_true rfl) : E X true ρ (.List es pos) (.lst ds) :=
 PE.mono (mY h) fun σ H Q z0 => bo z0 fun Z oz en k => ⟨Z, oz, en, fun vs H1 s1 i1 => ⟨by rw [<- i1.length]; exact Nat.le_trans hz (Nat.le_of_lt (aW (Nat.le_refl _))), fun p hp =>
  k (.ref p) _ (s1.trans (az hp)) (av.mpr ⟨p, vs, rfl, .inl ⟨ak, s1.free hp⟩, i1.same (az hp)⟩)⟩⟩
theorem cN {ds : List D} (h : EA X ρ es ds) (f : bj ds = true := by rfl) (hz : ds.length <= 1000 := by exact of_decide_eq_true rfl) : E X true ρ (.List es pos) (.lst ds) := by
 refine E.mode (PE.mono (mY h) fun σ H Q z0 => bo z0 fun Z oz en k => ⟨Z, oz, en, fun vs H1 s1 i1 => ⟨by rw [<- i1.length]; exact Nat.le_trans hz (Nat.le_of_lt (aW (Nat.le_refl _))), fun p hp =>
  k (.ref p) _ (s1.trans (az hp)) (av.mpr ⟨p, vs, rfl, .inl ⟨ak, s1.free hp⟩, (i1.same (az hp)).ef f⟩)⟩⟩)
theorem two {ta tb : TE} {σ : St} {H : Hp} {Z : aE} {R : V -> V -> Hp -> Prop} (oz : Z.Open H) (en : bZ X.K H Z σ ρ)
 (h : ∀ x y H', au H H' -> In X.K H' Z d1 x -> In X.K H' Z d2 y -> R x y H') : tE X.K m1 ρ d1 σ H fun x H1 => tE X.K m2 ρ d2 σ H1 fun y H2 => R x y H2 :=
 ⟨Z, oz, en, fun x H1 s1 i1 => ⟨Z, oz.same s1, en.same s1, fun y H2 s2 i2 => h x y H2 (s1.trans s2) ((i1.plain oz).same s2) (i2.plain (oz.same s1))⟩⟩
theorem oA {op : Operator} {r : R2} (ho : iV X (binaryOp op) r) (ha : E X m1 ρ a d1) (hb : E X m2 ρ b d2)
 (h : ∀ x y H Z Q, Z.Open H -> In X.K H Z d1 x -> In X.K H Z d2 y -> (∀ v H', au H H' -> In X.K H' (out m Z H) d v -> Q v H') -> r x y H Q) : E X m ρ (.BinOp a op b pos) d :=
 PE.mono (CP ho ha hb) fun σ H Q z0 => bo z0 fun Z oz en k => two (ta := tE X.K m1 ρ d1) (tb := tE X.K m2 ρ d2) oz en fun x y H2 s i1 i2 => h x y H2 Z _ (oz.same s) i1 i2 fun v H' s' i => k v H' (s.trans s') (i.later s)
theorem r8 {op : CmpOp} {r : R2} (ho : iV X (compareOp op) r) (ha : E X m1 ρ a d1) (hb : E X m2 ρ b d2)
 (h : ∀ x y H Z Q, Z.Open H -> In X.K H Z d1 x -> In X.K H Z d2 y -> (∀ v H', au H H' -> In X.K H' (out m Z H) d v -> Q v H') -> r x y H Q) (hm : behindInMarks op b = false) : E X m ρ (.Compare a [op] [b] pos) d :=
 PE.mono (Ck ho ha hb hm) fun σ H Q z0 => bo z0 fun Z oz en k => two (ta := tE X.K m1 ρ d1) (tb := tE X.K m2 ρ d2) oz en fun x y H2 s i1 i2 => h x y H2 Z _ (oz.same s) i1 i2 fun v H' s' i => k v H' (s.trans s') (i.later s)
theorem j9 {op : CmpOp} {r : R2} {p : Bool} (ho : iV X (compareOp op) r) (ha : E X m1 ρ a d1) (hb : E X m2 ρ b d2)
 (h : ∀ x y H Z Q, Z.Open H -> In X.K H Z d1 x -> In X.K H Z d2 y -> (∀ H', au H H' -> Q (.bl p) H') -> r x y H Q) (hm : behindInMarks op b = false) : T X ρ (.Compare a [op] [b] pos) p :=
 PT.mono (BI ho ha hb hm) fun σ H Q z0 => bo z0 fun Z oz en k => two (ta := tE X.K m1 ρ d1) (tb := tE X.K m2 ρ d2) oz en fun x y H2 s i1 i2 => h x y H2 Z _ (oz.same s) i1 i2 fun H' s' => ⟨p, rfl, k H' (s.trans s')⟩
theorem cE {i j : Int} (ha : E X m1 ρ a (.int i)) (hb : E X m2 ρ b (.int j)) : E X true ρ (.BinOp a .Add b pos) (.int (i + j)) :=
 oA DF ha hb fun x y H Z Q _ i1 i2 k => ⟨_, _, ao.mp i1, ao.mp i2, k _ _ (au.refl H) (ao.mpr rfl)⟩
theorem oM {i j : Int} (ha : E X m1 ρ a (.int i)) (hb : E X m2 ρ b (.int j)) : E X true ρ (.BinOp a .Sub b pos) (.int (i - j)) :=
 oA DV ha hb fun x y H Z Q _ i1 i2 k => ⟨_, _, ao.mp i1, ao.mp i2, k _ _ (au.refl H) (ao.mpr rfl)⟩
theorem zZ {i j : Int} (ha : E X m1 ρ a (.int i)) (hb : E X m2 ρ b (.int j)) (hc : B0 i j) : E X true ρ (.BinOp a .Mult b pos) (.int (i * j)) :=
 oA Dt ha hb fun x y H Z Q _ i1 i2 k => ⟨_, _, ao.mp i1, ao.mp i2, hc, k _ _ (au.refl H) (ao.mpr rfl)⟩
theorem oE {i j : Int} (ha : E X m1 ρ a (.int i)) (hb : E X m2 ρ b (.int j)) (hc : 0 < j) : E X true ρ (.BinOp a .Mod b pos) (.int (i % j)) :=
 oA DB ha hb fun x y H Z Q _ i1 i2 k => ⟨_, _, ao.mp i1, ao.mp i2, hc, k _ _ (au.refl H) (ao.mpr rfl)⟩
theorem Dn {i j : Int} (ha : E X m1 ρ a (.int i)) (hb : E X m2 ρ b (.int j)) (hc : EM i j) : E X true ρ (.BinOp a .FloorDiv b pos) (.int (i / j)) :=
 oA Bm ha hb fun x y H Z Q _ i1 i2 k => ⟨_, _, ao.mp i1, ao.mp i2, hc, k _ _ (au.refl H) (ao.mpr rfl)⟩
theorem zB {i : Int} (ha : E X m1 ρ a (.int i)) : E X true ρ (.UnaryOp .USub a pos) (.int (-i)) :=
 PE.mono (FD CZ ha) fun σ H Q z0 => bo z0 fun Z oz en k => ⟨Z, oz, en, fun x H1 s1 i1 => ⟨i, ao.mp (i1.plain oz), k _ _ s1 (ao.mpr rfl)⟩⟩
theorem DZ {x y : Str} (ha : E X m1 ρ a (.str x)) (hb : E X m2 ρ b (.str y)) (hz : x.length + y.length <= sizeLine) : E X true ρ (.BinOp a .Add b pos) (.str (x ++ y)) :=
 oA uk ha hb fun x y H Z Q _ i1 i2 k => ⟨_, _, in_str.mp i1, in_str.mp i2, hz, k _ _ (au.refl H) (in_str.mpr rfl)⟩
theorem y4 {i j : Int} (ha : E X m1 ρ a (.int i)) (hb : E X m2 ρ b (.int j)) : T X ρ (.Compare a [.Lt] [b] pos) (decide (i < j)) :=
 j9 FT ha hb (fun x y H Z Q _ i1 i2 k => ⟨_, _, ao.mp i1, ao.mp i2, k _ (au.refl H)⟩) (fc _)
theorem EY {i j : Int} (ha : E X m1 ρ a (.int i)) (hb : E X m2 ρ b (.int j)) : E X true ρ (.Compare a [.GtE] [b] pos) (.bl (decide (j <= i))) :=
 r8 FA ha hb (fun x y H Z Q _ i1 i2 k => ⟨_, _, ao.mp i1, ao.mp i2, k _ _ (au.refl H) (aR.mpr rfl)⟩) (fc _)
theorem gv {i j : Int} (ha : E X m1 ρ a (.int i)) (hb : E X m2 ρ b (.int j)) : T X ρ (.Compare a [.Eq] [b] pos) (decide (i = j)) :=
 j9 yy ha hb (fun x y H Z Q _ i1 i2 k => by rw [ao.mp i1, ao.mp i2]; exact ⟨rfl, by simpa using k _ (au.refl H)⟩) (fc _)
theorem pF {i j : Str} (ha : E X m1 ρ a (.str i)) (hb : E X m2 ρ b (.str j)) : E X true ρ (.Compare a [.Eq] [b] pos) (.bl (decide (i = j))) :=
 r8 yy ha hb (fun x y H Z Q _ i1 i2 k => by rw [in_str.mp i1, in_str.mp i2]; exact ⟨rfl, k _ _ (au.refl H) (aR.mpr (by simp))⟩) (fc _)
theorem bS {i j : Str} (ha : E X m1 ρ a (.str i)) (hb : E X m2 ρ b (.str j)) : T X ρ (.Compare a [.Eq] [b] pos) (decide (i = j)) :=
 j9 yy ha hb (fun x y H Z Q _ i1 i2 k => by rw [in_str.mp i1, in_str.mp i2]; exact ⟨rfl, by simpa using k _ (au.refl H)⟩) (fc _)
theorem oS {i j : Str} (ha : E X m1 ρ a (.str i)) (hb : E X m2 ρ b (.str j)) : T X ρ (.Compare a [.NotEq] [b] pos) (!decide (i = j)) :=
 j9 EZ ha hb (fun x y H Z Q _ i1 i2 k => by rw [in_str.mp i1, in_str.mp i2]; exact ⟨rfl, by simpa using k _ (au.refl H)⟩) (fc _)
theorem uY {p : Bool} (ha : T X ρ a p) : TW X ρ (.BoolOp .And [a] pos) p := Co ha
theorem tK {p : Bool} (ha : T X ρ a p) : TW X ρ (.BoolOp .Or [a] pos) p := Dm ha
theorem um {p q : Bool} {r : List Expr} (ha : T X ρ a p) (hb : p = true -> TW X ρ (.BoolOp .And (b :: r) pos) q) : TW X ρ (.BoolOp .And (a :: b :: r) pos) (p && q) := by
 cases p with
 | true =>
  exact PW.mono (zO ha (hb rfl)) fun σ H Q z0 => bo z0 fun Z oz en k => ⟨Z, oz, en, fun H1 s1 => by
   refine nG ?_; exact ⟨Z, oz.same s1, en.same s1, fun H2 s2 => k H2 (s1.trans s2)⟩⟩
 | false =>
  exact PW.mono (zO (x6 := fun _ _ _ => False) ha (fun wh pins s σ H Q I h => h.elim)) fun σ H Q z0 => bo z0 fun Z oz en k => ⟨Z, oz, en, fun H1 s1 => by
   refine mV ?_; exact k H1 s1⟩
theorem vm {p q : Bool} {r : List Expr} (ha : T X ρ a p) (hb : p = false -> TW X ρ (.BoolOp .Or (b :: r) pos) q) : TW X ρ (.BoolOp .Or (a :: b :: r) pos) (p || q) := by
 cases p with
 | false =>
  exact PW.mono (CN ha (hb rfl)) fun σ H Q z0 => bo z0 fun Z oz en k => ⟨Z, oz, en, fun H1 s1 => by
   refine mV ?_; exact ⟨Z, oz.same s1, en.same s1, fun H2 s2 => k H2 (s1.trans s2)⟩⟩
 | true =>
  exact PW.mono (CN (x6 := fun _ _ _ => False) ha (fun wh pins s σ H Q I h => h.elim)) fun σ H Q z0 => bo z0 fun Z oz en k => ⟨Z, oz, en, fun H1 s1 => by
   refine nG ?_; exact k H1 s1⟩
theorem TW.t {p : Bool} (h : TW X ρ a p) : T X ρ a p := PW.pt h
theorem ES {p : Bool} (ha : T X ρ a p) : T X ρ (.UnaryOp .Not a pos) (!p) := PT.mono (DT ha) fun σ H Q z0 => bo z0 fun Z oz en k => ⟨Z, oz, en, fun H1 s1 => k H1 s1⟩
theorem yY {p : Bool} (h : E X m1 ρ e (.bl p)) (he : ∀ whole, isTrue e X.env whole = (do let v <- whole; standAt e.pos; holding [v] (truthy v)) := by intro _; rfl) : T X ρ e p :=
 PT.mono (yd h he) fun σ H Q z0 => bo z0 fun Z oz en k => ⟨Z, oz, en, fun v H1 s1 i1 => ⟨p, aR.mp (i1.plain oz), k H1 s1⟩⟩
theorem Cz {op : BoolOp} (h : E X m ρ a d) : E X m ρ (.BoolOp op [a] pos) d := DE h
theorem E9 {p : Bool} {q : Bool} {r : List Expr} (ha : E X m1 ρ a (.bl p)) (hb : p = true -> E X m2 ρ (.BoolOp .And (b :: r) pos) (.bl q)) : E X true ρ (.BoolOp .And (a :: b :: r) pos) (.bl (p && q)) := by
 cases p with
 | true =>
  exact PE.mono (yc ha (hb rfl)) fun σ H Q z0 => bo z0 fun Z oz en k => ⟨Z, oz, en, fun v H1 s1 i1 => ⟨true, aR.mp (i1.plain oz), by
   refine nG ?_; exact ⟨Z, oz.same s1, en.same s1, fun w H2 s2 i2 => k w H2 (s1.trans s2) (i2.vR rfl)⟩⟩⟩
 | false =>
  exact PE.mono (yc (tb := fun _ _ _ => False) ha (fun pins s σ H Q I h => h.elim)) fun σ H Q z0 => bo z0 fun Z oz en k => ⟨Z, oz, en, fun v H1 s1 i1 => ⟨false, aR.mp (i1.plain oz), by
   refine mV ?_; exact k _ H1 s1 (aR.mpr rfl)⟩⟩
theorem EE {p : Bool} {q : Bool} {r : List Expr} (ha : E X m1 ρ a (.bl p)) (hb : p = false -> E X m2 ρ (.BoolOp .Or (b :: r) pos) (.bl q)) : E X true ρ (.BoolOp .Or (a :: b :: r) pos) (.bl (p || q)) := by
 cases p with
 | false =>
  exact PE.mono (Cw ha (hb rfl)) fun σ H Q z0 => bo z0 fun Z oz en k => ⟨Z, oz, en, fun v H1 s1 i1 => ⟨false, aR.mp (i1.plain oz), by
   refine mV ?_; exact ⟨Z, oz.same s1, en.same s1, fun w H2 s2 i2 => k w H2 (s1.trans s2) (i2.vR rfl)⟩⟩⟩
 | true =>
  exact PE.mono (Cw (tb := fun _ _ _ => False) ha (fun pins s σ H Q I h => h.elim)) fun σ H Q z0 => bo z0 fun Z oz en k => ⟨Z, oz, en, fun v H1 s1 i1 => ⟨true, aR.mp (i1.plain oz), by
   refine nG ?_; exact k _ H1 s1 (aR.mpr rfl)⟩⟩
theorem aH.nY {K : Frag} {H : Hp} {Z : aE} {ds : List D} {vs : List V} {i : Int} {d : D} (h : aH K H Z ds vs) (e : nY ds i = some d) : ∃ v, nY vs i = some v /\ In K H Z d v := by
 unfold L2.nY at e ⊢;rw [<- h.length]
 cases q : AO ds.length i with
 | none => rw [q] at e; cases e
 | some j =>
  rw [q] at e;exact h.get e
theorem gx {ds : List D} {i : Int} (ha : E X m1 ρ a (.lst ds)) (hb : E X m2 ρ b (.int i)) (h : nY ds i = some d) (hs : iG b := by intro _ _; rfl) : E X m1 ρ (.Subscript a b pos) d :=
 PE.mono (r0 qf ha hb hs) fun σ H Q z0 => bo z0 fun Z oz en k => ⟨Z, oz, en, fun x H1 s1 i1 => ⟨Z, oz.same s1, en.same s1, fun y H2 s2 i2 => by
  obtain ⟨p, xs, rfl, l, j⟩ := av.mp (In.same s2 i1);obtain ⟨v, e, iv⟩ := j.nY h;exact ⟨p, xs, i, v, rfl, ao.mp (i2.plain (oz.same s1)), l.sq, e, k v H2 (s1.trans s2) iv⟩⟩⟩
theorem aI {ds : List D} {i : Int} (ha : E X m1 ρ a (.tup ds)) (hb : E X m2 ρ b (.int i)) (h : nY ds i = some d) (hs : iG b := by intro _ _; rfl) : E X m1 ρ (.Subscript a b pos) d :=
 PE.mono (r0 C6 ha hb hs) fun σ H Q z0 => bo z0 fun Z oz en k => ⟨Z, oz, en, fun x H1 s1 i1 => ⟨Z, oz.same s1, en.same s1, fun y H2 s2 i2 => by
  obtain ⟨p, xs, rfl, l, j⟩ := aN (In.same s2 i1);obtain ⟨v, e, iv⟩ := j.nY h;exact ⟨p, xs, i, v, rfl, ao.mp (i2.plain (oz.same s1)), l, e, k v H2 (s1.trans s2) iv⟩⟩⟩
theorem FC {z : Str} {i : Int} {cp : Nat} (ha : E X m1 ρ a (.str z)) (hb : E X m2 ρ b (.int i)) (hz : z.length <= sizeLine) (h : nY z.cps.toList i = some cp) (hs : iG b := by intro _ _; rfl) : E X true ρ (.Subscript a b pos) (.str ⟨#[cp]⟩) :=
 PE.mono (r0 Ec ha hb hs) fun σ H Q z0 => bo z0 fun Z oz en k => two (ta := tE X.K m1 ρ (.str z)) (tb := tE X.K m2 ρ (.int i)) oz en fun x y H2 s i1 i2 =>
  ⟨z, i, cp, in_str.mp i1, ao.mp i2, hz, h, k _ H2 s (in_str.mpr rfl)⟩
def EO (X : Cx) (ρ : List (Option D)) (e : Option Expr) (o : Option Int) : Prop := PO X e (fun σ H Q => ∃ Z : aE, Z.Open H /\ bZ X.K H Z σ ρ /\ ∀ H', au H H' -> Q o H')
theorem PO.mono {e : Option Expr} {t t' : TO} (h : PO X e t) (k : ∀ σ H Q, t' σ H Q -> t σ H Q) : PO X e t' := fun pins s σ H Q I q => h pins s σ H Q I (k σ H Q q)
theorem d4 : EO X ρ none none := PO.mono BD fun σ H Q z0 => bo z0 fun Z oz en k => k H (au.refl H)
theorem bI {i : Int} (h : E X m1 ρ e (.int i)) : EO X ρ (some e) (some i) := PO.mono (Cj h) fun σ H Q z0 => bo z0 fun Z oz en k => ⟨Z, oz, en, fun v H1 s1 i1 => ⟨i, ao.mp (i1.plain oz), k H1 s1⟩⟩
def cut {α : Type} (xs : List α) (lo hi : Option Int) : List α := (xs.drop (HT.pj xs.length 0 lo)).take (HT.pj xs.length xs.length hi - HT.pj xs.length 0 lo)
theorem aH.cut {K : Frag} {H : Hp} {Z : aE} {ds : List D} {vs : List V} (h : aH K H Z ds vs) (lo hi : Option Int) : aH K H Z (cut ds lo hi) (tO vs lo hi) := by
 unfold Y.cut tO;rw [h.length];exact (h.drop _).take _
variable {lo hi : Option Expr} {l u : Option Int} {p2 : Pos}
theorem lz {ds : List D} (ha : E X m1 ρ a (.lst ds)) (hl : EO X ρ lo l) (hu : EO X ρ hi u) (hm : m = true -> m1 = true \/ bj (cut ds l u) = true := by intro h; first | exact .inl h | cases h) : E X m ρ (.Subscript a (.Slice lo hi none p2) pos) (.lst (cut ds l u)) :=
 PE.mono (rC Bn ha hl hu) fun σ H Q z0 => bo z0 fun Z oz en k => ⟨Z, oz, en, fun x H1 s1 i1 => ⟨Z, oz.same s1, en.same s1, fun H2 s2 => ⟨Z, oz.same (s1.trans s2), en.same (s1.trans s2), fun H3 s3 => by
  have s := (s1.trans s2).trans s3;have i3 : In X.K H3 (out m1 Z H) (.lst ds) x := In.same (s2.trans s3) i1;obtain ⟨p, xs, rfl, lq, j⟩ := av.mp i3;refine ⟨p, xs, rfl, lq.sq, fun q hq => k (.ref q) _ (s.trans (az hq)) (av.mpr ⟨q, _, rfl, .inl ⟨ak, ?_⟩, ?_⟩)⟩
  . cases m
    . exact oz q (s.free hq)
    . exact s.free hq
  . have jc := (j.cut l u).same (az (o := .lst (tO xs l u)) hq);cases m
    . cases m1
      . exact jc
      . exact jc.up oz
    . rcases hm rfl with h | h
      . subst h; exact jc
      . exact jc.ef h⟩⟩⟩
end
end Y
namespace Y
open PySem PySem.Spec PyProof.Rows L2
variable [cq]
def kC (cells : List (Str × Addr)) : List (Str × NameKind) -> List (Str × Addr) -> List (Str × Addr)
 | [], acc => acc
 | (n, k) :: r, acc => if k == .free then kC cells r ((n, (cells.lookup n).getD 0) :: acc) else kC cells r acc
theorem mn {cells : List (Str × Addr)} : ∀ {names : List (Str × NameKind)} {acc : List (Str × Addr)}, (∀ y ∈ names, y.2 = .free -> ∃ c, cells.lookup y.1 = some c) -> (∀ x c, acc.lookup x = some c -> cells.lookup x = some c) ->
 ∀ x c, (kC cells names acc).lookup x = some c -> cells.lookup x = some c
 | [], _, _, h2, x, c, e => h2 x c e
 | (n, k) :: r, acc, h1, h2, x, c, e => by
  unfold kC at e;by_cases hk : (k == NameKind.free) = true
  . rw [if_pos hk] at e;refine mn (fun y hy => h1 y (mem_cons_of_mem _ hy)) (fun y c' e' => ?_) x c e;obtain ⟨c0, e0⟩ := h1 (n, k) mem_cons_self (by simpa using hk);rw [lookup_cons] at e'
    cases hy : y == n with
    | true =>
     rw [hy] at e';simp at e';have : y = n := by simpa using hy
     subst this;rw [e0] at e' ⊢;simpa using e'
    | false =>
     rw [hy] at e';exact h2 y c' e'
  . rw [if_neg hk] at e;exact mn (fun y hy => h1 y (mem_cons_of_mem _ hy)) h2 x c e
theorem mP {cells : List (Str × Addr)} : ∀ {names : List (Str × NameKind)} {acc : List (Str × Addr)} {x : Str}, (∃ c, acc.lookup x = some c) -> ∃ c, (kC cells names acc).lookup x = some c
 | [], _, _, h => h
 | (n, k) :: r, acc, x, h => by
  unfold kC;by_cases hk : (k == NameKind.free) = true
  . rw [if_pos hk];refine mP ?_;rw [lookup_cons]
    cases hy : x == n with
    | true => exact ⟨_, rfl⟩
    | false => exact h
  . rw [if_neg hk]; exact mP h
theorem ki {cells : List (Str × Addr)} : ∀ {names : List (Str × NameKind)} {acc : List (Str × Addr)} {x : Str}, (x, NameKind.free) ∈ names -> ∃ c, (kC cells names acc).lookup x = some c
 | [], _, _, h => by cases h
 | (n, k) :: r, acc, x, h => by
  unfold kC;rcases mem_cons.mp h with e | h
  . cases e;rw [if_pos (by decide)];exact mP ⟨(cells.lookup n).getD 0, by rw [lookup_cons]; simp⟩
  . by_cases hk : (k == NameKind.free) = true
    . rw [if_pos hk]; exact ki h
    . rw [if_neg hk]; exact ki h
theorem nA {scope : Scope} {env : Env} (h : ∀ y ∈ scope.names, y.2 = .free -> ∃ c, env.cells.lookup y.1 = some c) : closureFor scope env = pure (kC env.cells scope.names []) := by
 have key : ∀ (names : List (Str × NameKind)) (acc : List (Str × Addr)), (∀ y ∈ names, y.2 = .free -> ∃ c, env.cells.lookup y.1 = some c) ->
  (forIn names acc fun (x : Str × NameKind) (cs : List (Str × Addr)) => (match x with
   | (name, kind) => if (kind == NameKind.free) = true then do let a <- cellOf env name; pure (ForInStep.yield ((name, a) :: cs)) else pure (ForInStep.yield cs)) : Sem (List (Str × Addr))) = pure (kC env.cells names acc) := by
  intro names
  induction names with
  | nil => intro acc _; rfl
  | cons y r ih =>
   intro acc hy;obtain ⟨n, k⟩ := y;rw [List.forIn_cons];unfold kC;by_cases hk : (k == NameKind.free) = true
   . obtain ⟨c, e⟩ := hy (n, k) mem_cons_self (by simpa using hk);have e1 : cellOf env n = pure c := by unfold cellOf; rw [e]
     simp only [hk, if_true, e1, pure_bind];rw [ih _ fun z hz => hy z (mem_cons_of_mem _ hz), e];rfl
   . simp only [hk, if_false, pure_bind];exact ih _ fun z hz => hy z (mem_cons_of_mem _ hz)
 unfold closureFor;have k := key scope.names [] h
 first
  | (simp only [bind_pure]; exact k)
  | (rw [k]; rfl)
  | exact k
theorem ie {env : Env} {P : NameKind -> Prop} (hP : P .free -> P .cell) : ∀ {names : List (Str × NameKind)} {x : Str} {k : NameKind}, names.lookup x = some k -> P k ->
 ∃ k', (names.map fun (n, k) => if (k == NameKind.free && env.scope.kind == .function && env.kindOf n == some .cell) then (n, NameKind.cell) else (n, k)).lookup x = some k' /\ P k'
 | [], _, _, h, _ => by simp at h
 | (n, k0) :: r, x, k, h, p => by
  have ih := @ie env P hP r x k;show ∃ k', List.lookup x ((if (k0 == NameKind.free && env.scope.kind == .function && env.kindOf n == some .cell) = true then (n, NameKind.cell) else (n, k0)) :: _) = some k' /\ P k'
  cases hx : x == n with
  | true =>
   simp only [lookup_cons, hx] at h;have hk : k0 = k := Option.some.inj h;subst hk;by_cases hc : (k0 == NameKind.free && env.scope.kind == .function && env.kindOf n == some .cell) = true
   . rw [if_pos hc]; simp only [lookup_cons, hx];refine ⟨_, rfl, ?_⟩;have : k0 = .free := by simp at hc; exact hc.1.1
     subst this;exact hP p
   . rw [if_neg hc]; simp only [lookup_cons, hx]; exact ⟨_, rfl, p⟩
  | false =>
   simp only [lookup_cons, hx] at h;by_cases hc : (k0 == NameKind.free && env.scope.kind == .function && env.kindOf n == some .cell) = true
   . rw [if_pos hc]; simp only [lookup_cons, hx]; exact ih h p
   . rw [if_neg hc]; simp only [lookup_cons, hx]; exact ih h p
theorem hE {env : Env} : ∀ {names : List (Str × NameKind)} {x : Str} {k' : NameKind}, (names.map fun (n, k) => if (k == NameKind.free && env.scope.kind == .function && env.kindOf n == some .cell) then (n, NameKind.cell) else (n, k)).lookup x = some k' ->
 ∃ k, (x, k) ∈ names /\ (k' = k \/ k = .free)
 | [], _, _, h => by simp at h
 | (n, k0) :: r, x, k', h => by
  have ih := @hE env r x k';have h' : List.lookup x ((if (k0 == NameKind.free && env.scope.kind == .function && env.kindOf n == some .cell) = true then (n, NameKind.cell) else (n, k0)) :: (r.map fun (n, k) => if (k == NameKind.free && env.scope.kind == .function && env.kindOf n == some .cell) then (n, NameKind.cell) else (n, k))) = some k' := h
  cases hx : x == n with
  | true =>
   have hxn : x = n := by simpa using hx
   subst hxn;by_cases hc : (k0 == NameKind.free && env.scope.kind == .function && env.kindOf x == some .cell) = true
   . have : k0 = .free := by simp at hc; exact hc.1.1
     exact ⟨k0, mem_cons_self, .inr this⟩
   . rw [if_neg hc] at h'; simp only [lookup_cons, hx] at h';cases h';exact ⟨k0, mem_cons_self, .inl rfl⟩
  | false =>
   have h2 : List.lookup x (r.map fun (n, k) => if (k == NameKind.free && env.scope.kind == .function && env.kindOf n == some .cell) then (n, NameKind.cell) else (n, k)) = some k' := by
    by_cases hc : (k0 == NameKind.free && env.scope.kind == .function && env.kindOf n == some .cell) = true
    . rw [if_pos hc] at h'; simp only [lookup_cons, hx] at h'; exact h'
    . rw [if_neg hc] at h'; simp only [lookup_cons, hx] at h'; exact h'
   obtain ⟨k, a, b⟩ := ih h2;exact ⟨k, mem_cons_of_mem _ a, b⟩
def pv (X : Cx) : List Str -> List Nat -> Prop
 | [], [] => True
 | y :: ys, j :: js => (X.N[j]? = some y /\ (X.env.scope.names.lookup y = some .cell \/ X.env.scope.names.lookup y = some .free)) /\ pv X ys js
 | _, _ => False
theorem pv.at {X : Cx} : ∀ {caps : HL} {js : HN}, pv X caps js -> ∀ (k : Nat) y j, caps[k]? = some y -> js[k]? = some j -> X.N[j]? = some y /\ (X.env.scope.names.lookup y = some .cell \/ X.env.scope.names.lookup y = some .free)
 | [], _, _, _, _, _, e, _ => by simp at e
 | _ :: _, [], h, _, _, _, _, _ => by exact False.elim h
 | y :: ys, j :: js, h, 0, _, _, e1, e2 => by simp at e1 e2; subst e1 e2; exact h.1
 | y :: ys, j :: js, h, k + 1, y', j', e1, e2 => h.2.at k y' j' (by simpa using e1) (by simpa using e2)
theorem pv.len {X : Cx} : ∀ {caps : HL} {js : HN}, pv X caps js -> js.length = caps.length
 | [], [], _ => rfl
 | [], _ :: _, h => False.elim h
 | _ :: _, [], h => False.elim h
 | _ :: _, _ :: _, h => by simp [h.2.len]
structure cg (X : Cx) (scope : Scope) (own caps : HL) (js : HN) : Prop where
 kind : scope.kind = .function
 nocell : ∀ y ∈ scope.names, y.2 ≠ .cell
 names : ∀ y ∈ scope.names, y.2 = .local -> scope.names.lookup y.1 = some .local
 nd : (own ++ caps).Nodup
 own : ∀ y ∈ own, scope.names.lookup y = some .local
 capf : ∀ y ∈ caps, (y, NameKind.free) ∈ scope.names /\ scope.names.lookup y = some .free
 capO : pv X caps js
 free : ∀ y ∈ scope.names, y.2 = .free -> y.1 ∈ caps
def fQ (X : Cx) (N' : HL) (scope : Scope) (C : Addr) (s : Shared) (H : Hp) (fp : List Addr) : Cx :=
 { X with N := N', s₀ := s, H₀ := H, env := compEnvC scope (kC X.env.cells scope.names []) C X.env, outer := X.stack, ex := fp, fn := fun _ => false, pn := [], xe := fun _ _ => False }
def bU (js : HN) (σ : St) : St := js.map fun j => (σ[j]?).join
section
variable {X : Cx} {pins : HI} {σ : St} {H H' : Hp} {s : Shared} {scope : Scope} {own caps : HL} {js : HN} {fp : List Addr}
theorem cg.cells (B : cg X scope own caps js) (ok : X.Ok) : ∀ y ∈ scope.names, y.2 = .free -> ∃ c, X.env.cells.lookup y.1 = some c := fun y hy hf => by
 obtain ⟨k, hk⟩ := List.getElem?_of_mem (B.free y hy hf);have hj : k < js.length := by rw [B.capO.len]; exact (List.getElem?_eq_some_iff.mp hk).1
 obtain ⟨_, h⟩ := B.capO.at k y.1 js[k] hk (by simp [hj]);exact ok.has y.1 h
theorem Cf (B : cg X scope own caps js) (I : Inv X pins σ H s) (hf : ∀ b ∈ fp, kM X pins H b) (ho : ∀ b ∈ fp, b < s.heap.objs.size) {h4 : Heap} {tk : Nat}
 (hn : h4.Ns (s.heap.objs.size + 1) (fun _ => none)) (hk : ∀ b o, s.heap.get? b = some o -> h4.get? b = some o)
 (hl : h4.get? s.heap.objs.size = some { cls := .type "list", data := .seq ([] : HF).toArray 0 }) :
 Inv (fQ X (own ++ caps) scope (s.heap.objs.size + 1) s H fp) [] (own.map (fun _ => none) ++ bU js σ) (upd H s.heap.objs.size (.lst [])) { s with heap := h4, toks := tk } := by
 have fresh : H s.heap.objs.size = none := I.hok.fresh (Nat.le_refl _);have freshC : H (s.heap.objs.size + 1) = none := I.hok.fresh (Nat.le_succ _);have hcl := B.cells I.ok;have sub := mn (acc := []) hcl (fun x c e => by simp at e);have ok' : (fQ X (own ++ caps) scope (s.heap.objs.size + 1) s H fp).Ok := by
  refine ⟨I.ok.mod, B.kind, I.ok.glob, I.ok.blt, Nat.le_succ _, fun x y c h1 h2 => I.ok.inj x y c (sub x c h1) (sub y c h2), fun x hx => ?_, fun x c hx => (nomatch hx), I.ok.hd, I.ok.frames, .inl rfl, fun b hb => ⟨?_, fun x c e => ?_⟩, I.bs, Nat.le_trans I.ok.bsz I.sz, fun b o e hb => ?_, fun b hb hs => ?_, I.stack, I.vF⟩
  . have hx' : ∃ k', (scope.names.map fun (n, k) => if (k == NameKind.free && X.env.scope.kind == .function && X.env.kindOf n == some .cell) then (n, NameKind.cell) else (n, k)).lookup x = some k' /\ (k' = .cell \/ k' = .free) := by
     rcases hx with e | e
     . exact ⟨_, e, .inl rfl⟩
     . exact ⟨_, e, .inr rfl⟩
    obtain ⟨k', e, hk'⟩ := hx';obtain ⟨k, hm, q⟩ := hE e;have hfree : k = .free := by
     rcases q with q | q
     . subst q;rcases hk' with z | z
       . exact absurd z (B.nocell _ hm)
       . exact z
     . exact q
    subst hfree;exact ki hm
  . exact Nat.ne_of_lt (Nat.lt_succ_of_lt (ho b hb))
  . exact (hf b hb).2.2.2.2.1 x c (sub x c e)
  . rcases (hf b hb).2.2.2.1 with z | z
    . exact I.ok.noex b o e z
    . rw [(I.ok.bs b o e).1] at z; cases z
  . rcases mem_cons.mp (I.uj b hs) with z | z
    . exact (hf b hb).2.1 z
    . exact (hf b hb).2.2.1 z
 refine ⟨ok', rfl, I.bare, Un.laid hk (Nat.le_refl _) fresh, ⟨_, hn, fun i x v e1 e2 e3 => ?_⟩, fun x c e => ?_, ?_, fun x c e => ?_, fun p hp => absurd (show p ∈ ([] : HI) from hp) (by simp), I.hok.laid hk (Nat.le_refl _) ⟨Nat.zero_le _, [], 0, .nil, hl⟩, ?_⟩
 . have e1 : (own ++ caps)[i]? = some x := e1;have hi : ¬ i < own.length := fun hi => by
    rw [getElem?_append_left (by simpa using hi), getElem?_map] at e2
    cases q : own[i]? with
    | none => rw [q] at e2; cases e2
    | some y => rw [q] at e2; cases e2
   rw [getElem?_append_right (by simpa using hi)] at e2;rw [getElem?_append_right (by simpa using hi)] at e1;rw [length_map] at e2;unfold bU at e2;rw [getElem?_map] at e2
   cases q : js[i - own.length]? with
   | none => rw [q] at e2; cases e2
   | some j =>
    rw [q] at e2;have e2 : (σ[j]?).join = some v := by simpa using e2
    have e2' : σ[j]? = some (some v) := by
     cases z : σ[j]? with
     | none => rw [z] at e2; cases e2
     | some w => rw [z] at e2; simpa using e2
    obtain ⟨c1, c2⟩ := B.capO.at _ x j e1 q;obtain ⟨m, _, hl'⟩ := I.loc;obtain ⟨u, r, lk⟩ := hl' j x v c1 e2' (c2.elim (fun z => .inr (.inl z)) fun z => .inr (.inr z));refine ⟨u, r, ?_⟩;rcases lk with ⟨z, _⟩ | ⟨_, c, ec, cell⟩
    . have z : X.env.scope.names.lookup x = some .local := z;rcases c2 with c2 | c2 <;> (rw [c2] at z; cases z)
    . have hfr := B.capf x (mem_of_getElem? e1);obtain ⟨k', ek, pk⟩ := ie (env := X.env) (P := fun k => k = .cell \/ k = .free) (fun _ => .inl rfl) hfr.2 (.inr rfl);refine .inr ⟨?_, c, ?_, ?_⟩
      . rcases pk with rfl | rfl
        . exact .inl ek
        . exact .inr ek
      . obtain ⟨c', e'⟩ := ki (cells := X.env.cells) (acc := []) hfr.1;have := sub x c' e';rw [ec] at this;cases this;exact e'
      . obtain ⟨oo, ho', hd'⟩ := cell;exact ⟨oo, hk _ _ ho', hd'⟩
 . obtain ⟨v, oo, ho', hd'⟩ := I.cell x c (sub x c e);exact ⟨v, oo, hk _ _ ho', hd'⟩
 . show (upd H s.heap.objs.size (.lst [])) (s.heap.objs.size + 1) = none;rw [ae (Nat.succ_ne_self _)]; exact freshC
 . obtain ⟨v, oo, ho', hd'⟩ := I.cell x c (sub x c e);rw [ae (Nat.ne_of_lt (lt_size ho'))];exact I.freeC x c (sub x c e)
 . show _ = (own ++ caps).length;unfold bU;rw [List.length_append, List.length_append, length_map, length_map, B.capO.len]
theorem Az {C : Addr} {σ' : St} {pl : HI} {s' : Shared} {h' : Heap} (I : Inv X pins σ H s) (hf : ∀ b ∈ fp, kM X pins H b) (I' : Inv (fQ X (own ++ caps) scope C s H fp) pl σ' H' s') (hC : s.heap.objs.size <= C) (hs : Heap.SameBut C s'.heap h') :
 Inv X pins σ H' { s' with heap := h' } := by
 have neC : ∀ b o, s.heap.get? b = some o -> b ≠ C := fun b o e => Nat.ne_of_lt (Nat.lt_of_lt_of_le (lt_size e) hC);have freeC : H' C = none := I'.free;have b' : Un (qg X.stack) fp H H' s.heap s'.heap := I'.base;refine I.FE (s' := { s' with heap := h' }) (ch := fp) I'.os ⟨fun b o e n hb hx => (hs.2 b (neC b o e)).trans (b'.keep b o e n hb hx), fun b o e n hb hx => ?_, b'.free, fun b o e hx => ?_, b'.tups, b'.frzs, b'.tbls⟩ (fun b ob e => ?_) I'.bare fun b hb => ?_
 . obtain ⟨sl, e1⟩ := b'.slot b o e n hb hx;exact ⟨sl, (hs.2 b (neC b o e)).trans e1⟩
 . obtain ⟨o', e1⟩ := b'.there b o e hx;exact ⟨o', (hs.2 b (neC b o e)).trans e1⟩
 . refine (I'.hok b ob e).mq (fun c w' hc q => (hs.2 c ?_).trans q) (fun _ q => q) fun _ _ q => q;rintro rfl;rcases hc with rfl | hc
   . rw [freeC] at e; cases e
   . rw [freeC] at hc; cases hc
 . exact ⟨(hf b hb).2.2.2.1, (hf b hb).2.1, (hf b hb).2.2.2.2.1, (hf b hb).2.2.2.2.2⟩
end
theorem sure {α : Type} {M : Model} {A : Around} {m : Sem α} {P Q : α -> Shared -> Prop} {E : HB} {s : Shared} (h : wpAny M A m P (fun _ _ => False) s) (k : ∀ a s, P a s -> Q a s) : wpAny M A m Q E s := wpAny_mono h k fun _ _ f => f.elim
def CS (X : Cx) (ifs : List Expr) (t : TT) : Prop := ∀ (pins : HI) (s : Shared) (σ : St) (H : Hp) (Q : Bool -> Hp -> Prop), Inv X pins σ H s -> t σ H Q ->
 wpAny (model X.prog X.w) X.A (forIn ifs true fun c r => if r = true then do let ok <- isTrue c X.env (eval c X.env); pure (ForInStep.yield ok) else pure (ForInStep.yield r)) (TP X pins σ Q) X.xe s
theorem Bv {X : Cx} : CS X [] (fun _ H Q => Q true H) := fun pins s σ H Q I h => wpAny_tests_nil ⟨H, I, h⟩
theorem Bf {X : Cx} {c : Expr} {t : TT} (h : PT X c t) : CS X [c] t := fun pins s σ H Q I q => wpAny_tests_one (h pins s σ H Q I q)
def vX (wi : TI) (n : Nat) (js : HN) (g : TG) (tc : Nat -> TT) (te : Nat -> TE) : TE := fun σ H Q => wi σ H fun J H1 => ∀ l, H1 l = none ->
 ∃ W : Nat -> Nat -> List V -> Hp -> Prop, (∃ m, W 0 m [] (upd H1 l (.lst []))) /\ ∀ i m xs H ow, ow.length = n -> W i m xs H -> H l = some (.lst xs) /\
  ((J.stop i H /\ Q (.ref l) H) \/ (J.go i H /\ ∀ x H', J.yld i H x H' -> g x (ow ++ bU js σ) H' fun σ2 H2 => (∃ ow', ow'.length = n /\ σ2 = ow' ++ bU js σ) /\
   tc i σ2 H2 fun b H3 => if b = true then te i σ2 H3 fun y H4 => H4 l = some (.lst xs) /\ xs.length < sizeLine /\ ∃ m', m' < m /\ W (i + 1) m' (xs ++ [y]) (upd H4 l (.lst (xs ++ [y])))
    else ∃ m', m' < m /\ W (i + 1) m' xs H3))
def CompEnd (X : Cx) (pins : HI) (σ : St) (Q : VK) (acc : Value) (C : Addr) (s' : Shared) : Prop :=
 ∃ v H', Inv X pins σ H' s' /\ RelV v acc /\ Q v H' /\ (∃ m, s'.heap.Ns C m) /\ kM X pins H' C
theorem oJ {X : Cx} {elt tg iter : Expr} {ifs : List Expr} {scope : Scope} {pos : Pos} {own caps : HL} {js : HN} {g : TG} {tc : Nat -> TT} {te : Nat -> TE} (hc : X.calm = true) (B : cg X scope own caps js)
 (hg : ∀ C s H fp, PG (fQ X (own ++ caps) scope C s H fp) tg g) (ht : ∀ C s H fp i, CS (fQ X (own ++ caps) scope C s H fp) ifs (tc i)) (he : ∀ C s H fp i, PE (fQ X (own ++ caps) scope C s H fp) elt (te i))
 {pins : HI} {σ : St} {Q : VK} {itv : Value} {s2 : Shared} {RR : Value -> Addr -> Result -> Shared -> Prop} (hRR : ∀ acc C s', CompEnd X pins σ Q acc C s' -> RR acc C (.ok .next) s')
 (h2 : Gi X pins σ tg (fun J H1 => ∀ l, H1 l = none ->
  ∃ W : Nat -> Nat -> List V -> Hp -> Prop, (∃ m, W 0 m [] (upd H1 l (.lst []))) /\ ∀ i m xs H ow, ow.length = own.length -> W i m xs H -> H l = some (.lst xs) /\
   ((J.stop i H /\ Q (.ref l) H) \/ (J.go i H /\ ∀ x H', J.yld i H x H' -> g x (ow ++ bU js σ) H' fun σ2 H2 => (∃ ow', ow'.length = own.length /\ σ2 = ow' ++ bU js σ) /\
    tc i σ2 H2 fun b H3 => if b = true then te i σ2 H3 fun y H4 => H4 l = some (.lst xs) /\ xs.length < sizeLine /\ ∃ m', m' < m /\ W (i + 1) m' (xs ++ [y]) (upd H4 l (.lst (xs ++ [y])))
     else ∃ m', m' < m /\ W (i + 1) m' xs H3))) itv s2) :
 wpAny (model X.prog X.w) X.A (newList []) (fun acc s₃ => wpAny (model X.prog X.w) X.A (newFunctionEnv scope X.env.globals (kC X.env.cells scope.names []) [] X.env.qual none .none (some X.env)) (fun cenv s₄ =>
  codeAny (model X.prog X.w) X.A (.compStart (.ListComp elt [⟨tg, iter, ifs, 0⟩] scope pos) 0 itv acc { cenv with scope := relabel scope X.env }) (RR acc cenv.locals) s₄) X.xe s₃) X.xe s2 := by
 obtain ⟨it, fp, tn, J, H2, e, I2, TT, st2, f2, q⟩ := h2;subst e;have fresh : H2 s2.heap.objs.size = none := I2.hok.fresh (Nat.le_refl _);obtain ⟨W, ⟨m0, w0⟩, turn⟩ := q s2.heap.objs.size fresh;have hlt : ∀ b ∈ fp, b < s2.heap.objs.size := fun b hb => let ⟨o, e, _⟩ := TT.obj _ _ st2 b hb; lt_size e;refine wpAny_newObj_type (wpAny_newFunctionEnv B.nocell (by intro y hy; simp at hy) (fun h₁ hns₁ hsb₁ => ?_) B.kind);dsimp only at hns₁ hsb₁ ⊢;generalize hH2 : s2.heap.push { cls := .type "list", dict := none, data := .seq ([] : HF).toArray } = H3 at hns₁ hsb₁ ⊢;have hC : H3.objs.size = s2.heap.objs.size + 1 := by rw [<- hH2, Heap.size_push]
 have old : ∀ b o, s2.heap.get? b = some o -> h₁.get? b = some o := fun b o e => hsb₁.extBut b o (by rw [hC]; exact Nat.ne_of_lt (Nat.lt_succ_of_lt (lt_size e))) (get?_push_of_some _ (hH2 ▸ get?_push_of_some _ e));have hacc : h₁.get? s2.heap.objs.size = some { cls := .type "list", data := .seq ([] : HF).toArray 0 } :=
  hsb₁.extBut _ _ (by rw [hC]; exact Nat.ne_of_lt (Nat.lt_succ_self _)) (get?_push_of_some _ (hH2 ▸ get?_push_size _ rfl))
 have hns : h₁.Ns (s2.heap.objs.size + 1) (fun _ => none) := by rw [<- hC]; exact hns₁
 have I4 : ∀ tk, Inv (fQ X (own ++ caps) scope (s2.heap.objs.size + 1) s2 H2 fp) [] (own.map (fun _ => none) ++ bU js σ) (upd H2 s2.heap.objs.size (.lst [])) { s2 with heap := h₁, toks := tk } := fun tk => Cf B I2 f2 hlt hns old hacc;rw [hC]
 -- what stays of the iterator
 have stat : ∀ {H' : Hp}, (∀ b ∈ fp, H' b = none) -> ∀ b ∈ fp, kM (fQ X (own ++ caps) scope (s2.heap.objs.size + 1) s2 H2 fp) [] H' b := fun {H'} hn b hb => by
  have F := (I4 0).ok;exact ⟨hn b hb, (F.exf b hb).1, F.exfs b hb, .inl hb, (F.exf b hb).2, fun p hp => absurd (show p ∈ ([] : HI) from hp) (by simp)⟩
 have loop : ∀ s3 : Shared, s3 = { s2 with heap := h₁, toks := s2.toks + ([] : List (Str × Value)).length } ->
  codeAny (model X.prog X.w) X.A (.compLoop (.ListComp elt [⟨tg, iter, ifs, 0⟩] scope pos) 0 (.ref it) (.ref s2.heap.objs.size) (compEnvC scope (kC X.env.cells scope.names []) (s2.heap.objs.size + 1) X.env))
   (RR (.ref s2.heap.objs.size) (s2.heap.objs.size + 1)) s3 := by
  rintro s3 rfl;refine codeAny_loop rfl (fun n s' => ∃ i xs ow H', ow.length = own.length /\ Inv (fQ X (own ++ caps) scope (s2.heap.objs.size + 1) s2 H2 fp) [] (ow ++ bU js σ) H' s' /\ tn i s'.heap /\ (∀ b ∈ fp, H' b = none) /\ W i n xs H') ?_ m0
   ⟨0, [], own.map (fun _ => none), _, by simp, I4 _, TT.keep _ _ _ st2 fun b _ o e => old b o e, fun b hb => by rw [ae (Nat.ne_of_lt (hlt b hb))]; exact (f2 b hb).1, w0⟩
  rintro n s4 ⟨i, xs, ow, H4, how, I5, st4, fr4, w4⟩;obtain ⟨hl4, q4⟩ := turn i n xs H4 ow how w4;refine wpAny_noted ?_;refine cast (congrArg (fun m => wpAny (model X.prog X.w) X.A m _ _ s4) (compTurn_list _ _ _ _ _ _ _ _ _).symm) ?_;refine wpAny_bind (wpAny_standAt (wpAny_bind ?_));rcases q4 with ⟨stop, qn⟩ | ⟨go, step⟩
  . refine sure (TT.done (fQ X (own ++ caps) scope (s2.heap.objs.size + 1) s2 H2 fp) rfl rfl rfl hc i [] s4 _ H4 _ I5 (stat fr4) st4 stop) fun r s6 ⟨hr, I6⟩ => ?_;subst hr;obtain ⟨m, hm, _⟩ := I6.loc;refine wpAny_pure (hRR _ _ _ ⟨.ref s2.heap.objs.size, H4, Az I2 f2 I6 (Nat.le_succ _) (Heap.SameBut.refl ..), rfl, qn, ⟨m, hm⟩, I2.ou (Nat.le_succ _) I6.free⟩)
  . refine sure (TT.item (fQ X (own ++ caps) scope (s2.heap.objs.size + 1) s2 H2 fp) rfl rfl rfl hc i [] s4 _ H4 (fun _ _ => False) I5 (stat fr4) st4 go) fun r s6 ⟨u, hr, h6⟩ => ?_;subst hr;refine wpAny_bind (sure h6 fun _ s7 ⟨x, H7, I7, r7, y7, st7, fr7⟩ => ?_);have I7' := I7.pinned (stat fr7) (TT.obj _ _ st7);refine wpAny_bind (sure (hg _ _ _ _ _ s7 _ H7 x u _ I7' r7 (step x H7 y7)) fun _ s8 ⟨σ8, H8, I8, ⟨ow', how', eσ⟩, q8⟩ => ?_);subst eσ;refine wpAny_bind (sure (ht _ _ _ _ i _ s8 _ H8 _ I8 q8) fun b s9 ⟨H9, I9, q9⟩ => ?_);have again : ∀ {H10 : Hp} {s10 : Shared}, Inv (fQ X (own ++ caps) scope (s2.heap.objs.size + 1) s2 H2 fp) ([] ++ mZ fp s7.heap) (ow' ++ bU js σ) H10 s10 -> tn (i + 1) s10.heap /\ ∀ b ∈ fp, H10 b = none := fun {H10 s10} I10 => by
     refine ⟨TT.keep _ _ _ st7 fun b hb o e => (I10.pin (b, o) (mem_append_right _ (mem_append_right _ (fT hb e)))).1, fun b hb => ?_⟩;obtain ⟨o, e, d⟩ := TT.obj _ _ st7 b hb;exact (I10.pin (b, o) (mem_append_right _ (mem_append_right _ (fT hb e)))).2.1
    cases b with
    | false =>
     rw [if_neg Bool.false_ne_true] at q9;obtain ⟨m', hm, w9⟩ := q9;exact wpAny_pure ⟨rfl, m', hm, i + 1, xs, ow', H9, how', I9.iq, (again I9).1, (again I9).2, w9⟩
    | true =>
     rw [if_pos rfl] at q9;refine wpAny_bind (wpAny_bind (sure (he _ _ _ _ i _ s9 _ H9 _ I9 q9) fun y s10 ⟨z, H10, I10, r10, hl10, hz, m', hm, w10⟩ => wpAny_bind ?_));refine sure (cz _ s10 _ H10 (.ref s2.heap.objs.size) [z] (.ref s2.heap.objs.size) [y] (fun _ H' => H' = upd H10 s2.heap.objs.size (.lst (xs ++ [z]))) I10 rfl (.cons r10 .nil) ⟨_, xs, z, rfl, rfl, hl10, hz, rfl⟩) fun _ s11 ⟨_, H11, I11, _, e11⟩ => ?_;subst e11;exact wpAny_pure (wpAny_pure ⟨rfl, m', hm, i + 1, xs ++ [z], ow', _, how', I11.iq, (again I11).1, (again I11).2, w10⟩)
 exact codeAny_compStart_list (loop _ rfl) (TT.self _ 0 _ _ _ (TT.keep _ _ _ st2 fun b _ o e => old b o e) (loop _ rfl))
theorem away {X : Cx} {pins : HI} {σ : St} {H : Hp} {s : Shared} {C : Addr} {h' : Heap} (I : Inv X pins σ H s) (f : kM X pins H C) (hs : Heap.SameBut C s.heap h') : Inv X pins σ H { s with heap := h' } :=
 I.turned (t' := s.toks) (fun b o hb e => (hs.2 b hb).trans e) f.1 f.2.1 f.2.2.2.1 f.2.2.2.2.1 f.2.2.2.2.2
theorem uR {X : Cx} {elt tg iter : Expr} {ifs : List Expr} {scope : Scope} {pos : Pos} {wi : TI} {own caps : HL} {js : HN} {g : TG} {tc : Nat -> TT} {te : Nat -> TE} (hc : X.calm = true) (B : cg X scope own caps js) (hi : PI X tg iter wi)
 (hg : ∀ C s H fp, PG (fQ X (own ++ caps) scope C s H fp) tg g) (ht : ∀ C s H fp i, CS (fQ X (own ++ caps) scope C s H fp) ifs (tc i)) (he : ∀ C s H fp i, PE (fQ X (own ++ caps) scope C s H fp) elt (te i))
 (hs : ∀ x, foldedSetIterable iter X.env x = pure x := by intro _; rfl) : PE X (.ListComp elt [⟨tg, iter, ifs, 0⟩] scope pos) (vX wi own.length js g tc te) := by
 intro pins s σ H Q I h;rw [eval_ListComp];refine wpAny_comprehension_free (use := none) rfl hs (nA (B.cells I.ok)) B.kind B.names (cy (hi pins s σ H _ I h) fun v s1 h1 => cy h1 fun itv s2 h2 => ?_);refine oJ (RR := fun acc C => compPost (model X.prog X.w) X.A X.xe none (EP X pins σ Q) acc C) hc B hg ht he (fun acc C s' ⟨v, H', I', r, q, ⟨m, hm⟩, f⟩ => ?_) h2;exact ⟨m, hm, fun h' hs' => ⟨v, H', away I' f hs', r, q⟩⟩
theorem ve {X : Cx} {elt tg iter : Expr} {ifs : List Expr} {scope : Scope} {pos spos py : Pos} {wi : TI} {own caps : HL} {js : HN} {g : TG} {tc : Nat -> TT} {te : Nat -> TE} {y : Str} {k : Nat} (hN : X.N.Nodup) (hk : X.N[k]? = some y) (hy : Loc X.env.scope y)
 (hc : X.calm = true) (B : cg X scope own caps js) (hi : PI X tg iter wi)
 (hg : ∀ C s H fp, PG (fQ X (own ++ caps) scope C s H fp) tg g) (ht : ∀ C s H fp i, CS (fQ X (own ++ caps) scope C s H fp) ifs (tc i)) (he : ∀ C s H fp i, PE (fQ X (own ++ caps) scope C s H fp) elt (te i))
 (hsw : swapsWith (.ListComp elt [⟨tg, iter, ifs, 0⟩] scope pos) (some (.Name y py)) spos.line X.env = pure true) (hf : X.fn y = true \/ X.env.scope.names.lookup y = some .local)
 (hs : ∀ x, foldedSetIterable iter X.env x = pure x := by intro _; rfl) : PS X (.Assign [.Name y py] (.ListComp elt [⟨tg, iter, ifs, 0⟩] scope pos) spos) (DK (vX wi own.length js g tc te) (eE k)) := by
 intro pins s σ H D I h;rw [exec_Assign_Name_used _ _ _ _ hsw];refine wpAny_bind (wpAny_standAt (wpAny_bind ?_));show wpAny _ X.A (do let _ <- comprehension (.ListComp elt [⟨tg, iter, ifs, 0⟩] scope pos) scope X.env _ (newList []) false (eval iter X.env) (some (assign (.Name y py) X.env))) _ _ s;refine wpAny_bind (wpAny_mono (wpAny_comprehension_free (use := some (assign (.Name y py) X.env)) (Q := fun _ s' => SP X pins D .next s') rfl hs (nA (B.cells I.ok)) B.kind B.names
  (cy (hi pins s σ H _ I h) fun v s1 h1 => cy h1 fun itv s2 h2 => ?_)) (fun _ s' hq => wpAny_pure (wpAny_pure hq)) fun _ _ e => e)
 refine oJ (RR := fun acc C => compPost (model X.prog X.w) X.A X.xe (some (assign (.Name y py) X.env)) (fun _ s' => SP X pins D .next s') acc C) (pins := pins) (σ := σ) (Q := fun v H' => D.nx (σ.set k (some v)) H') hc B hg ht he (fun acc C s' ⟨v, H', I', r, q, ⟨m, hm⟩, f⟩ => ?_) h2;show wpAny _ X.A (assign (.Name y py) X.env acc) _ _ _;refine wpAny_assign_Name (oT I' hN hk hy r (fun s'' I'' ⟨a, sb, ha⟩ => ?_) hf);have hCa : C ≠ a := by
  rcases ha with rfl | ha
  . exact f.2.1
  . exact fun z => f.2.2.2.2.1 y a ha z.symm
 exact ⟨m, hm.sameBut sb hCa, fun h' hs' => ⟨_, H', away I'' f hs', q⟩⟩
structure z9 (K : Frag) (J : It) (vs : List V) (cS ds : List D) : Prop where
 go : ∀ (Z : aE) H, Z.Open H -> aH K H Z cS vs -> ∀ (i : Nat) d, ds[i]? = some d -> J.go i H /\ ∀ x H2, J.yld i H x H2 -> au H H2 /\ In K H2 Z d x
 stop : ∀ (Z : aE) H, Z.Open H -> aH K H Z cS vs -> J.stop ds.length H
def Ei (K : Frag) (m : Bool) (ρ : List (Option D)) (ds : List D) : TI := fun σ H R => ∃ Z : aE, Z.Open H /\ bZ K H Z σ ρ /\
 ∀ J H' vs cS, au H H' -> aH K H' (out m Z H) cS vs -> z9 K J vs cS ds -> R J H'
def IT (X : Cx) (tg : Expr) (m : Bool) (ρ : List (Option D)) (iter : Expr) (ds : List D) : Prop := PI X tg iter (Ei X.K m ρ ds)
theorem PI.mono {X : Cx} {tg iter : Expr} {t t' : TI} (h : PI X tg iter t) (k : ∀ σ H R, t' σ H R -> t σ H R) : PI X tg iter t' := fun pins s σ H R I q => h pins s σ H R I (k σ H R q)
section
variable {X : Cx} {ρ : List (Option D)} {m m1 m2 : Bool} {tg e a b : Expr} {ds : List D} {d : D} {pos p : Pos}
theorem bc (h : E X m ρ e (.lst ds)) : IT X tg m ρ e ds := PI.mono (Bl h) fun σ H R z0 => bo z0 fun Z oz en k => ⟨Z, oz, en, fun v H1 s1 i1 => by
 obtain ⟨a, xs, rfl, l, j⟩ := av.mp i1;refine ⟨a, rfl, ⟨xs, l.sq⟩, k _ H1 [.ref a] [.lst ds] s1 (aH.one i1) ⟨fun Z2 H2 o2 j2 i d e => ?_, fun Z2 H2 o2 j2 => ?_⟩⟩
 . obtain ⟨w, r, e1, j3, j4⟩ := ar.mp j2;cases e1;obtain ⟨a', ys, e2, l2, j5⟩ := av.mp j3;cases e2;obtain ⟨v, e3, iv⟩ := j5.get e;refine ⟨⟨ys, v, l2.sq, e3⟩, fun x H3 ⟨e4, y⟩ => ?_⟩;subst e4;have := y ys l2.sq;rw [e3] at this;cases this;exact ⟨au.refl _, iv⟩
 . obtain ⟨w, r, e1, j3, j4⟩ := ar.mp j2;cases e1;obtain ⟨a', ys, e2, l2, j5⟩ := av.mp j3;cases e2;exact ⟨ys, l2.sq, Nat.le_of_eq j5.length.symm⟩⟩
def bE (lo : Int) (n : Nat) : List D := (List.range n).map fun i => D.int (lo + (i : Nat))
theorem gm {lo : Int} {n i : Nat} {d : D} (h : (bE lo n)[i]? = some d) : i < n /\ d = .int (lo + i) := by
 unfold bE at h;rw [getElem?_map] at h;by_cases hi : i < n
 . rw [List.getElem?_range hi] at h;exact ⟨hi, by simpa using h.symm⟩
 . rw [List.getElem?_eq_none (by simpa using hi)] at h;cases h
theorem bp {lo : Int} {n : Nat} : (bE lo n).length = n := by simp [bE]
theorem qT {K : Frag} (lo : Int) (n : Nat) : z9 K (FY lo n) [] [] (bE lo n) :=
 ⟨fun Z H _ _ i d e => by
  obtain ⟨hi, rfl⟩ := gm e;refine ⟨hi, fun x H2 ⟨e1, e2⟩ => ?_⟩;subst e1 e2;exact ⟨au.refl _, ao.mpr rfl⟩, fun Z H _ _ => by rw [bp]; exact Nat.le_refl n⟩
theorem kB {n : Int} (h : E X m1 ρ a (.int n)) (hn : n < 2 ^ 62) (hn2 : -(2 ^ 62) <= n) (hm : X.mg "range" = none) (hg : Gl X "range" := by rfl) (hs : starEach [a] X.env = [(false, eval a X.env)] := by rfl) :
 IT X tg m ρ (.Call (.Name "range" p) [a] [] pos) (bE 0 n.toNat) :=
 PI.mono (wW hg hm (aK h bu (by rw [hs]; rfl)) hs) fun σ H R z0 => bo z0 fun Z oz en k => ⟨Z, oz, en, fun v H1 s1 i1 => ⟨n, by rw [ao.mp (i1.plain oz)], hn2, hn, k _ H1 [] [] s1 (aC.mpr rfl) (qT 0 n.toNat)⟩⟩
def E7 (X : Cx) (ρ : List (Option D)) (ifs : List Expr) (b : Bool) : Prop := CS X ifs (x6 X.K ρ b)
theorem t5 : E7 X ρ [] true := fun pins s σ H Q I z0 => bo z0 fun Z oz en k => Bv pins s σ H Q I (k H (au.refl H))
theorem Am {p : Bool} (h : T X ρ e p) : E7 X ρ [e] p := Bf h
def eM (js : HN) (ρ : List (Option D)) : List (Option D) := js.map fun j => (ρ[j]?).join
theorem jw {K : Frag} {H : Hp} {Z : aE} {σ : St} {js : HN} (en : bZ K H Z σ ρ) {ow : St} {ov : List (Option D)} (hl : ow.length = ov.length) (h : ∀ (i : Nat) d, ov[i]? = some (some d) -> ∃ v, ow[i]? = some (some v) /\ In K H Z d v) :
 bZ K H Z (ow ++ bU js σ) (ov ++ eM js ρ) := fun i d e => by
 by_cases hi : i < ov.length
 . rw [getElem?_append_left hi] at e;rw [getElem?_append_left (by omega)];exact let ⟨v, a, b⟩ := h i d e; ⟨v, a, b.top⟩
 . rw [getElem?_append_right (by omega)] at e;rw [getElem?_append_right (by omega), hl];unfold eM at e;unfold bU;rw [getElem?_map] at e ⊢
   cases q : js[i - ov.length]? with
   | none => rw [q] at e; cases e
   | some j =>
    rw [q] at e;have e : (ρ[j]?).join = some d := by simpa using e
    have e' : ρ[j]? = some (some d) := by
     cases z : ρ[j]? with
     | none => rw [z] at e; cases e
     | some w => rw [z] at e; simpa using e
    obtain ⟨v, a, b⟩ := en j d e';exact ⟨v, by simp [a], b⟩
def Hh (K : Frag) (js : HN) (ρ : List (Option D)) (ds : List D) (p : D -> Bool) (i : Nat) : TT := fun σ H Q => ∃ d, ds[i]? = some d /\ x6 K ([some d] ++ eM js ρ) (p d) σ H Q
def G1 (K : Frag) (js : HN) (ρ : List (Option D)) (ds : List D) (p : D -> Bool) (f : D -> D) (me : Bool) (i : Nat) : TE := fun σ H Q => ∃ d, ds[i]? = some d /\ p d = true /\ tE K me ([some d] ++ eM js ρ) (f d) σ H Q
theorem m7 {js : HN} {me : Bool} (p : D -> Bool) (f : D -> D) (hz : ds.length <= sizeLine) (hm : m = true -> me = true \/ ∀ d ∈ ds, (f d).flat = true) (σ : St) (H : Hp) (Q : VK) (h : tE X.K m ρ (.lst ((ds.filter p).map f)) σ H Q) :
 vX (Ei X.K m1 ρ ds) 1 js (eE 0) (Hh X.K js ρ ds p) (G1 X.K js ρ ds p f me) σ H Q := by
 obtain ⟨Z, oz, en, k⟩ := h;refine ⟨Z, oz, en, fun J H1 vs cS s1 i1 Y l hl => ?_⟩;have hlH : H l = none := s1.free hl
 -- all zones without l
 have noL : ∀ {ds : List D} {vs : List V} {Z' : aE} {Ha Hb : Hp}, Ha l = none -> au Ha Hb -> aH X.K Ha Z' ds vs -> aH X.K Hb ⟨Z'.m, fun a => Z'.S a /\ a ≠ l⟩ ds vs := fun {ds vs Z' Ha Hb} ha sa h => aH.carry (Z' := ⟨Z'.m, fun a => Z'.S a /\ a ≠ l⟩) (Carry.of sa (fun a zs e z => ⟨z, aw e ha⟩) fun m => m) h;have noL1 : ∀ {d : D} {v : V} {Z' : aE} {Ha Hb : Hp}, Ha l = none -> au Ha Hb -> In X.K Ha Z' d v -> In X.K Hb ⟨Z'.m, fun a => Z'.S a /\ a ≠ l⟩ d v := fun {d v Z' Ha Hb} ha sa h => In.carry (Z' := ⟨Z'.m, fun a => Z'.S a /\ a ≠ l⟩) (Carry.of sa (fun a zs e z => ⟨z, aw e ha⟩) fun m => m) h;refine ⟨fun i n xs H' => n = ds.length - i /\ i <= ds.length /\ au H1 H' /\ H' l = some (.lst xs) /\ xs.length <= i /\ aH X.K H' ⟨(out m Z H).m, fun a => (out m Z H).S a /\ a ≠ l⟩ (((ds.take i).filter p).map f) xs, ⟨ds.length, by simp, Nat.zero_le _, az hl, ak, Nat.zero_le _, by simp; exact aC.mpr rfl⟩, ?_⟩;rintro i n xs H' ow how ⟨rfl, hi', s1', hl', hxi, jx⟩;refine ⟨hl', ?_⟩;have srcsZ : aH X.K H1 Z cS vs := by
  cases m1
  . exact i1
  . exact i1.up oz
 let Zl : aE := ⟨Z.m, fun a => Z.S a /\ a ≠ l⟩
 have opl : ∀ {Ha : Hp} {o : HO}, au H Ha -> Ha l = some o -> Zl.Open Ha := fun sa e => ⟨fun a ha => ⟨oz.op a (sa.free ha), by rintro rfl; rw [e] at ha; cases ha⟩, sa.tabs oz.tb⟩
 by_cases hlt : i < ds.length
 . have hd : ds[i]? = some ds[i] := by simp [hlt]
   obtain ⟨go, yl⟩ := Y.go Zl H' (opl (s1.trans s1') hl') (noL hl s1' srcsZ) i ds[i] hd;refine .inr ⟨go, fun y H2 hy => ?_⟩;obtain ⟨s2, iy⟩ := yl y H2 hy;have hl2 : H2 l = some (.lst xs) := s2.at hl';have sH2 : au H H2 := (s1.trans s1').trans s2;obtain ⟨w, rfl⟩ : ∃ w, ow = [w] := by
    match ow, how with
    | [w], _ => exact ⟨w, rfl⟩
   have en2 : bZ X.K H2 Zl ([some y] ++ bU js σ) ([some ds[i]] ++ eM js ρ) := jw (fun i d e => let ⟨v, a, b⟩ := en i d e; ⟨v, a, nX.carry (Z' := Zl) (Carry.of sH2 (fun a zs e z => ⟨z, aw e hlH⟩) fun m => m) b⟩) rfl fun i d e => by
    match i, e with
    | 0, e => cases e; exact ⟨y, rfl, iy⟩
   refine ⟨⟨[some y], rfl, rfl⟩, ds[i], hd, Zl, opl sH2 hl2, en2, fun H3 s3 => ?_⟩;have hl3 : H3 l = some (.lst xs) := s3.at hl2;have st : (ds.take (i + 1)).filter p = (ds.take i).filter p ++ (if p ds[i] then [ds[i]] else []) := take_succ_filter p ds i ds[i] hd
   cases hp : p ds[i] with
   | false =>
    refine mV ?_;refine ⟨ds.length - (i + 1), by omega, rfl, hlt, (s1'.trans s2).trans s3, hl3, by omega, ?_⟩;rw [st, hp];simp only [Bool.false_eq_true, if_false, append_nil];exact jx.same (s2.trans s3)
   | true =>
    refine nG ?_;refine ⟨ds[i], hd, hp, Zl, opl (sH2.trans s3) hl3, en2.same s3, fun v H4 s4 iv => ?_⟩;have hl4 : H4 l = some (.lst xs) := s4.at hl3;refine ⟨hl4, by omega, ds.length - (i + 1), by omega, rfl, hlt, ((s1'.trans s2).trans (s3.trans s4)).write hl hl4, ak, by rw [List.length_append]; simp; omega, ?_⟩
    . rw [st, hp];simp only [if_true, map_append, map_cons, map_nil];have n : ¬ (⟨(out m Z H).m, fun a => (out m Z H).S a /\ a ≠ l⟩ : aE).S l := fun z => z.2 rfl;refine aH.append ((jx.same (s2.trans (s3.trans s4))).carry (.write hl4 n)) (aH.one ?_);refine In.carry (.write hl4 n) ?_
      cases m with
      | false => exact iv.plain (opl (sH2.trans s3) hl3)
      | true =>
       rcases hm rfl with h | h
       . subst h;exact In.carry (Z := nw H3) (Z' := ⟨true, fun a => H a = none /\ a ≠ l⟩) ⟨fun a zs e z => ⟨e, (sH2.trans s3).free z, by rintro rfl; have z : H3 a = none := z; rw [hl3] at z; cases z⟩, fun m => Dd m, fun _ _ e => e⟩ iv
       . exact iv.ef (h _ (getElem_mem hlt))
 . have e : i = ds.length := by omega
   subst e;refine .inl ⟨Y.stop Zl H' (opl (s1.trans s1') hl') (noL hl s1' srcsZ), k (.ref l) H' (s1.trans s1') (av.mpr ⟨l, xs, rfl, .inl ⟨hl', ?_⟩, ?_⟩)⟩
   . cases m
     . exact oz l hlH
     . exact hlH
   . rw [take_length] at jx;exact aH.carry (Z := ⟨(out m Z H).m, fun a => (out m Z H).S a /\ a ≠ l⟩) (Z' := out m Z H) (Carry.of (au.refl H') (fun a zs e z => And.left z) fun m => m) jx
structure EC (X : Cx) (m : Bool) (ρ : List (Option D)) (e : Expr) (d : D) : Prop where
 val : E X m ρ e d
 s : ∀ (y : Str) (k : Nat) (spos py : Pos), X.N.Nodup -> X.N[k]? = some y -> Loc X.env.scope y -> swapsWith e (some (.Name y py)) spos.line X.env = pure true -> (X.fn y = true \/ X.env.scope.names.lookup y = some .local) -> PS X (.Assign [.Name y py] e spos) (DK (tE X.K m ρ d) (eE k))
theorem EC.cast {d' : D} (h : EC X m ρ e d) (q : d = d') : EC X m ρ e d' := q ▸ h
theorem PS.CH {X : Cx} {st : Stmt} {t t' : TS} (h : PS X st t) (k : ∀ Q σ H, t' Q σ H -> t Q σ H) : PS X st t' := fun pins s σ H Q I q => h pins s σ H Q I (k Q σ H q)
theorem vV {elt iter : Expr} {x : Str} {px : Pos} {ifs : List Expr} {scope : Scope} {me : Bool} (caps : HL) (js : HN) (p : D -> Bool) (f : D -> D) (hi : IT X (.Name x px) m1 ρ iter ds)
 (ht : ∀ C s H fp d, d ∈ ds -> E7 (fQ X ([x] ++ caps) scope C s H fp) ([some d] ++ eM js ρ) ifs (p d)) (he : ∀ C s H fp d, d ∈ ds -> p d = true -> E (fQ X ([x] ++ caps) scope C s H fp) me ([some d] ++ eM js ρ) elt (f d))
 (hz : ds.length <= sizeLine) (hm : m = true -> me = true \/ ∀ d ∈ ds, (f d).flat = true := by intro h; first | exact .inl h | cases h) (hc : X.calm = true := by rfl)
 (B : cg X scope [x] caps js := by exact ⟨rfl, by decide, by decide, by decide, by decide, by decide, by repeat (first | exact trivial | refine ⟨⟨rfl, by first | exact .inl rfl | exact .inr rfl⟩, ?_⟩), by decide⟩)
 (hs : ∀ x, foldedSetIterable iter X.env x = pure x := by intro _; rfl) : EC X m ρ (.ListComp elt [⟨.Name x px, iter, ifs, 0⟩] scope pos) (.lst ((ds.filter p).map f)) := by
 have hg : ∀ C s H fp, PG (fQ X ([x] ++ caps) scope C s H fp) (.Name x px) (eE 0) := fun C s H fp => eG (i := 0) B.nd rfl (.inl (lookup_relabel_local (B.own x (by simp)))) (.inr (lookup_relabel_local (B.own x (by simp))));have ht' : ∀ C s H fp i, CS (fQ X ([x] ++ caps) scope C s H fp) ifs (Hh X.K js ρ ds p i) := fun C s H fp i pins s' σ H' Q I h => by
  obtain ⟨d, hd, h⟩ := h;exact ht C s H fp d (mem_of_getElem? hd) pins s' σ H' Q I h
 have he' : ∀ C s H fp i, PE (fQ X ([x] ++ caps) scope C s H fp) elt (G1 X.K js ρ ds p f me i) := fun C s H fp i pins s' σ H' Q I h => by
  obtain ⟨d, hd, hp, h⟩ := h;exact he C s H fp d (mem_of_getElem? hd) hp pins s' σ H' Q I h
 refine ⟨PE.mono (uR (own := [x]) (caps := caps) hc B hi hg ht' he' hs) fun σ H Q h => m7 p f hz hm σ H Q h, fun y k spos py hN hk hy hsw hf => ?_⟩;exact PS.CH (ve (own := [x]) (caps := caps) hN hk hy hc B hi hg ht' he' hsw hf hs) fun Q σ H h => m7 p f hz hm σ H _ h
theorem ub {elt iter : Expr} {x : Str} {px : Pos} {ifs : List Expr} {scope : Scope} {me : Bool} (caps : HL) (js : HN) (p : D -> Bool) (f : D -> D) (hi : IT X (.Name x px) m1 ρ iter ds)
 (ht : ∀ C s H fp d, d ∈ ds -> E7 (fQ X ([x] ++ caps) scope C s H fp) ([some d] ++ eM js ρ) ifs (p d)) (he : ∀ C s H fp d, d ∈ ds -> p d = true -> E (fQ X ([x] ++ caps) scope C s H fp) me ([some d] ++ eM js ρ) elt (f d))
 (hz : ds.length <= sizeLine) (hm : m = true -> me = true \/ ∀ d ∈ ds, (f d).flat = true := by intro h; first | exact .inl h | cases h) (hc : X.calm = true := by rfl)
 (B : cg X scope [x] caps js := by exact ⟨rfl, by decide, by decide, by decide, by decide, by decide, by repeat (first | exact trivial | refine ⟨⟨rfl, by first | exact .inl rfl | exact .inr rfl⟩, ?_⟩), by decide⟩)
 (hs : ∀ x, foldedSetIterable iter X.env x = pure x := by intro _; rfl) : E X m ρ (.ListComp elt [⟨.Name x px, iter, ifs, 0⟩] scope pos) (.lst ((ds.filter p).map f)) := (vV caps js p f hi ht he hz hm hc B hs).val
theorem uE {elt iter : Expr} {x : Str} {px : Pos} {scope : Scope} {me : Bool} (caps : HL) (js : HN) (f : D -> D) (hi : IT X (.Name x px) m1 ρ iter ds)
 (he : ∀ C s H fp d, d ∈ ds -> E (fQ X ([x] ++ caps) scope C s H fp) me ([some d] ++ eM js ρ) elt (f d)) (hz : ds.length <= sizeLine) (hm : m = true -> me = true \/ ∀ d ∈ ds, (f d).flat = true := by intro h; first | exact .inl h | cases h) (hc : X.calm = true := by rfl)
 (B : cg X scope [x] caps js := by exact ⟨rfl, by decide, by decide, by decide, by decide, by decide, by repeat (first | exact trivial | refine ⟨⟨rfl, by first | exact .inl rfl | exact .inr rfl⟩, ?_⟩), by decide⟩)
 (hs : ∀ x, foldedSetIterable iter X.env x = pure x := by intro _; rfl) : EC X m ρ (.ListComp elt [⟨.Name x px, iter, [], 0⟩] scope pos) (.lst (ds.map f)) := by
 have h := vV (m := m) (pos := pos) caps js (fun _ => true) f hi (fun C s H fp d hd => t5) (fun C s H fp d hd _ => he C s H fp d hd) hz hm hc B hs
 rwa [List.filter_eq_self.mpr fun _ _ => rfl] at h
theorem kc {elt iter : Expr} {x : Str} {px : Pos} {scope : Scope} {me : Bool} (caps : HL) (js : HN) (f : D -> D) (hi : IT X (.Name x px) m1 ρ iter ds)
 (he : ∀ C s H fp d, d ∈ ds -> E (fQ X ([x] ++ caps) scope C s H fp) me ([some d] ++ eM js ρ) elt (f d)) (hz : ds.length <= sizeLine) (hm : m = true -> me = true \/ ∀ d ∈ ds, (f d).flat = true := by intro h; first | exact .inl h | cases h) (hc : X.calm = true := by rfl)
 (B : cg X scope [x] caps js := by exact ⟨rfl, by decide, by decide, by decide, by decide, by decide, by repeat (first | exact trivial | refine ⟨⟨rfl, by first | exact .inl rfl | exact .inr rfl⟩, ?_⟩), by decide⟩)
 (hs : ∀ x, foldedSetIterable iter X.env x = pure x := by intro _; rfl) : E X m ρ (.ListComp elt [⟨.Name x px, iter, [], 0⟩] scope pos) (.lst (ds.map f)) := by
 have h := ub (m := m) (pos := pos) caps js (fun _ => true) f hi (fun C s H fp d hd => t5) (fun C s H fp d hd _ => he C s H fp d hd) hz hm hc B hs
 rwa [List.filter_eq_self.mpr fun _ _ => rfl] at h
end
mutual
def Tr (K : Frag) (H : Hp) : D -> V -> List Addr -> Prop
 | .lst ds, v, as => ∃ a xs bs, v = .ref a /\ as = a :: bs /\ H a = some (.lst xs) /\ nW K H ds xs bs
 | .tup ds, v, as => ∃ a xs, v = .ref a /\ H a = some (.tup xs) /\ nW K H ds xs as
 | .non, v, as => as = [] /\ v = .non
 | .bl b, v, as => as = [] /\ v = .bl b
 | .int i, v, as => as = [] /\ v = .int i
 | .str x, v, as => as = [] /\ v = .str x
 | .dct _, _, _ => False
 | .agg _ _, _, _ => False
 | .ktup ks, v, as => as = [] /\ ∃ a, v = .ref a /\ wj K a ks
def nW (K : Frag) (H : Hp) : List D -> List V -> List Addr -> Prop
 | [], xs, as => xs = [] /\ as = []
 | d :: ds, xs, as => ∃ v r bs cs, xs = v :: r /\ as = bs ++ cs /\ Tr K H d v bs /\ nW K H ds r cs
end
section
variable {K : Frag} {H H' : Hp} {Z : aE}
theorem uM {ds : List D} {v : V} {as : List Addr} : Tr K H (.lst ds) v as ↔ ∃ a xs bs, v = .ref a /\ as = a :: bs /\ H a = some (.lst xs) /\ nW K H ds xs bs := by unfold Tr; exact Iff.rfl
theorem tu {ds : List D} {v : V} {as : List Addr} : Tr K H (.tup ds) v as ↔ ∃ a xs, v = .ref a /\ H a = some (.tup xs) /\ nW K H ds xs as := by unfold Tr; exact Iff.rfl
theorem pP {xs : List V} {as : List Addr} : nW K H [] xs as ↔ xs = [] /\ as = [] := by unfold nW; exact Iff.rfl
theorem nQ {d : D} {ds : List D} {xs : List V} {as : List Addr} : nW K H (d :: ds) xs as ↔ ∃ v r bs cs, xs = v :: r /\ as = bs ++ cs /\ Tr K H d v bs /\ nW K H ds r cs := by
 constructor
 . intro h; unfold nW at h; exact h
 . intro h; unfold nW; exact h
mutual
theorem Tr.carry (t : ∀ a (xs : List V), H a = some (.tup xs) -> H' a = some (.tup xs)) : ∀ {d : D} {v : V} {as : List Addr}, (∀ a (xs : List V), a ∈ as -> H a = some (.lst xs) -> H' a = some (.lst xs)) -> Tr K H d v as -> Tr K H' d v as
 | .non, _, _, _, h => by unfold Tr at h ⊢; exact h
 | .bl _, _, _, _, h => by unfold Tr at h ⊢; exact h
 | .int _, _, _, _, h => by unfold Tr at h ⊢; exact h
 | .str _, _, _, _, h => by unfold Tr at h ⊢; exact h
 | .dct _, _, _, _, h => by unfold Tr at h; exact h.elim
 | .agg _ _, _, _, _, h => by unfold Tr at h; exact h.elim
 | .ktup _, _, _, _, h => by unfold Tr at h ⊢; exact h
 | .lst ds, _, _, k, h => by
  obtain ⟨a, xs, bs, e, rfl, ha, i⟩ := uM.mp h;exact uM.mpr ⟨a, xs, bs, e, rfl, k a xs mem_cons_self ha, nW.carry t (fun b ys hb => k b ys (mem_cons_of_mem _ hb)) i⟩
 | .tup ds, _, _, k, h => by
  obtain ⟨a, xs, e, ha, i⟩ := tu.mp h;exact tu.mpr ⟨a, xs, e, t a xs ha, nW.carry t k i⟩
theorem nW.carry (t : ∀ a (xs : List V), H a = some (.tup xs) -> H' a = some (.tup xs)) : ∀ {ds : List D} {vs : List V} {as : List Addr}, (∀ a (xs : List V), a ∈ as -> H a = some (.lst xs) -> H' a = some (.lst xs)) -> nW K H ds vs as -> nW K H' ds vs as
 | [], _, _, _, h => pP.mpr (pP.mp h)
 | d :: ds, _, _, k, h => by
  obtain ⟨v, r, bs, cs, e, rfl, i, j⟩ := nQ.mp h;exact nQ.mpr ⟨v, r, bs, cs, e, rfl, Tr.carry t (fun b ys hb => k b ys (List.mem_append_left _ hb)) i, nW.carry t (fun b ys hb => k b ys (mem_append_right _ hb)) j⟩
end
mutual
theorem Tr.eY : ∀ {d : D} {v : V} {as : List Addr}, (∀ a ∈ as, Z.S a) -> Tr K H d v as -> In K H Z d v
 | .non, _, _, _, h => by unfold Tr at h; exact bK.mpr h.2
 | .bl _, _, _, _, h => by unfold Tr at h; exact aR.mpr h.2
 | .int _, _, _, _, h => by unfold Tr at h; exact ao.mpr h.2
 | .str _, _, _, _, h => by unfold Tr at h; exact in_str.mpr h.2
 | .dct _, _, _, _, h => by unfold Tr at h; exact h.elim
 | .agg _ _, _, _, _, h => by unfold Tr at h; exact h.elim
 | .ktup _, _, _, _, h => by unfold Tr at h; exact bG.mpr h.2
 | .lst ds, _, _, k, h => by
  obtain ⟨a, xs, bs, e, rfl, ha, i⟩ := uM.mp h;exact av.mpr ⟨a, xs, e, .inl ⟨ha, k a mem_cons_self⟩, nW.eY (fun b hb => k b (mem_cons_of_mem _ hb)) i⟩
 | .tup ds, _, _, k, h => by
  obtain ⟨a, xs, e, ha, i⟩ := tu.mp h;exact cF.mpr ⟨a, xs, e, ha, nW.eY k i⟩
theorem nW.eY : ∀ {ds : List D} {vs : List V} {as : List Addr}, (∀ a ∈ as, Z.S a) -> nW K H ds vs as -> aH K H Z ds vs
 | [], _, _, _, h => aC.mpr (pP.mp h).1
 | d :: ds, _, _, k, h => by
  obtain ⟨v, r, bs, cs, e, rfl, i, j⟩ := nQ.mp h;exact ar.mpr ⟨v, r, e, Tr.eY (fun b hb => k b (List.mem_append_left _ hb)) i, nW.eY (fun b hb => k b (mem_append_right _ hb)) j⟩
end
end
structure Fn where
 m : Bool
 Z : aE
 H : Hp
def zn (F : Fn) (O : Addr -> Prop) (fr : Bool) : aE := if fr then ⟨true, fun a => F.H a = none /\ ¬ O a⟩ else ⟨F.Z.m, fun a => F.Z.S a /\ ¬ O a⟩
def vz (F : Fn) (O : Addr -> Prop) (ow fr : Bool) : aE := if ow then (if fr then nw F.H else F.Z) else zn F O fr
structure SP where
 p : Frag -> Fn -> Hp -> (Addr -> Prop) -> List Addr -> V -> Prop
 vw : Bool -> Bool -> Option D
 carry : ∀ {K : Frag} {F : Fn} {H H' : Hp} {O O' : Addr -> Prop} {mine : List Addr} {v : V}, p K F H O mine v -> (∀ a (xs : MO), a ∈ mine -> H a = some xs.ho -> H' a = some xs.ho) -> (∀ fr, Carry K H (zn F O fr) H' (zn F O' fr)) -> p K F H' O' mine v
 env : ∀ {K : Frag} {F : Fn} {H : Hp} {O : Addr -> Prop} {mine : List Addr} {v : V} {ow fr : Bool} {d : D}, F.Z.Open F.H -> (ow = true -> ∀ a ∈ mine, (vz F O ow fr).S a) -> p K F H O mine v -> vw ow fr = some d -> nX K H (vz F O ow fr) d v
inductive Slot where
 | pl (fr : Bool) (d : D)
 | ow (fr : Bool) (ds : List D)
 | kI (fr : Bool) (dss : List (List D))
 | oa (d : D)
 | sh (p : D -> Prop)
 | owl (l : Addr) (fr : Bool) (ds : List D)
 | od (o : DO)
 | rf (v : V)
 | tr (d : D)
 | trl (u : V) (d : D)
 | gen (q : SP)
abbrev b0 := List (Option Slot)
def aU (K : Frag) (H : Hp) (Z : aE) (dss : List (List D)) (as : List Addr) : Prop := Paired (fun ds a => ∃ xs, H a = some (.lst xs) /\ aH K H Z ds xs) dss as
def i7 (K : Frag) (F : Fn) (H : Hp) (O : Addr -> Prop) (mine : List Addr) (v : V) : Slot -> Prop
 | .pl fr d => In K H (zn F O fr) d v
 | .ow fr ds => ∃ l xs, mine = [l] /\ v = .ref l /\ H l = some (.lst xs) /\ aH K H (zn F O fr) ds xs
 | .kI fr dss => ∃ l as, mine = l :: as /\ v = .ref l /\ H l = some (.lst (as.map V.ref)) /\ aU K H (zn F O fr) dss as
 | .oa d => In K H ⟨true, fun a => a ∈ mine⟩ d v
 | .sh p => ∃ d, p d /\ In K H ⟨true, fun a => a ∈ mine⟩ d v
 | .owl l fr ds => ∃ xs, mine = [l] /\ v = .ref l /\ H l = some (.lst xs) /\ aH K H (zn F O fr) ds xs
 | .od o => ∃ l, mine = [l] /\ v = .ref l /\ H l = some o.ho
 | .rf u => v = u
 | .tr d => Tr K H d v mine
 | .trl u d => v = u /\ Tr K H d v mine
 | .gen q => q.p K F H O mine v
abbrev aG (A : Nat -> List Addr) (a : Addr) : Prop := ∃ j, a ∈ A j
structure bz (K : Frag) (F : Fn) (H : Hp) (vs : St) (ρ : b0) (A : Nat -> List Addr) : Prop where
 same : au F.H H
 opn : F.Z.Open F.H
 nd : ∀ i, (A i).Nodup
 one : ∀ i j a, a ∈ A i -> a ∈ A j -> i = j
 new : ∀ i a, a ∈ A i -> F.H a = none
 lst : ∀ i a, a ∈ A i -> ∃ xs : MO, H a = some xs.ho
 at' : ∀ (i : Nat) sl, ρ[i]? = some (some sl) -> ∃ v, vs[i]? = some (some v) /\ i7 K F H (aG A) (A i) v sl
section
variable {K : Frag} {F : Fn} {H H' : Hp} {vs : St} {ρ : b0} {A : Nat -> List Addr} {O O' : Addr -> Prop} {fr : Bool}
theorem aU.carry {Z Z' : aE} {dss : List (List D)} {as : List Addr} (h : aU K H Z dss as) (k : ∀ a xs, a ∈ as -> H a = some (.lst xs) -> H' a = some (.lst xs)) (c : Carry K H Z H' Z') : aU K H' Z' dss as := by
 induction h with
 | nil => exact .nil
 | cons r t ih =>
  obtain ⟨xs, e, i⟩ := r;exact .cons ⟨xs, k _ xs (by simp) e, i.carry c⟩ (ih fun a xs ha e => k a xs (by simp [ha]) e)
theorem su (s : au H H') (hO : ∀ a (xs : MO), H a = some xs.ho -> ¬ O a -> ¬ O' a) : Carry K H (zn F O fr) H' (zn F O' fr) := by
 unfold zn;cases fr
 . exact .of s (fun a xs e z => ⟨z.1, hO a xs e z.2⟩) fun m => m
 . exact .of s (fun a xs e z => ⟨z.1, hO a xs e z.2⟩) fun m => m
theorem i7.carry {mine : List Addr} {v : V} {sl : Slot} (h : i7 K F H O mine v sl) (k : ∀ a (xs : MO), a ∈ mine -> H a = some xs.ho -> H' a = some xs.ho) (c : ∀ fr, Carry K H (zn F O fr) H' (zn F O' fr)) : i7 K F H' O' mine v sl := by
 cases sl with
 | pl fr d => exact In.carry (c fr) h
 | ow fr ds =>
  obtain ⟨l, xs, rfl, e, hl, i⟩ := h;exact ⟨l, xs, rfl, e, k l (.l xs) (by simp) hl, i.carry (c fr)⟩
 | kI fr dss =>
  obtain ⟨l, as, rfl, e, hl, i⟩ := h;exact ⟨l, as, rfl, e, k l (.l _) (by simp) hl, i.carry (fun a xs ha q => k a (.l xs) (by simp [ha]) q) (c fr)⟩
 | oa d => exact In.carry ⟨fun a xs e z => ⟨k a xs z e, z⟩, fun m => Bool.noConfusion (show true = false from m), (c true).t⟩ h
 | sh p =>
  obtain ⟨d, hp, i⟩ := h;exact ⟨d, hp, i.carry ⟨fun a xs e z => ⟨k a xs z e, z⟩, fun m => Bool.noConfusion (show true = false from m), (c true).t⟩⟩
 | owl l fr ds =>
  obtain ⟨xs, rfl, e, hl, i⟩ := h;exact ⟨xs, rfl, e, k l (.l xs) (by simp) hl, i.carry (c fr)⟩
 | od o =>
  obtain ⟨l, rfl, e, hl⟩ := h;exact ⟨l, rfl, e, k l (.d o) (by simp) hl⟩
 | rf u => exact h
 | tr d => exact Tr.carry (c true).t (fun a xs ha e => k a (.l xs) ha e) h
 | trl u d => exact ⟨h.1, Tr.carry (c true).t (fun a xs ha e => k a (.l xs) ha e) h.2⟩
 | gen q => exact q.carry h k c
theorem bz.grow (S : bz K F H vs ρ A) (s : au H H') : bz K F H' vs ρ A :=
 ⟨S.same.trans s, S.opn, S.nd, S.one, S.new, fun i a ha => let ⟨xs, e⟩ := S.lst i a ha; ⟨xs, s.at e xs.nt⟩, fun i sl e => let ⟨v, a, b⟩ := S.at' i sl e; ⟨v, a, b.carry (fun a xs _ q => s.at q xs.nt) fun fr => su s fun a xs _ n => n⟩⟩
theorem d5 (S : bz K F H vs ρ A) (fr : Bool) : (zn F (aG A) fr).Open H := ⟨fun a h => by
 have n : ¬ aG A a := fun ⟨j, hj⟩ => by obtain ⟨xs, e⟩ := S.lst j a hj; rw [h] at e; cases e
 unfold zn;cases fr
 . exact ⟨S.opn.op a (S.same.free h), n⟩
 . exact ⟨S.same.free h, n⟩, S.same.tabs S.opn.tb⟩
theorem aF (S : bz K F H vs ρ A) (ow fr : Bool) : (vz F (aG A) ow fr).Open H := by
 unfold vz;cases ow
 . exact d5 S fr
 . cases fr
   . exact S.opn.same S.same
   . exact Bs S.opn.tb S.same
def zK (ow fr : Bool) : Option Slot -> Option D
 | some (.pl f d) => if fr && !f then none else some d
 | some (.ow f ds) => if ow && (!fr || f) then some (.lst ds) else none
 | some (.kI f dss) => if ow && (!fr || f) then some (.lst (dss.map .lst)) else none
 | some (.oa d) => if ow then some d else none
 | some (.sh _) => none
 | some (.owl _ _ _) => none
 | some (.od o) => if ow then some (.dct o) else none
 | some (.rf _) => none
 | some (.tr d) => if ow then some d else none
 | some (.trl _ d) => if ow then some d else none
 | some (.gen q) => q.vw ow fr
 | none => none
def view (ow fr : Bool) (ρ : b0) : List (Option D) := ρ.map (zK ow fr)
theorem vW (op : F.Z.Open F.H) {f ow : Bool} (hf : fr = true -> f = true) : Carry K H (zn F O f) H (vz F O ow fr) := by
 refine .of (au.refl H) (fun a xs e z => ?_) fun m => ?_
 . unfold vz zn at *;cases ow <;> cases fr <;> cases f <;> simp at hf z ⊢ <;> first
    | exact z
    | exact z.1
    | exact ⟨op a z.1, z.2⟩
    | exact op a z.1
 . unfold vz zn at *;cases ow <;> cases fr <;> cases f <;> simp at hf m ⊢ <;> exact m
theorem kj {Z Z' : aE} {dss : List (List D)} {as : List Addr} (h : aU K H Z dss as) (c : Carry K H Z H Z') (n : ∀ a ∈ as, Z'.S a) : aH K H Z' (dss.map D.lst) (as.map V.ref) := by
 induction h with
 | nil => exact aC.mpr rfl
 | cons r t ih =>
  obtain ⟨xs, e, i⟩ := r;exact ar.mpr ⟨_, _, rfl, av.mpr ⟨_, xs, rfl, .inl ⟨e, n _ (by simp)⟩, i.carry c⟩, ih fun a ha => n a (by simp [ha])⟩
theorem xD (op : F.Z.Open F.H) {mine : List Addr} {v : V} {sl : Slot} {ow : Bool} {d : D} (new : ∀ a ∈ mine, F.H a = none) (h : i7 K F H O mine v sl) (e : zK ow fr (some sl) = some d) : nX K H (vz F O ow fr) d v := by
 have inS : ow = true -> ∀ a ∈ mine, (vz F O ow fr).S a := fun ho a ha => by
  subst ho;unfold vz;cases fr
  . exact op a (new a ha)
  . exact new a ha
 cases sl with
 | pl f d' =>
  apply In.top;change (if (fr && !f) = true then none else some d') = some d at e;by_cases q : (fr && !f) = true
  . rw [if_pos q] at e; cases e
  . rw [if_neg q] at e;cases e;refine In.carry (vW op fun hf => ?_) h;subst hf;simpa using q
 | ow f ds =>
  apply In.top;change (if (ow && (!fr || f)) = true then some (D.lst ds) else none) = some d at e;by_cases q : (ow && (!fr || f)) = true
  . rw [if_pos q] at e;cases e;obtain ⟨l, xs, rfl, rfl, hl, i⟩ := h;simp at q;refine av.mpr ⟨l, xs, rfl, .inl ⟨hl, inS q.1 l (by simp)⟩, i.carry (vW op fun hf => ?_)⟩;subst hf;simpa using q.2
  . rw [if_neg q] at e; cases e
 | kI f dss =>
  apply In.top;change (if (ow && (!fr || f)) = true then some (D.lst (dss.map D.lst)) else none) = some d at e;by_cases q : (ow && (!fr || f)) = true
  . rw [if_pos q] at e;cases e;obtain ⟨l, as, rfl, rfl, hl, i⟩ := h;simp at q;refine av.mpr ⟨l, _, rfl, .inl ⟨hl, inS q.1 l (by simp)⟩, kj i (vW op fun hf => ?_) fun a ha => inS q.1 a (by simp [ha])⟩;subst hf;simpa using q.2
  . rw [if_neg q] at e; cases e
 | oa d' =>
  apply In.top;change (if ow = true then some d' else none) = some d at e;by_cases q : ow = true
  . rw [if_pos q] at e;cases e;exact In.carry ⟨fun a xs e z => ⟨e, inS q a z⟩, fun m => Bool.noConfusion (show true = false from m), fun _ _ e => e⟩ h
  . rw [if_neg q] at e; cases e
 | sh p => cases e
 | owl l f ds => cases e
 | rf u => cases e
 | tr d' =>
  apply In.top;change (if ow = true then some d' else none) = some d at e;by_cases q : ow = true
  . rw [if_pos q] at e;cases e;exact Tr.eY (inS q) h
  . rw [if_neg q] at e; cases e
 | trl u d' =>
  apply In.top;change (if ow = true then some d' else none) = some d at e;by_cases q : ow = true
  . rw [if_pos q] at e;cases e;exact Tr.eY (inS q) h.2
  . rw [if_neg q] at e; cases e
 | od o =>
  apply In.top;change (if ow = true then some (D.dct o) else none) = some d at e;by_cases q : ow = true
  . rw [if_pos q] at e;cases e;obtain ⟨l, rfl, rfl, hl⟩ := h;exact bw.mpr ⟨l, rfl, hl, inS q l (by simp)⟩
  . rw [if_neg q] at e; cases e
 | gen q => exact q.env op inS h e
theorem bz.env {σ hv : St} {hρ : b0} (S : bz K F H (σ ++ hv) (ρ ++ hρ) A) (hl : σ.length = ρ.length) (ow fr : Bool) : bZ K H (vz F (aG A) ow fr) σ (view ow fr ρ) := fun i d e => by
 unfold view at e;rw [getElem?_map] at e
 cases q : ρ[i]? with
 | none => rw [q] at e; cases e
 | some o =>
  rw [q] at e
  cases o with
  | none => simp [zK] at e
  | some sl =>
   have hi : i < ρ.length := (List.getElem?_eq_some_iff.mp q).1;obtain ⟨v, a, b⟩ := S.at' i sl (by rw [getElem?_append_left hi]; exact q);rw [getElem?_append_left (by omega)] at a;exact ⟨v, a, xD S.opn (S.new i) b (by simpa using e)⟩
def bP (A : Nat -> List Addr) (i : Nat) (l : List Addr) : Nat -> List Addr := fun j => if j = i then l else A j
theorem aY {i : Nat} {l : List Addr} : bP A i l i = l := by unfold bP; rw [if_pos rfl]
theorem bM {i j : Nat} {l : List Addr} (h : j ≠ i) : bP A i l j = A j := by unfold bP; rw [if_neg h]
theorem fK {i : Nat} {l : List Addr} {H2 : Hp} (S : bz K F H vs ρ A) (k : ∀ b o, H b = some o -> xI o = false -> b ∉ A i -> H2 b = some o) (hl : ∀ a ∈ l, a ∈ A i \/ H a = none) (fr : Bool) : Carry K H (zn F (aG A) fr) H2 (zn F (aG (bP A i l)) fr) := by
 have notI : ∀ {a : Addr} {o : HO}, H a = some o -> (∀ xs : MO, o ≠ xs.ho) -> a ∉ A i := fun {a o} e n z => by
  obtain ⟨xs, e'⟩ := S.lst i a z;rw [e] at e';exact n xs (Option.some.inj e')
 refine ⟨fun a xs e z => ?_, fun m => ⟨?_, fun a xs e => ?_⟩, fun a xs e => ?_⟩
 . have key : ¬ aG A a -> H2 a = some xs.ho /\ ¬ aG (bP A i l) a := fun n => ⟨k a _ e xs.nt fun z => n ⟨i, z⟩, fun ⟨k', hk⟩ => by
    by_cases q2 : k' = i
    . rw [q2, aY] at hk;rcases hl a hk with z | z
      . exact n ⟨i, z⟩
      . rw [e] at z; cases z
    . rw [bM q2] at hk;exact n ⟨k', hk⟩⟩
   unfold zn at z ⊢;cases fr
   . exact ⟨(key z.2).1, z.1, (key z.2).2⟩
   . exact ⟨(key z.2).1, z.1, (key z.2).2⟩
 . unfold zn at m ⊢;cases fr
   . exact m
   . exact m
 . rcases e with ⟨o, e⟩ | e
   . exact .inl ⟨o, k a _ e rfl (notI e fun xs z => xs.E3 z.symm)⟩
   . exact .inr e
 . exact k a _ e rfl (notI e fun xs z => xs.wt z.symm)
theorem bz.re {i : Nat} {v : V} {sl : Slot} {l : List Addr} {H2 : Hp} (S : bz K F H vs ρ A) (hi : i < ρ.length) (hiv : i < vs.length) (sm : au F.H H2) (k : ∀ b o, H b = some o -> xI o = false -> b ∉ A i -> H2 b = some o) (nd : l.Nodup)
 (hl : ∀ a ∈ l, (a ∈ A i \/ H a = none) /\ ∃ xs : MO, H2 a = some xs.ho) (h : i7 K F H2 (aG (bP A i l)) l v sl) : bz K F H2 (vs.set i (some v)) (ρ.set i (some sl)) (bP A i l) := by
 have disj : ∀ j a, j ≠ i -> a ∈ A j -> a ∉ l := fun j a hj ha hal => by
  rcases (hl a hal).1 with z | z
  . exact hj (S.one j i a ha z)
  . obtain ⟨xs, e⟩ := S.lst j a ha; rw [z] at e; cases e
 refine ⟨sm, S.opn, fun j => ?_, fun j k' a hj hk => ?_, fun j a ha => ?_, fun j a ha => ?_, fun j sl' e => ?_⟩
 . by_cases q : j = i
   . rw [q, aY]; exact nd
   . rw [bM q]; exact S.nd j
 . by_cases q : j = i
   . by_cases q2 : k' = i
     . rw [q, q2]
     . rw [q, aY] at hj; rw [bM q2] at hk;exact absurd hj (disj k' a q2 hk)
   . rw [bM q] at hj;by_cases q2 : k' = i
     . rw [q2, aY] at hk;exact absurd hk (disj j a q hj)
     . rw [bM q2] at hk;exact S.one j k' a hj hk
 . by_cases q : j = i
   . rw [q, aY] at ha;rcases (hl a ha).1 with z | z
     . exact S.new i a z
     . exact S.same.free z
   . rw [bM q] at ha; exact S.new j a ha
 . by_cases q : j = i
   . rw [q, aY] at ha; exact (hl a ha).2
   . rw [bM q] at ha;obtain ⟨xs, e⟩ := S.lst j a ha;exact ⟨xs, k a _ e xs.nt fun z => q (S.one j i a ha z)⟩
 . by_cases q : j = i
   . subst q;rw [List.getElem?_set_self hi] at e;cases e;exact ⟨v, by rw [List.getElem?_set_self hiv], by rw [aY]; exact h⟩
   . rw [List.getElem?_set_ne (Ne.symm q)] at e;obtain ⟨w, a, b⟩ := S.at' j sl' e;refine ⟨w, by rw [List.getElem?_set_ne (Ne.symm q)]; exact a, ?_⟩;rw [bM q];exact b.carry (fun a xs ha e => k a _ e xs.nt fun z => q (S.one j i a ha z)) fun fr => fK S k (fun a ha => (hl a ha).1) fr
theorem bz.put {i : Nat} {v : V} {sl : Slot} {l : List Addr} {H2 : Hp} (S : bz K F H vs ρ A) (hi : i < ρ.length) (hiv : i < vs.length) (s : au H H2) (nd : l.Nodup) (hl : ∀ a ∈ l, H a = none /\ ∃ xs : MO, H2 a = some xs.ho)
 (h : i7 K F H2 (aG (bP A i l)) l v sl) : bz K F H2 (vs.set i (some v)) (ρ.set i (some sl)) (bP A i l) := S.re hi hiv (S.same.trans s) (fun b o e n _ => s.get b o e n) nd (fun a ha => ⟨.inr (hl a ha).1, (hl a ha).2⟩) h
theorem lY {i : Nat} : Carry K H (zn F (aG A) fr) H (zn F (aG (bP A i [])) fr) := by
 have n : ∀ {P : Prop} {a : Addr}, P /\ ¬ aG A a -> P /\ ¬ aG (bP A i []) a := fun {P a} z => ⟨z.1, fun ⟨k, hk⟩ => by
  by_cases q : k = i
  . rw [q, aY] at hk; simp at hk
  . rw [bM q] at hk; exact z.2 ⟨k, hk⟩⟩
 refine .of (au.refl _) (fun a xs e z => ?_) fun m => ?_
 . unfold zn at z ⊢;cases fr
   . exact n z
   . exact n z
 . unfold zn at m ⊢;cases fr
   . exact m
   . exact m
end
structure iu where
 nx : b0 -> Prop
 rt : D -> Prop
 bk : b0 -> Prop := fun _ => False
 ct : b0 -> Prop := fun _ => False
 rtT : D -> Prop := fun _ => False
 rtM : b0 -> D -> Prop := fun _ _ => False
 rtS : b0 -> (Nat -> List Addr) -> Hp -> V -> Prop := fun _ _ _ _ => False
def lK (K : Frag) (F : Fn) (hv : St) (hρ : b0) (N : b0 -> Prop) (σ : St) (H : Hp) : Prop := ∃ ρ A, σ.length = ρ.length /\ bz K F H (σ ++ hv) (ρ ++ hρ) A /\ N ρ
structure Fits (K : Frag) (F : Fn) (hv : St) (hρ : b0) (Q : iu) (Q' : Ends) : Prop where
 hl : hv.length = hρ.length
 nx : ∀ σ H, lK K F hv hρ Q.nx σ H -> Q'.nx σ H
 bk : ∀ σ H, lK K F hv hρ Q.bk σ H -> Q'.bk σ H
 ct : ∀ σ H, lK K F hv hρ Q.ct σ H -> Q'.ct σ H
 rt : ∀ v d H, au F.H H -> In K H (out F.m F.Z F.H) d v -> Q.rt d -> Q'.rt v H
 rtT : ∀ v d H as, au F.H H -> Tr K H d v as -> as.Nodup -> (∀ a ∈ as, F.H a = none) -> Q.rtT d -> Q'.rt v H
 rtM : ∀ σ H ρ A v d as, σ.length = ρ.length -> bz K F H (σ ++ hv) (ρ ++ hρ) A -> Tr K H d v as -> as.Nodup -> (∀ a ∈ as, F.H a = none) -> (∀ i a, a ∈ A i -> a ∉ as) -> Q.rtM ρ d -> Q'.rt v H
 rtS : ∀ σ H ρ A v, σ.length = ρ.length -> bz K F H (σ ++ hv) (ρ ++ hρ) A -> Q.rtS ρ A H v -> Q'.rt v H
def tS (K : Frag) (F : Fn) (ρ : b0) (Q : iu) : TS := fun Q' σ H => ∃ hv hρ A, σ.length = ρ.length /\ bz K F H (σ ++ hv) (ρ ++ hρ) A /\ Fits K F hv hρ Q Q'
def SD (X : Cx) (F : Fn) (st : List Stmt) (ρ : b0) (Q : iu) : Prop := nV X st (tS X.K F ρ Q)
def G9 (X : Cx) (F : Fn) (st : Stmt) (ρ : b0) (Q : iu) : Prop := PS X st (tS X.K F ρ Q)
theorem PS.mono {X : Cx} {st : Stmt} {t t' : TS} (h : PS X st t) (k : ∀ Q σ H, t' Q σ H -> t Q σ H) : PS X st t' := fun pins s σ H Q I q => h pins s σ H Q I (k Q σ H q)
theorem nV.mono {X : Cx} {st : List Stmt} {t t' : TS} (h : nV X st t) (k : ∀ Q σ H, t' Q σ H -> t Q σ H) : nV X st t' := fun pins s σ H Q I q => h pins s σ H Q I (k Q σ H q)
section
variable {X : Cx} {F : Fn} {ρ : b0} {Q : iu} {st : Stmt} {rest body orelse : List Stmt} {e a c : Expr} {d : D} {pos p : Pos} {i : Nat} {x : Str} {fr m1 : Bool}
theorem Fits.step {K : Frag} {hv : St} {hρ : b0} {Q' : Ends} {N : b0 -> Prop} {n : St -> Hp -> Prop} (f : Fits K F hv hρ Q Q') (h : ∀ σ H, lK K F hv hρ N σ H -> n σ H) : Fits K F hv hρ { Q with nx := N } { Q' with nx := n } := ⟨f.hl, h, f.bk, f.ct, f.rt, f.rtT, f.rtM, f.rtS⟩
theorem ai (h : Q.nx ρ) : SD X F [] ρ Q := nV.mono BK fun Q' σ H z0 => fF z0 fun hv hρ A hl S f => f.nx σ H ⟨ρ, A, hl, S, h⟩
theorem gL {N : b0 -> Prop} (h1 : G9 X F st ρ { Q with nx := N }) (h2 : ∀ ρ', N ρ' -> SD X F rest ρ' Q) : SD X F (st :: rest) ρ Q :=
 nV.mono (yF (u := fun Q' σ H => ∃ ρ', N ρ' /\ tS X.K F ρ' Q Q' σ H) h1 fun pins s σ H Q' I ⟨ρ', n, t⟩ => h2 ρ' n pins s σ H Q' I t) fun Q' σ H ⟨hv, hρ, A, hl, S, f⟩ =>
  ⟨hv, hρ, A, hl, S, f.step fun σ' H' ⟨ρ', A', hl', S', n⟩ => ⟨ρ', n, hv, hρ, A', hl', S', f⟩⟩
theorem bB {ρ' : b0} (h1 : G9 X F st ρ { Q with nx := fun r => r = ρ' }) (h2 : SD X F rest ρ' Q) : SD X F (st :: rest) ρ Q := gL h1 fun r e => by subst e; exact h2
theorem aX {α : Type} {l r : List α} {i : Nat} {v : α} (h : i < l.length) : (l ++ r).set i v = l.set i v ++ r := by
 rw [List.set_append_left _ _ h]
theorem pM {K : Frag} {hv : St} {hρ : b0} {σ : St} {H H1 : Hp} {A : Nat -> List Addr} {v : V} (hl : σ.length = ρ.length) (S : bz K F H (σ ++ hv) (ρ ++ hρ) A) (hi : i < ρ.length) (s : au H H1) (h : In K H1 (zn F (aG A) fr) d v) :
 bz K F H1 (σ.set i (some v) ++ hv) (ρ.set i (some (.pl fr d)) ++ hρ) (bP A i []) := by
 rw [<- aX (by omega), <- aX hi];exact S.put (by rw [List.length_append]; omega) (by rw [List.length_append]; omega) s List.nodup_nil (fun a ha => by simp at ha) (In.carry lY h)
theorem jE {K : Frag} {hv : St} {hρ : b0} {σ : St} {H H1 : Hp} {A : Nat -> List Addr} {v : V} (hl : σ.length = ρ.length) (S : bz K F H (σ ++ hv) (ρ ++ hρ) A) (hi : i < ρ.length) (s : au H H1) (h : In K H1 (zn F (aG A) fr) d v) :
 lK K F hv hρ (fun r => r = ρ.set i (some (.pl fr d))) (σ.set i (some v)) H1 := ⟨_, bP A i [], by simp [hl], pM hl S hi s h, rfl⟩
theorem kP (i : Nat) (fr : Bool) {x : Str} {d : D} (he : E X false (view false fr ρ) e d) (hr : SD X F rest (ρ.set i (some (.pl fr d))) Q) (hN : X.N.Nodup) (hi : X.N[i]? = some x := by rfl)
 (hx : Loc X.env.scope x := by first | exact Or.inl rfl | exact Or.inr rfl) (hρ : i < ρ.length := by exact of_decide_eq_true rfl) (hs : swapsWith e (some (.Name x p)) pos.line X.env = pure false := by rfl) (hf : HfX X x := by first | exact .inl rfl | exact .inr rfl) :
 SD X F (.Assign [.Name x p] e pos :: rest) ρ Q :=
 bB (PS.mono (jK hN hi hx he hs hf) fun Q' σ H z0 => fF z0 fun hv hρ' A hl S f => ⟨_, aF S false fr, S.env hl false fr, fun v H1 s1 i1 => f.nx _ H1 (jE hl S hρ s1 i1)⟩) hr
theorem cB (i : Nat) {x : Str} {d : D} (he : E X true (view true false ρ) e d) (hr : SD X F rest (ρ.set i (some (.pl true d))) Q) (hN : X.N.Nodup) (hi : X.N[i]? = some x := by rfl)
 (hx : Loc X.env.scope x := by first | exact Or.inl rfl | exact Or.inr rfl) (hρ : i < ρ.length := by exact of_decide_eq_true rfl) (hs : swapsWith e (some (.Name x p)) pos.line X.env = pure false := by rfl) (hf : HfX X x := by first | exact .inl rfl | exact .inr rfl) :
 SD X F (.Assign [.Name x p] e pos :: rest) ρ Q :=
 bB (PS.mono (jK hN hi hx he hs hf) fun Q' σ H z0 => fF z0 fun hv hρ' A hl S f => ⟨_, aF S true false, S.env hl true false, fun v H1 s1 i1 => f.nx _ H1 (jE hl S hρ s1 (In.up (d5 S true) i1))⟩) hr
theorem aQ (i : Nat) {x : Str} {d : D} (he : E X m1 (view true false ρ) e d) (fl : d.flat = true) (hr : SD X F rest (ρ.set i (some (.pl true d))) Q) (hN : X.N.Nodup) (hi : X.N[i]? = some x := by rfl)
 (hx : Loc X.env.scope x := by first | exact Or.inl rfl | exact Or.inr rfl) (hρ : i < ρ.length := by exact of_decide_eq_true rfl) (hs : swapsWith e (some (.Name x p)) pos.line X.env = pure false := by rfl) (hf : HfX X x := by first | exact .inl rfl | exact .inr rfl) :
 SD X F (.Assign [.Name x p] e pos :: rest) ρ Q := cB i (he.flat fl) hr hN hi hx hρ hs hf
theorem aD (fr : Bool) {d : D} (he : E X m1 (view true fr ρ) e d) (h : Q.rt d) (hm : F.m = true -> fr = true \/ m1 = true := by intro h; first | exact .inl rfl | exact .inr rfl | cases h) : SD X F (.Return (some e) pos :: rest) ρ Q :=
 gL (N := fun _ => False) (PS.mono (zP he) fun Q' σ H z0 => fF z0 fun hv hρ A hl S f => ⟨_, aF S true fr, S.env hl true fr, fun v H1 s1 i1 => f.rt v d H1 (S.same.trans s1) (by
  have key : (F.m = true -> In X.K H1 (nw F.H) d v) /\ In X.K H1 F.Z d v := by
   cases m1 with
   | true =>
    have i2 : In X.K H1 (nw F.H) d v := In.later (m := true) (Z := F.Z) S.same i1;exact ⟨fun _ => i2, i2.up S.opn⟩
   | false =>
    cases fr with
    | true =>
     have i2 : In X.K H1 (nw F.H) d v := i1;exact ⟨fun _ => i2, i2.up S.opn⟩
    | false =>
     have i2 : In X.K H1 F.Z d v := i1;exact ⟨fun h => (hm h).elim (fun z => (nomatch z)) (fun z => (nomatch z)), i2⟩
  cases hmm : F.m with
  | false => exact key.2
  | true => exact key.1 hmm) h⟩) fun _ n => n.elim
theorem aO {b : Bool} (hc : T X (view true false ρ) c b) (h1 : b = true -> SD X F body ρ { Q with nx := fun r => SD X F rest r Q }) (h2 : b = false -> SD X F orelse ρ { Q with nx := fun r => SD X F rest r Q }) : SD X F (.If c body orelse pos :: rest) ρ Q := by
 refine gL (N := fun r => SD X F rest r Q) ?_ fun _ h => h
 cases b with
 | true =>
  exact PS.mono (oV hc (h1 rfl) (eS (sts := orelse))) fun Q' σ H z0 => fF z0 fun hv hρ A hl S f => ⟨_, aF S true false, S.env hl true false, fun H1 s1 => by
   refine nG ?_; exact ⟨hv, hρ, A, hl, S.grow s1, f⟩⟩
 | false =>
  exact PS.mono (oV hc (eS (sts := body)) (h2 rfl)) fun Q' σ H z0 => fF z0 fun hv hρ A hl S f => ⟨_, aF S true false, S.env hl true false, fun H1 s1 => by
   refine mV ?_; exact ⟨hv, hρ, A, hl, S.grow s1, f⟩⟩
theorem yr (ρ1 : b0) {b : Bool} (hc : T X (view true false ρ) c b) (h1 : b = true -> SD X F body ρ { Q with nx := fun r => r = ρ1 }) (h2 : b = false -> SD X F orelse ρ { Q with nx := fun r => r = ρ1 }) (h3 : SD X F rest ρ1 Q) : SD X F (.If c body orelse pos :: rest) ρ Q := by
 refine bB (ρ' := ρ1) ?_ h3
 cases b with
 | true =>
  exact PS.mono (oV hc (h1 rfl) (eS (sts := orelse))) fun Q' σ H z0 => fF z0 fun hv hρ A hl S f => ⟨_, aF S true false, S.env hl true false, fun H1 s1 => by
   refine nG ?_; exact ⟨hv, hρ, A, hl, S.grow s1, f⟩⟩
 | false =>
  exact PS.mono (oV hc (eS (sts := body)) (h2 rfl)) fun Q' σ H z0 => fF z0 fun hv hρ A hl S f => ⟨_, aF S true false, S.env hl true false, fun H1 s1 => by
   refine mV ?_; exact ⟨hv, hρ, A, hl, S.grow s1, f⟩⟩
theorem yE (P : b0 -> Prop) (μ : b0 -> Nat) (b : b0 -> Bool) (h0 : P ρ) (hl0 : ∀ r, P r -> r.length = ρ.length) (hc : ∀ r, P r -> T X (view true false r) c (b r))
 (hb : ∀ r, P r -> b r = true -> SD X F body r { Q with nx := fun r' => P r' /\ μ r' < μ r, ct := fun r' => P r' /\ μ r' < μ r, bk := fun r => SD X F rest r Q }) (hd : ∀ r, P r -> b r = false -> SD X F rest r Q)
 (hp : PassesOwn (model X.prog X.w) X.A X.env X.xe := by exact PassesOwn.never) : SD X F (.While c body [] pos :: rest) ρ Q := by
 refine gL (N := fun r => SD X F rest r Q) ?_ fun _ h => h;refine PS.mono (Ap (tc := fun σ H R => ∃ r, P r /\ x6 X.K (view true false r) (b r) σ H R) (tb := fun Q' σ H => ∃ r, P r /\ b r = true /\ tS X.K F r { Q with nx := fun r' => P r' /\ μ r' < μ r, ct := fun r' => P r' /\ μ r' < μ r, bk := fun r => SD X F rest r Q } Q' σ H) hp
  (fun pins s σ H R I ⟨r, pr, q⟩ => hc r pr pins s σ H R I q) (fun pins s σ H Q' I ⟨r, pr, br, q⟩ => hb r pr br pins s σ H Q' I q)) fun Q' σ H z0 => fF z0 fun hv hρ A hl S f => ?_
 refine ⟨fun n σ H => ∃ r A, n = μ r /\ P r /\ σ.length = r.length /\ bz X.K F H (σ ++ hv) (r ++ hρ) A, ⟨_, ρ, A, rfl, h0, hl, S⟩, ?_⟩;rintro n σ1 H1 ⟨r, A1, rfl, pr, hl1, S1⟩;refine ⟨r, pr, _, aF S1 true false, S1.env hl1 true false, fun H2 s2 => ?_⟩
 cases hbr : b r with
 | true =>
  refine nG ?_;refine ⟨lK X.K F hv hρ fun r' => P r' /\ μ r' < μ r, fun σ' H' ⟨r', A', hl', S', p', lt⟩ => ⟨μ r', lt, r', A', rfl, p', hl', S'⟩, r, pr, hbr, hv, hρ, A1, hl1, S1.grow s2, ⟨f.hl, fun _ _ h => h, fun σ H h => f.nx σ H h, fun _ _ h => h, f.rt, f.rtT, f.rtM, f.rtS⟩⟩
 | false =>
  refine mV ?_;exact f.nx _ _ ⟨r, A1, hl1, S1.grow s2, hd r pr hbr⟩
def AL (fr : Bool) (cS : List D) : b0 := cS.map fun d => some (.pl fr d)
theorem bz.hide {K : Frag} {H : Hp} {σ hv : St} {r hρ : b0} {A : Nat -> List Addr} {cS : List D} {vs : List V} (S : bz K F H (σ ++ hv) (r ++ hρ) A) (h1 : σ.length = r.length) (h2 : hv.length = hρ.length) (iz : aH K H (zn F (aG A) fr) cS vs) :
 bz K F H (σ ++ (hv ++ vs.map some)) (r ++ (hρ ++ AL fr cS)) A := by
 refine ⟨S.same, S.opn, S.nd, S.one, S.new, S.lst, fun i sl e => ?_⟩;rw [<- List.append_assoc] at e ⊢;by_cases hi : i < (r ++ hρ).length
 . rw [getElem?_append_left hi] at e;rw [getElem?_append_left (by rw [List.length_append] at hi ⊢; omega)];exact S.at' i sl e
 . rw [getElem?_append_right (by omega)] at e;rw [getElem?_append_right (by rw [List.length_append] at hi ⊢; omega)];have hle : (σ ++ hv).length = (r ++ hρ).length := by rw [List.length_append, List.length_append]; omega
   rw [hle];unfold AL at e;rw [getElem?_map] at e
   cases q : cS[i - (r ++ hρ).length]? with
   | none => rw [q] at e; cases e
   | some d =>
    rw [q] at e;have e' : some (Slot.pl fr d) = some sl := by simpa using e
    cases e';obtain ⟨v, a, b⟩ := iz.get q;exact ⟨v, by rw [getElem?_map, a]; rfl, b⟩
theorem bz.cS {K : Frag} {H : Hp} {σ hv : St} {r hρ : b0} {A : Nat -> List Addr} {cS : List D} {vs : List V} (S : bz K F H (σ ++ (hv ++ vs.map some)) (r ++ (hρ ++ AL fr cS)) A) (h1 : σ.length = r.length) (h2 : hv.length = hρ.length) (hsv : cS.length = vs.length) :
 aH K H (zn F (aG A) fr) cS vs := by
 refine aH.of_get hsv fun i d v e1 e2 => ?_;have hle : (σ ++ hv).length = (r ++ hρ).length := by rw [List.length_append, List.length_append]; omega
 obtain ⟨w, a, b⟩ := S.at' ((r ++ hρ).length + i) (.pl fr d) (by
  rw [<- List.append_assoc, getElem?_append_right (by omega), Nat.add_sub_cancel_left];unfold AL;rw [getElem?_map, e1]; rfl)
 rw [<- List.append_assoc, getElem?_append_right (by omega), hle, Nat.add_sub_cancel_left, getElem?_map, e2] at a;cases a;exact b
theorem bz.gQ {K : Frag} {H : Hp} {σ hv e1 : St} {r hρ e2 : b0} {A : Nat -> List Addr} (S : bz K F H (σ ++ (hv ++ e1)) (r ++ (hρ ++ e2)) A) (h1 : σ.length = r.length) (h2 : hv.length = hρ.length) : bz K F H (σ ++ hv) (r ++ hρ) A := by
 refine ⟨S.same, S.opn, S.nd, S.one, S.new, S.lst, fun i sl e => ?_⟩;have hi : i < (r ++ hρ).length := (List.getElem?_eq_some_iff.mp e).1;obtain ⟨v, a, b⟩ := S.at' i sl (by rw [<- List.append_assoc, getElem?_append_left hi]; exact e);rw [<- List.append_assoc, getElem?_append_left (by rw [List.length_append] at hi ⊢; omega)] at a;exact ⟨v, a, b⟩
theorem zq {tg iter : Expr} {ds : List D} {mi : Bool} {g : TG} (fr : Bool) (G : D -> b0 -> b0) (P : Nat -> b0 -> Prop) (hi : PI X tg iter fun σ H R => au F.H H /\ Ei X.K mi (view false fr ρ) ds σ H R) (h0 : P 0 ρ) (hg : PG X tg g)
 (hG : ∀ n d r (hv : St) (hρ : b0) (σ : St) (H H1 : Hp) (A : Nat -> List Addr) (v : V) (Q : St -> Hp -> Prop), ds[n]? = some d -> P n r -> σ.length = r.length -> bz X.K F H (σ ++ hv) (r ++ hρ) A -> au H H1 -> In X.K H1 (zn F (aG A) fr) d v ->
  (∀ σ' H', lK X.K F hv hρ (fun r' => r' = G d r) σ' H' -> Q σ' H') -> g v σ H1 Q)
 (hb : ∀ n d r, ds[n]? = some d -> P n r -> SD X F body (G d r) { Q with nx := P (n + 1), ct := P (n + 1), bk := fun r => SD X F rest r Q }) (hd : ∀ r, P ds.length r -> SD X F rest r Q)
 (hc : X.calm = true := by rfl) (hs : ∀ x, foldedSetIterable iter X.env x = pure x := by intro _; rfl) (hp : PassesOwn (model X.prog X.w) X.A X.env X.xe := by exact PassesOwn.never) : SD X F (.For tg iter body [] pos :: rest) ρ Q := by
 refine gL (N := fun r => SD X F rest r Q) ?_ fun _ h => h;refine PS.mono (AG (g := g) (tb := fun Q' σ H => ∃ n d r, ds[n]? = some d /\ P n r /\ tS X.K F (G d r) { Q with nx := P (n + 1), ct := P (n + 1), bk := fun r => SD X F rest r Q } Q' σ H) hp hc hi hg
  (fun pins s σ H Q' I ⟨n, d, r, e, pr, q⟩ => hb n d r e pr pins s σ H Q' I q) hs) fun Q' σ H z0 => fF z0 fun hv hρ A hl S f => ?_
 refine ⟨S.same, _, aF S false fr, S.env hl false fr, fun J H1 vs cS s1 i1 Y => ?_⟩;have iz : aH X.K H1 (zn F (aG A) fr) cS vs := by
  cases mi
  . exact i1
  . exact i1.up (d5 S fr)
 have hsv := iz.length;refine ⟨fun n m σ H => m = ds.length - n /\ n <= ds.length /\ ∃ r A, P n r /\ σ.length = r.length /\ bz X.K F H (σ ++ (hv ++ vs.map some)) (r ++ (hρ ++ AL fr cS)) A, ⟨_, rfl, Nat.zero_le _, ρ, A, h0, hl, (S.grow s1).hide hl f.hl iz⟩, ?_⟩;rintro n m σ1 H2 ⟨rfl, hn, r, A1, pr, hl1, S1⟩;have iz1 := S1.cS hl1 f.hl hsv;by_cases hlt : n < ds.length
 . have hdn : ds[n]? = some ds[n] := by simp [hlt]
   obtain ⟨go, yl⟩ := Y.go _ H2 (d5 S1 fr) iz1 n ds[n] hdn;refine .inr ⟨go, lK X.K F (hv ++ vs.map some) (hρ ++ AL fr cS) (P (n + 1)), fun σ' H' ⟨r', A', hl', S', p'⟩ => ⟨ds.length - (n + 1), by omega, rfl, hlt, r', A', p', hl', S'⟩, fun y H3 hy => ?_⟩;obtain ⟨s3, iy⟩ := yl y H3 hy;refine hG n ds[n] r _ _ σ1 H2 H3 A1 y _ hdn pr hl1 S1 s3 iy fun σ4 H4 ⟨r4, A4, hl4, S4, e4⟩ => ?_;subst e4;refine ⟨n, ds[n], r, hdn, pr, _, _, A4, hl4, S4, ⟨by simp [AL, f.hl, hsv], fun _ _ h => h, fun σ5 H5 ⟨r5, A5, hl5, S5, q5⟩ => f.nx σ5 H5 ⟨r5, A5, hl5, S5.gQ hl5 f.hl, q5⟩, fun _ _ h => h, f.rt, f.rtT, fun σ6 H6 r6 A6 v6 d6 as6 hl6 S6 => f.rtM σ6 H6 r6 A6 v6 d6 as6 hl6 (S6.gQ hl6 f.hl), fun σ6 H6 r6 A6 v6 hl6 S6 => f.rtS σ6 H6 r6 A6 v6 hl6 (S6.gQ hl6 f.hl)⟩⟩
 . have e : n = ds.length := by omega
   subst e;exact .inl ⟨Y.stop _ H2 (d5 S1 fr) iz1, f.nx _ _ ⟨r, A1, hl1, S1.gQ hl1 f.hl, hd r pr⟩⟩
theorem qD {tg iter : Expr} {ds : List D} {mi : Bool} {g : TG} (fr : Bool) (G : D -> b0 -> b0) (P : Nat -> b0 -> Prop) (hi : IT X tg mi (view false fr ρ) iter ds) (h0 : P 0 ρ) (hg : PG X tg g)
 (hG : ∀ n d r (hv : St) (hρ : b0) (σ : St) (H H1 : Hp) (A : Nat -> List Addr) (v : V) (Q : St -> Hp -> Prop), ds[n]? = some d -> P n r -> σ.length = r.length -> bz X.K F H (σ ++ hv) (r ++ hρ) A -> au H H1 -> In X.K H1 (zn F (aG A) fr) d v ->
  (∀ σ' H', lK X.K F hv hρ (fun r' => r' = G d r) σ' H' -> Q σ' H') -> g v σ H1 Q)
 (hb : ∀ n d r, ds[n]? = some d -> P n r -> SD X F body (G d r) { Q with nx := P (n + 1), ct := P (n + 1), bk := fun r => SD X F rest r Q }) (hd : ∀ r, P ds.length r -> SD X F rest r Q)
 (hc : X.calm = true := by rfl) (hs : ∀ x, foldedSetIterable iter X.env x = pure x := by intro _; rfl) (hp : PassesOwn (model X.prog X.w) X.A X.env X.xe := by exact PassesOwn.never) : SD X F (.For tg iter body [] pos :: rest) ρ Q :=
 zq fr G P (PI.mono hi fun σ H R h => h.2) h0 hg hG hb hd hc hs hp
theorem g6 (k : Nat) (fr : Bool) {x : Str} {px : Pos} {iter : Expr} {ds : List D} {mi : Bool} (P : Nat -> b0 -> Prop) (hi : IT X (.Name x px) mi (view false fr ρ) iter ds) (h0 : P 0 ρ) (hlen : ∀ n r, P n r -> k < r.length)
 (hb : ∀ n d r, ds[n]? = some d -> P n r -> SD X F body (r.set k (some (.pl fr d))) { Q with nx := P (n + 1), ct := P (n + 1), bk := fun r => SD X F rest r Q }) (hd : ∀ r, P ds.length r -> SD X F rest r Q)
 (hN : X.N.Nodup) (hx : X.N[k]? = some x := by rfl) (hxl : Loc X.env.scope x := by first | exact Or.inl rfl | exact Or.inr rfl) (hf : HfX X x := by first | exact .inl rfl | exact .inr rfl) (hc : X.calm = true := by rfl)
 (hs : ∀ x, foldedSetIterable iter X.env x = pure x := by intro _; rfl) (hp : PassesOwn (model X.prog X.w) X.A X.env X.xe := by exact PassesOwn.never) : SD X F (.For (.Name x px) iter body [] pos :: rest) ρ Q :=
 qD fr (fun d r => r.set k (some (.pl fr d))) P hi h0 (eG hN hx hxl hf) (fun n d r hv hρ σ H H1 A v q e pr hl S s i h => h _ _ (jE hl S (hlen n r pr) s i)) hb hd hc hs hp
theorem cC (k : Nat) {x : Str} {px : Pos} {iter : Expr} {ds : List D} {mi : Bool} (P : Nat -> b0 -> Prop) (hi : IT X (.Name x px) mi (view false false ρ) iter ds) (fl : ∀ d ∈ ds, d.flat = true) (h0 : P 0 ρ) (hlen : ∀ n r, P n r -> k < r.length)
 (hb : ∀ (n : Nat) d r, ds[n]? = some d -> P n r -> SD X F body (r.set k (some (.pl true d))) { Q with nx := P (n + 1), ct := P (n + 1), bk := fun r => SD X F rest r Q }) (hd : ∀ r, P ds.length r -> SD X F rest r Q)
 (hN : X.N.Nodup) (hx : X.N[k]? = some x := by rfl) (hxl : Loc X.env.scope x := by first | exact Or.inl rfl | exact Or.inr rfl) (hf : HfX X x := by first | exact .inl rfl | exact .inr rfl) (hc : X.calm = true := by rfl)
 (hs : ∀ x, foldedSetIterable iter X.env x = pure x := by intro _; rfl) (hp : PassesOwn (model X.prog X.w) X.A X.env X.xe := by exact PassesOwn.never) : SD X F (.For (.Name x px) iter body [] pos :: rest) ρ Q :=
 qD false (fun d r => r.set k (some (.pl true d))) P hi h0 (eG hN hx hxl hf) (fun n d r hv hρ σ H H1 A v q e pr hl S s i h => h _ _ (jE hl S (hlen n r pr) s (i.ef (fl d (mem_of_getElem? e))))) hb hd hc hs hp
theorem p5 (k l : Nat) (fr : Bool) {x y : Str} {px py pt : Pos} {kt : Nat} {iter : Expr} {ds : List D} {mi : Bool} (P : Nat -> b0 -> Prop) (hi : IT X (.Tuple [.Name x px, .Name y py] kt pt) mi (view false fr ρ) iter ds) (h0 : P 0 ρ)
 (hlen : ∀ n r, P n r -> k < r.length /\ l < r.length) (hpair : ∀ d ∈ ds, ∃ d1 d2, d = .tup [d1, d2])
 (hb : ∀ n d1 d2 r, ds[n]? = some (.tup [d1, d2]) -> P n r -> SD X F body ((r.set k (some (.pl fr d1))).set l (some (.pl fr d2))) { Q with nx := P (n + 1), ct := P (n + 1), bk := fun r => SD X F rest r Q }) (hd : ∀ r, P ds.length r -> SD X F rest r Q)
 (hN : X.N.Nodup) (hx : X.N[k]? = some x := by rfl) (hy : X.N[l]? = some y := by rfl) (hxl : Loc X.env.scope x := by first | exact Or.inl rfl | exact Or.inr rfl) (hyl : Loc X.env.scope y := by first | exact Or.inl rfl | exact Or.inr rfl)
 (hf : HfX X x := by first | exact .inl rfl | exact .inr rfl) (hf' : X.fn y = true \/ X.env.scope.names.lookup y = some .local := by first | exact .inl rfl | exact .inr rfl) (hc : X.calm = true := by rfl)
 (hs : ∀ x, foldedSetIterable iter X.env x = pure x := by intro _; rfl) (hp : PassesOwn (model X.prog X.w) X.A X.env X.xe := by exact PassesOwn.never)
 (hes : (assignEach [.Name x px, .Name y py] X.env).map (·.2) = [assign (.Name x px) X.env, assign (.Name y py) X.env] := by rfl) (hes2 : (assignEach [.Name y py] X.env).map (·.2) = [assign (.Name y py) X.env] := by rfl)
 (hen : (assignEach [.Name x px, .Name y py] X.env).length = 2 := by rfl) (hst : (assignEach [.Name x px, .Name y py] X.env).findIdx? (·.1) = none := by rfl) : SD X F (.For (.Tuple [.Name x px, .Name y py] kt pt) iter body [] pos :: rest) ρ Q := by
 refine qD (g := yH X.K 2 (jX (eE k) (jX (eE l) ye))) fr (fun d r => match d with | .tup [d1, d2] => (r.set k (some (.pl fr d1))).set l (some (.pl fr d2)) | _ => r) P hi h0
  (uy hc (fM (eG hN hx hxl hf) (fM (eG hN hy hyl hf') qv (by rw [hes2]; rfl)) (by rw [hes, hes2])) hen hst) (fun n d r hv hρ σ H H1 A v q e pr hl S s i h => ?_) (fun n d r e pr => ?_) hd hc hs hp
 . obtain ⟨d1, d2, rfl⟩ := hpair d (mem_of_getElem? e);obtain ⟨a, xs, rfl, t, j⟩ := aN i;obtain ⟨v1, r1, rfl, i1, j1⟩ := ar.mp j;obtain ⟨v2, r2, rfl, i2, j2⟩ := ar.mp j1;cases aC.mp j2;refine ⟨a, _, rfl, t, rfl, v1, _, rfl, v2, _, rfl, rfl, ?_⟩;exact h _ _ (jE (by simp [hl]) (pM (fr := fr) hl S (hlen n r pr).1 s i1) (by simpa using (hlen n r pr).2) (au.refl _) (i2.carry lY))
 . obtain ⟨d1, d2, rfl⟩ := hpair d (mem_of_getElem? e);exact hb n d1 d2 r e pr
end
def Ez (K : Frag) (m : Bool) (G : List D -> D -> Prop) : Sp := fun vs H Q _ => ∃ (Z : aE) (ds : List D) (d : D), Z.Open H /\ aH K H Z ds vs /\ G ds d /\ ∀ v H', au H H' -> In K H' (out m Z H) d v -> Q v H'
structure Def (P : Program) (w : World) (K : Frag) (mg : HE) (base : Heap) (k : Nat) (x : Str) (m : Bool) (G : List D -> D -> Prop) : Prop where
 ex : ∃ f fd ps, fi P w K mg base lM k f fd ps (Ez K m G) /\ mg x = some (.ref f) /\ keepIn K (.ref f) = true /\ Binds K fd ps []
section
variable {X : Cx} {ρ : List (Option D)} {m : Bool} {e : Expr} {es : List Expr} {ds : List D} {d : D} {pos p : Pos} {k : Nat} {x : Str} {G : List D -> D -> Prop}
theorem ay (Df : Def X.prog X.w X.K X.mg X.base k x m G) (hr : bx k X.A) (ha : EA X ρ (e :: es) ds) (h : G ds d) (hg : Gl X x := by rfl) (hdb : NdX x := by decide)
 (he : starEach (e :: es) X.env = (false, eval e X.env) :: starEach es X.env := by rfl) (hpl : (backTo pos (starEach es X.env)).any (·.1) = false := by rfl) : E X m ρ (.Call (.Name x p) (e :: es) [] pos) d := by
 obtain ⟨f, fd, ps, a, b, c, dd⟩ := Df.ex;exact PE.mono (qh a hr hg b c dd .nil vg ha hdb he hpl) fun σ H Q z0 => bo z0 fun Z oz en k => ⟨Z, oz, en, fun vs H1 s1 i1 => by
  show Ez X.K m G (vs ++ []) H1 Q E0;rw [append_nil];exact ⟨Z, ds, d, oz.same s1, i1, h, fun v H' s' i => k v H' (s1.trans s') (i.later s1)⟩⟩
end
def df (N : HL) (ds : List D) : b0 := ds.map (fun d => some (.pl false d)) ++ List.replicate (N.length - ds.length) none
theorem jR {K : Frag} {Z : aE} {H : Hp} {m : Bool} {N : HL} {ds : List D} {vs : List V} (oz : Z.Open H) (h : aH K H Z ds vs) : bz K ⟨m, Z, H⟩ H (L2.start N vs ++ []) (df N ds ++ []) (fun _ => []) := by
 refine ⟨au.refl H, oz, fun _ => List.nodup_nil, fun i j a ha => by simp at ha, fun i a ha => by simp at ha, fun i a ha => by simp at ha, fun i sl e => ?_⟩;rw [append_nil] at e ⊢;unfold df at e;unfold L2.start;by_cases hi : i < ds.length
 . rw [getElem?_append_left (by simpa using hi), getElem?_map] at e;have hd : ds[i]? = some ds[i] := by simp [hi]
   rw [hd] at e;have e' : some (Slot.pl false ds[i]) = some sl := by simpa using e
   cases e';obtain ⟨v, a, b⟩ := h.get hd;have hv : i < vs.length := (List.getElem?_eq_some_iff.mp a).1;refine ⟨v, by rw [getElem?_append_left (by simpa using hv), getElem?_map, a]; rfl, ?_⟩;exact In.carry (Z' := ⟨Z.m, fun a => Z.S a /\ ¬ aG (fun _ => []) a⟩) (Carry.of (au.refl H) (fun a xs e z => ⟨z, fun ⟨j, hj⟩ => by simp at hj⟩) fun m => m) b
 . rw [getElem?_append_right (by simpa using hi), List.getElem?_replicate] at e;split at e <;> cases e
section
variable {P : Program} {w : World} {K : Frag} {mg : HE} {base : Heap}
theorem G0 {x qual : Str} {st : Stmt} {f : Addr} {fd : FuncData} {N ps : HL} {k : Nat} {m : Bool} {G : List D -> D -> Prop} (Fx : eg K x qual st f fd) (S : aB N ps (ah st))
 (hlen : ∀ ds d, G ds d -> ds.length = ps.length)
 (body : ∀ (cdv : Value) (A : Around) (outer : List Env) (s : Shared) (H : Hp) (E : XK) (Z : aE) (ds : List D) (d : D), bx k (A.deeper (envOfC qual (ah st) s.heap.objs.size f cdv)) -> G ds d ->
  SD (lO lM P w K mg base N qual (ah st) f cdv A outer s H E).zL ⟨m, Z, H⟩ (bA st) (df N ds) { nx := fun _ => d = .non, rt := fun d' => d' = d }) : fi P w K mg base lM (k + 1) f fd ps (Ez K m G) := by
 refine Fx.ok S (fun vs H Q E ⟨Z, ds, d, oz, i, g, kk⟩ => ?_) (fun cdv A outer s H vs Q E hr ⟨Z, ds, d, oz, i, g, kk⟩ => ?_)
 . rw [<- i.length]; exact hlen ds d g
 . refine ⟨_, body cdv A outer s H E Z ds d hr g, [], [], fun _ => [], ?_, jR oz i, ⟨rfl, fun σ H' ⟨r, A', hl, S', e⟩ => ?_, fun σ H' ⟨r, A', hl, S', e⟩ => e.elim, fun σ H' ⟨r, A', hl, S', e⟩ => e.elim, fun v d' H' s' i' e => ?_, fun _ _ _ _ _ _ _ _ e => e.elim, fun _ _ _ _ _ _ _ _ _ _ _ _ _ e => e.elim, fun _ _ _ _ _ _ _ e => e.elim⟩⟩
   . have := i.length;simp [L2.start, df]; omega
   . subst e;exact kk .non H' S'.same (bK.mpr rfl)
   . subst e;exact kk v H' s' i'
theorem bq {x qual : Str} {st : Stmt} {f : Addr} {fd : FuncData} {N ps : HL} {k : Nat} {m : Bool} {G : List D -> D -> Prop} (Fx : eg K x qual st f fd) (S : aB N ps (ah st)) (hmg : mg x = some (.ref f)) (hb : Binds K fd ps [])
 (hlen : ∀ ds d, G ds d -> ds.length = ps.length)
 (body : ∀ (cdv : Value) (A : Around) (outer : List Env) (s : Shared) (H : Hp) (E : XK) (Z : aE) (ds : List D) (d : D), bx k (A.deeper (envOfC qual (ah st) s.heap.objs.size f cdv)) -> G ds d ->
  SD (lO lM P w K mg base N qual (ah st) f cdv A outer s H E).zL ⟨m, Z, H⟩ (bA st) (df N ds) { nx := fun _ => d = .non, rt := fun d' => d' = d }) : Def P w K mg base (k + 1) x m G := ⟨f, fd, ps, G0 Fx S hlen body, hmg, Fx.kp, hb⟩
def DC (ds : List D) (d : D) : Prop := ∃ ns : List Int, ns.length <= 63 /\ ds = [.lst (ns.map D.int)] /\ d = .bl true
def rX (K : Frag) : Sp := fun vs H Q _ => ∃ (a : Addr) (ns : HM), vs = [.ref a] /\ dZ K H a (ns.map V.int) /\ ns.length <= 63 /\ TabsOk H /\ ∀ H', Q (.bl true) H'
theorem yA {H : Hp} {vs : List V} {Q : VK} {E : XK} (h : rX K vs H Q E) : Ez K false DC vs H Q E := by
 obtain ⟨a, ns, rfl, hS, hl, tb, q⟩ := h;refine ⟨Fg, [.lst (ns.map D.int)], .bl true, xj tb, aH.one (av.mpr ⟨a, _, rfl, ?_, nv ns⟩), ⟨ns, hl, rfl, rfl⟩, fun v H' s i => ?_⟩
 . rcases hS with (h | h) | h
   . exact .inl ⟨h, trivial⟩
   . exact .inr ⟨rfl, .inl h⟩
   . exact .inr ⟨rfl, .inr h⟩
 . rw [aR.mp i]; exact q H'
theorem Et {k : Nat} {f : Addr} {fd : FuncData} {ps : HL} (h : fi P w K mg base lM k f fd ps (Ez K false DC)) : fi P w K mg base lM k f fd ps (rX K) := h.imp fun _ _ _ _ q => yA q
end
section
variable {X : Cx} {F : Fn} {ρ : b0} {Q : iu} {rest : List Stmt} {e : Expr} {d : D} {pos p : Pos} {x : Str} {fr m1 : Bool} {ds : List D} {dss : List (List D)}
theorem kX {a : Addr} : [a].Nodup := by simp
theorem fG (i : Nat) {x : Str} {ds : List D} (he : E X true (view true false ρ) e (.lst ds)) (fl : bj ds = true) (hr : SD X F rest (ρ.set i (some (.ow true ds))) Q) (hN : X.N.Nodup) (hi : X.N[i]? = some x := by rfl)
 (hx : Loc X.env.scope x := by first | exact Or.inl rfl | exact Or.inr rfl) (hρ : i < ρ.length := by exact of_decide_eq_true rfl) (hs : swapsWith e (some (.Name x p)) pos.line X.env = pure false := by rfl) (hf : HfX X x := by first | exact .inl rfl | exact .inr rfl) :
 SD X F (.Assign [.Name x p] e pos :: rest) ρ Q :=
 bB (PS.mono (jK hN hi hx he hs hf) fun Q' σ H z0 => fF z0 fun hv hρ' A hl S f => ⟨_, aF S true false, S.env hl true false, fun v H1 s1 i1 => by
  obtain ⟨l, xs, rfl, at', j⟩ := av.mp i1;obtain ⟨e1, e2⟩ : H1 l = some (.lst xs) /\ H l = none := by
   rcases at' with z | z
   . exact z
   . exact absurd z.1 (by simp [out, nw])
  refine f.nx _ H1 ⟨_, bP A i [l], by simp [hl], ?_, rfl⟩;rw [<- aX (by omega), <- aX hρ];exact S.put (by rw [List.length_append]; omega) (by rw [List.length_append]; omega) s1 kX (fun a ha => by
   have : a = l := by simpa using ha
   subst this;exact ⟨e2, .l xs, e1⟩) ⟨l, xs, rfl, rfl, e1, j.ef fl⟩⟩) hr
theorem yW (i : Nat) {x : Str} (he : E X true (view true false ρ) e (.lst [.lst []])) (hr : SD X F rest (ρ.set i (some (.kI true [[]]))) Q) (hN : X.N.Nodup) (hi : X.N[i]? = some x := by rfl)
 (hx : Loc X.env.scope x := by first | exact Or.inl rfl | exact Or.inr rfl) (hρ : i < ρ.length := by exact of_decide_eq_true rfl) (hs : swapsWith e (some (.Name x p)) pos.line X.env = pure false := by rfl) (hf : HfX X x := by first | exact .inl rfl | exact .inr rfl) :
 SD X F (.Assign [.Name x p] e pos :: rest) ρ Q :=
 bB (PS.mono (jK hN hi hx he hs hf) fun Q' σ H z0 => fF z0 fun hv hρ' A hl S f => ⟨_, aF S true false, S.env hl true false, fun v H1 s1 i1 => by
  obtain ⟨l, xs, rfl, at', j⟩ := av.mp i1;obtain ⟨w, r, rfl, iw, jr⟩ := ar.mp j;cases aC.mp jr;obtain ⟨a, ys, rfl, at2, j2⟩ := av.mp iw;cases aC.mp j2;obtain ⟨e1, e2⟩ : H1 l = some (.lst [.ref a]) /\ H l = none := by
   rcases at' with z | z
   . exact z
   . exact absurd z.1 (by simp [out, nw])
  obtain ⟨e3, e4⟩ : H1 a = some (.lst []) /\ H a = none := by
   rcases at2 with z | z
   . exact z
   . exact absurd z.1 (by simp [out, nw])
  have nla : l ≠ a := eF e1 e3 (by intro z; cases z);refine f.nx _ H1 ⟨_, bP A i [l, a], by simp [hl], ?_, rfl⟩;rw [<- aX (by omega), <- aX hρ];exact S.put (by rw [List.length_append]; omega) (by rw [List.length_append]; omega) s1 (by simp [nla]) (fun b hb => by
   rcases mem_cons.mp hb with rfl | hb
   . exact ⟨e2, .l _, e1⟩
   . have : b = a := by simpa using hb
     subst this;exact ⟨e4, .l _, e3⟩) ⟨l, [a], rfl, rfl, e1, .cons ⟨[], e3, aC.mpr rfl⟩ .nil⟩⟩) hr
theorem cn {α : Type} {l : List α} {i : Nat} {v : α} (h : l[i]? = some v) : l.set i v = l := by
 obtain ⟨hi, e⟩ := List.getElem?_eq_some_iff.mp h;rw [<- e, List.set_getElem_self]
theorem bz.ow {K : Frag} {H : Hp} {σ hv : St} {hρ : b0} {A : Nat -> List Addr} {i : Nat} (S : bz K F H (σ ++ hv) (ρ ++ hρ) A) (hl : σ.length = ρ.length) (h : ρ[i]? = some (some (.ow fr ds))) :
 ∃ l xs, σ[i]? = some (some (.ref l)) /\ A i = [l] /\ H l = some (.lst xs) /\ aH K H (zn F (aG A) fr) ds xs := by
 have hi : i < ρ.length := (List.getElem?_eq_some_iff.mp h).1;obtain ⟨v, a, l, xs, e1, rfl, e2, j⟩ := S.at' i _ (by rw [getElem?_append_left hi]; exact h);rw [getElem?_append_left (by omega)] at a;exact ⟨l, xs, a, e1, e2, j⟩
theorem qS {K : Frag} {hv : St} {hρ : b0} {σ : St} {H : Hp} {A : Nat -> List Addr} {i : Nat} {l : Addr} {xs ys : List V} {es : List D} (hl : σ.length = ρ.length) (S : bz K F H (σ ++ hv) (ρ ++ hρ) A) (h : σ[i]? = some (some (.ref l))) (hA : A i = [l]) (hx : H l = some (.lst xs))
 (j : aH K H (zn F (aG A) fr) es ys) : lK K F hv hρ (fun r => r = ρ.set i (some (.ow fr es))) σ (upd H l (.lst ys)) := by
 have hi : i < σ.length := (List.getElem?_eq_some_iff.mp h).1;refine ⟨_, bP A i [l], by simp [hl], ?_, rfl⟩;have key := S.re (i := i) (v := .ref l) (sl := .ow fr es) (l := [l]) (H2 := upd H l (.lst ys)) (by rw [List.length_append]; omega) (by rw [List.length_append]; omega) (S.same.write (S.new i l (by rw [hA]; simp)) hx) (fun b o e _ hb => ?_) kX (fun a ha => ?_) ⟨l, ys, rfl, rfl, ak, ?_⟩
 . rw [cn (by rw [getElem?_append_left hi]; exact h), aX (by omega)] at key;exact key
 . rw [hA] at hb;have : b ≠ l := by simpa using hb
   rw [ae this]; exact e
 . have : a = l := by simpa using ha
   subst this;exact ⟨.inl (by rw [hA]; simp), .l ys, ak⟩
 . have eqA : bP A i [l] = A := by
    funext k;by_cases q : k = i
    . rw [q, aY, hA]
    . rw [bM q]
   rw [eqA];refine j.carry (.write hx ?_);unfold zn;have o : aG A l := ⟨i, by rw [hA]; simp⟩
   cases fr
   . exact fun z => z.2 o
   . exact fun z => z.2 o
theorem wb (i : Nat) {x : Str} {ap cp : Pos} {ds : List D} (fr : Bool) {d : D} (h : ρ[i]? = some (some (.ow fr ds)) := by rfl) (he : E X m1 (view false fr ρ) e d) (hz : ds.length < 1000) (hr : SD X F rest (ρ.set i (some (.ow fr (ds ++ [d])))) Q)
 (hN : X.N[i]? = some x := by rfl) (hv : sx X.env.scope x := by first | exact Or.inl rfl | exact Or.inr (Or.inl rfl) | exact Or.inr (Or.inr rfl)) (hd : NdX x := by decide) (hcd : NcX x := by decide)
 (hbase : attributeBase (.Name x p) "append" X.env (eval (.Name x p) X.env) = eval (.Name x p) X.env := by rfl) (hline : (ap.endLine == cp.line) = true := by rfl)
 (hs : starEach [e] X.env = [(false, eval e X.env)] := by rfl) (hsw : swapsWith (.Call (.Attribute (.Name x p) "append" ap) [e] [] cp) none pos.line X.env = pure false := by rfl) :
 SD X F (.Expr (.Call (.Attribute (.Name x p) "append" ap) [e] [] cp) pos :: rest) ρ Q := by
 refine bB (PS.mono (dX (gY PySem.F.plainAttrs_list PySem.F.slot_list_append PySem.F.type_list_append cz (dg hN hv hd hcd) (aK he bu (by rw [hs]; rfl)) hbase (by rw [hs]; rfl) hline (by rw [hs]; rfl) rfl) hsw) ?_) hr;rintro Q' σ H ⟨hv, hρ, A, hl, S, f⟩;obtain ⟨l, xs, e1, e2, e3, j⟩ := S.ow hl h;refine ⟨.ref l, e1, .inl ⟨rfl, xs, dZ.of e3⟩, _, aF S false fr, S.env hl false fr, fun v H1 s1 i1 => ?_⟩;have i2 : In X.K H1 (zn F (aG A) fr) d v := i1.plain (aF S false fr);refine ⟨l, xs, v, rfl, rfl, s1.at e3, by rw [<- j.length]; exact aW (by omega), f.nx _ _ (qS hl (S.grow s1) e1 e2 (s1.at e3) ((j.same s1).append (aH.one i2)))⟩
theorem fR (i : Nat) {x : Str} {ap cp : Pos} {ds : List D} (fr : Bool) {d : D} (h : ρ[i]? = some (some (.ow fr ds)) := by rfl) (he : E X m1 (view true false ρ) e d) (fl : d.flat = true) (hz : ds.length < 1000) (hr : SD X F rest (ρ.set i (some (.ow fr (ds ++ [d])))) Q)
 (hN : X.N[i]? = some x := by rfl) (hv : sx X.env.scope x := by first | exact Or.inl rfl | exact Or.inr (Or.inl rfl) | exact Or.inr (Or.inr rfl)) (hd : NdX x := by decide) (hcd : NcX x := by decide)
 (hbase : attributeBase (.Name x p) "append" X.env (eval (.Name x p) X.env) = eval (.Name x p) X.env := by rfl) (hline : (ap.endLine == cp.line) = true := by rfl)
 (hs : starEach [e] X.env = [(false, eval e X.env)] := by rfl) (hsw : swapsWith (.Call (.Attribute (.Name x p) "append" ap) [e] [] cp) none pos.line X.env = pure false := by rfl) :
 SD X F (.Expr (.Call (.Attribute (.Name x p) "append" ap) [e] [] cp) pos :: rest) ρ Q := by
 refine bB (PS.mono (dX (gY PySem.F.plainAttrs_list PySem.F.slot_list_append PySem.F.type_list_append cz (dg hN hv hd hcd) (aK he bu (by rw [hs]; rfl)) hbase (by rw [hs]; rfl) hline (by rw [hs]; rfl) rfl) hsw) ?_) hr;rintro Q' σ H ⟨hv, hρ, A, hl, S, f⟩;obtain ⟨l, xs, e1, e2, e3, j⟩ := S.ow hl h;refine ⟨.ref l, e1, .inl ⟨rfl, xs, dZ.of e3⟩, _, aF S true false, S.env hl true false, fun v H1 s1 i1 => ?_⟩;refine ⟨l, xs, v, rfl, rfl, s1.at e3, by rw [<- j.length]; exact aW (by omega), f.nx _ _ (qS hl (S.grow s1) e1 e2 (s1.at e3) ((j.same s1).append (aH.one (i1.ef fl))))⟩
end
section
variable {X : Cx}
theorem DM : GB X (fun x lo hi H Q => ∃ z, x = .str z /\ z.length <= sizeLine /\ Q (.str (Txt.slice z lo hi)) H) := by
 intro pins s σ H x v vl vu lo hi sl Q I rx hs pl pu h;obtain ⟨z, rfl, hz, q⟩ := h;obtain ⟨t, rfl⟩ := rx;refine ⟨"str", _, F.slot_str_getitem.lookup, typeIs_str _ _ _, ?_⟩;have fin : ∀ t' k, EP X pins σ Q (.str (Txt.slice z lo hi) t') { s with toks := k } := fun t' k => ⟨.str (Txt.slice z lo hi), H, I.tok k, ⟨_, rfl⟩, q⟩
 have key : ∀ (l u : Option (Int × Tok)), vl = partValue l -> vu = partValue u -> l.map (·.1) = lo -> u.map (·.1) = hi -> wpAny (model X.prog X.w) X.A (getItem (.str z t) (.ref sl)) (EP X pins σ Q) X.xe s := fun l u e1 e2 e3 e4 => by
  subst e1 e2 e3 e4;exact wpAny_getItem_str_slice (l := l) (u := u) (st := none) hs rfl (post_val_or_str ⟨Nat.le_trans (Txt.slice_le z _ _) hz, fun t' k => fin t' k⟩)
 cases pl with
 | none =>
  cases pu with
  | none => exact key none none rfl rfl rfl rfl
  | int j tj => exact key none (some (j, tj)) rfl rfl rfl rfl
 | int i ti =>
  cases pu with
  | none => exact key (some (i, ti)) none rfl rfl rfl rfl
  | int j tj => exact key (some (i, ti)) (some (j, tj)) rfl rfl rfl rfl
inductive qK (K : Frag) (H : Hp) : V -> String -> Bool -> Prop where
 | bb (b : Bool) : qK K H (.bl b) "bool" true
 | bi (b : Bool) : qK K H (.bl b) "int" true
 | ii (i : Int) : qK K H (.int i) "int" true
 | ib (i : Int) : qK K H (.int i) "bool" false
 | ss (x : Str) : qK K H (.str x) "str" true
 | ll {a : Addr} {xs : List V} (h : dZ K H a xs) : qK K H (.ref a) "list" true
 | tt {a : Addr} {xs : List V} (h : x8 K H a xs) : qK K H (.ref a) "tuple" true
theorem rg : lu X (.builtin "isinstance") (fun xs H Q => ∃ x T b, xs = [x, .ty T] /\ qK X.K H x T b /\ Q (.bl b) H) := by
 intro pins s σ H xs us Q I r h;obtain ⟨x, T, b, rfl, hi, q⟩ := h;obtain ⟨u, w', rfl, ru, rw'⟩ := vals2 r;cases rw';have fin : ∀ k, EP X pins σ Q (.bool b) { s with toks := k } := fun k => ⟨.bl b, H, I.tok k, rfl, q⟩
 cases hi with
 | bb => cases ru; exact IsiPair.bool_bool (fin s.toks)
 | bi => cases ru; exact IsiPair.bool_int (fin s.toks)
 | ii => obtain ⟨t, rfl⟩ := ru; exact IsiPair.int_int (fin s.toks)
 | ib => obtain ⟨t, rfl⟩ := ru; exact IsiPair.int_bool (fin _)
 | ss => obtain ⟨t, rfl⟩ := ru; exact IsiPair.str_str (fin s.toks)
 | ll h =>
  cases ru;obtain ⟨its, _, ⟨o, n, e, c, _⟩, _⟩ := I.list h;exact IsiPair.list_list e c (fin s.toks)
 | tt h =>
  cases ru;obtain ⟨its, _, ⟨o, e, c, _⟩, _⟩ := I.tuple h;exact IsiPair.tuple_tuple e c (fin s.toks)
end
section
variable {X : Cx} {ρ : List (Option D)} {m m1 m2 : Bool} {a e o : Expr} {d : D} {pos p ap cp : Pos} {ds : List D}
theorem oR {z : Str} {lo hi : Option Expr} {l u : Option Int} {p2 : Pos} (ha : E X m1 ρ a (.str z)) (hl : EO X ρ lo l) (hu : EO X ρ hi u) (hz : z.length <= sizeLine) : E X true ρ (.Subscript a (.Slice lo hi none p2) pos) (.str (Txt.slice z l u)) :=
 PE.mono (rC DM ha hl hu) fun σ H Q z0 => bo z0 fun Z oz en k => ⟨Z, oz, en, fun x H1 s1 i1 => ⟨Z, oz.same s1, en.same s1, fun H2 s2 => ⟨Z, oz.same (s1.trans s2), en.same (s1.trans s2), fun H3 s3 =>
  ⟨z, in_str.mp (i1.plain oz), hz, k _ H3 ((s1.trans s2).trans s3) (in_str.mpr rfl)⟩⟩⟩⟩
theorem dw (ha : E X m1 ρ a (.lst ds)) (hm : X.mg "len" = none) (hg : Gl X "len" := by rfl) (hs : starEach [a] X.env = [(false, eval a X.env)] := by rfl) : E X true ρ (.Call (.Name "len" p) [a] [] pos) (.int ds.length) :=
 PE.mono (gU pO hg hm PySem.boot_len (aK ha bu (by rw [hs]; rfl)) (by decide) (by decide) (by rw [hs]; rfl) rfl) fun σ H Q z0 => bo z0 fun Z oz en k => ⟨Z, oz, en, fun x H1 s1 i1 => by
  obtain ⟨l, xs, rfl, at', j⟩ := av.mp (i1.plain oz);exact ⟨l, xs, rfl, .inl at'.sq, k _ H1 s1 (ao.mpr (by rw [j.length]))⟩⟩
theorem je {z : Str} (ha : E X m1 ρ a (.str z)) (hz : z.length <= sizeLine) (hm : X.mg "len" = none) (hg : Gl X "len" := by rfl) (hs : starEach [a] X.env = [(false, eval a X.env)] := by rfl) : E X true ρ (.Call (.Name "len" p) [a] [] pos) (.int z.length) :=
 PE.mono (gU pY hg hm PySem.boot_len (aK ha bu (by rw [hs]; rfl)) (by decide) (by decide) (by rw [hs]; rfl) rfl) fun σ H Q z0 => bo z0 fun Z oz en k => ⟨Z, oz, en, fun x H1 s1 i1 => by
  cases in_str.mp (i1.plain oz);exact ⟨z, rfl, hz, k _ H1 s1 (ao.mpr rfl)⟩⟩
def Eh : D -> String -> Option Bool
 | .bl _, "bool" => some true
 | .bl _, "int" => some true
 | .int _, "int" => some true
 | .int _, "bool" => some false
 | .str _, "str" => some true
 | .lst _, "list" => some true
 | .tup _, "tuple" => some true
 | _, _ => none
theorem AR {K : Frag} {H : Hp} {Z : aE} {v : V} {ty : String} {b : Bool} (i : In K H Z d v) (h : Eh d ty = some b) : qK K H v ty b := by
 unfold Eh at h;split at h <;> first
  | (cases h; done)
  | (cases h; rw [aR.mp i]; exact .bb _)
  | (cases h; rw [aR.mp i]; exact .bi _)
  | (cases h; rw [ao.mp i]; exact .ii _)
  | (cases h; rw [ao.mp i]; exact .ib _)
  | (cases h; rw [in_str.mp i]; exact .ss _)
  | (cases h; obtain ⟨a, xs, rfl, at', _⟩ := av.mp i; exact .ll at'.sq)
  | (cases h; obtain ⟨a, xs, rfl, at', _⟩ := aN i; exact .tt at')
theorem CJ {ty : String} {tn : Str} {p2 : Pos} {b : Bool} (ha : E X m1 ρ a d) (h : Eh d ty = some b) (hv : bootBuiltins tn = some (.type ty)) (hm : X.mg "isinstance" = none) (hm2 : X.mg tn = none) (hg : Gl X "isinstance" := by rfl) (hg2 : Gl X tn := by rfl)
 (hs : starEach [a, .Name tn p2] X.env = [(false, eval a X.env), (false, eval (.Name tn p2) X.env)] := by rfl) (hs2 : starEach [.Name tn p2] X.env = [(false, eval (.Name tn p2) X.env)] := by rfl) (hn : tn ≠ "__name__" := by decide) (hdb : NdX tn := by decide) :
 E X true ρ (.Call (.Name "isinstance" p) [a, .Name tn p2] [] pos) (.bl b) :=
 PE.mono (gU rg hg hm boot_isinstance (aK ha (aK (Bx (v := .ty ty) hg2 hm2 hv rfl hn hdb) bu (by rw [hs2]; rfl)) (by rw [hs, hs2])) (by decide) (by decide) (by rw [hs, hs2]) (by rw [hs2]; rfl)) fun σ H Q z0 => bo z0 fun Z oz en k => ⟨Z, oz, en, fun x H1 s1 i1 =>
  ⟨x, ty, b, rfl, AR (i1.plain oz) h, k _ H1 s1 (aR.mpr rfl)⟩⟩
theorem lH {K : Frag} {H : Hp} {Z : aE} : ∀ {bs : List Bool} {vs : List V}, aH K H Z (bs.map D.bl) vs -> vs = bs.map V.bl
 | [], _, h => aC.mp h
 | n :: ns, _, h => by
  obtain ⟨v, r, rfl, a, j⟩ := ar.mp h;rw [aR.mp a, lH j]; rfl
theorem Bg (ha : E X m1 ρ a (.lst ds)) (hm : X.mg "list" = none) (hmm : m = true -> m1 = true \/ bj ds = true := by intro h; first | exact .inl h | cases h) (hg : Gl X "list" := by rfl) (hs : starEach [a] X.env = [(false, eval a X.env)] := by rfl) : E X m ρ (.Call (.Name "list" p) [a] [] pos) (.lst ds) :=
 PE.mono (xv qI hg hm boot_list (aK ha bu (by rw [hs]; rfl)) (by decide) (by decide) (by rw [hs]; rfl) rfl) fun σ H Q z0 => bo z0 fun Z oz en k => ⟨Z, oz, en, fun x H1 s1 i1 => by
  obtain ⟨l, xs, rfl, at', j⟩ := av.mp i1;refine ⟨l, xs, rfl, .inl at'.sq, fun q hq => k (.ref q) _ (s1.trans (az hq)) (av.mpr ⟨q, xs, rfl, .inl ⟨ak, ?_⟩, ?_⟩)⟩
  . cases m
    . exact oz q (s1.free hq)
    . exact s1.free hq
  . have jc := j.same (az (o := .lst xs) hq);cases m
    . cases m1
      . exact jc
      . exact jc.up oz
    . rcases hmm rfl with h | h
      . subst h; exact jc
      . exact jc.ef h⟩
end
def Fi : Key -> D -> Bool
 | .inl a, .int b => a == b
 | .inl a, .bl b => a == (if b then 1 else 0)
 | .inr a, .str b => a == b
 | _, _ => false
def lN : List Key -> List D -> Bool
 | [], [] => true
 | k :: ks, d :: ds => Fi k d && lN ks ds
 | _, _ => false
mutual
def aV : D -> D -> Bool
 | .non, .non => true
 | .bl a, .bl b => a == b
 | .bl a, .int b => (if a then 1 else 0) == b
 | .int a, .bl b => a == (if b then 1 else 0)
 | .int a, .int b => a == b
 | .str a, .str b => a == b
 | .lst a, .lst b => cV a b
 | .tup a, .tup b => cV a b
 | .tup a, .ktup ks => cV a (ks.map kD)
 | .dct _, .dct _ => true
 | .agg _ _, .agg _ _ => true
 | .ktup ks, .tup b => lN ks b
 | .ktup ks, .ktup ks' => lN ks (ks'.map kD)
 | _, _ => false
def cV : List D -> List D -> Bool
 | [], [] => true
 | a :: as, b :: bs => aV a b && cV as bs
 | _, _ => false
end
mutual
def D.dep : D -> Nat
 | .lst ds => cu ds + 1
 | .tup ds => cu ds + 1
 | .dct _ => 100000
 | .agg _ _ => 100000
 | .ktup _ => 1
 | _ => 0
def cu : List D -> Nat
 | [] => 0
 | d :: ds => max d.dep (cu ds)
end
theorem fL : ∀ {ds : List D} {d : D}, d ∈ ds -> d.dep <= cu ds
 | [], _, h => by simp at h
 | e :: ds, d, h => by
  unfold cu;rcases mem_cons.mp h with rfl | h
  . exact Nat.le_max_left _ _
  . exact Nat.le_trans (fL h) (Nat.le_max_right _ _)
theorem kY : ∀ ks : List Key, lN ks (ks.map kD) = true
 | [] => rfl
 | .inl a :: ks => by simp [lN, Fi, kD, kY ks]
 | .inr a :: ks => by simp [lN, Fi, kD, kY ks]
mutual
theorem bO : ∀ d : D, aV d d = true
 | .non => by simp [aV]
 | .bl _ => by simp [aV]
 | .int _ => by simp [aV]
 | .str _ => by simp [aV]
 | .lst ds => by simp [aV, kZ ds]
 | .tup ds => by simp [aV, kZ ds]
 | .dct _ => by simp [aV]
 | .agg _ _ => by simp [aV]
 | .ktup ks => by simp only [aV]; exact kY ks
theorem kZ : ∀ ds : List D, cV ds ds = true
 | [] => by simp [cV]
 | d :: ds => by simp [cV, bO d, kZ ds]
end
theorem bN : ∀ (ds es : List D), ((List.range (min ds.length es.length)).all (fun j => aV (ds.getD j .non) (es.getD j .non)) && ds.length == es.length) = cV ds es
 | [], [] => by simp [cV]
 | [], _ :: _ => by simp [cV]
 | _ :: _, [] => by simp [cV]
 | a :: as, b :: bs => by
  have ih := bN as bs;rw [cV, <- ih];have hm : min (a :: as).length (b :: bs).length = min as.length bs.length + 1 := by simp <;> omega
  rw [hm, List.range_succ_eq_map, List.all_cons, List.all_map];simp [Function.comp_def, Bool.and_assoc]
def Told {α : Type} [DecidableEq α] (f : α -> D) : Prop := ∀ a b, aV (f a) (f b) = decide (a = b)
section
variable {α β : Type} [DecidableEq α] [DecidableEq β] {f : α -> D} {g : β -> D}
theorem zk : Told D.str := fun a b => by simp only [aV]; by_cases h : a = b <;> simp [h]
theorem sP (h : Told f) : ∀ (as bs : List α), cV (as.map f) (bs.map f) = decide (as = bs)
 | [], [] => by simp [cV]
 | [], _ :: _ => by simp [cV]
 | _ :: _, [] => by simp [cV]
 | a :: as, b :: bs => by
  simp only [map_cons, cV];rw [h a b, sP h as bs];by_cases h1 : a = b <;> by_cases h2 : as = bs <;> simp [h1, h2]
theorem wz (h : Told f) : Told (fun l : List α => D.lst (l.map f)) := fun a b => by simp only [aV]; exact sP h a b
end
section
variable {X : Cx} {pins : HI} {σ : St} {H : Hp} {s : Shared} {Z Z' : aE}
theorem hV {a : Addr} {o : DO} (I : Inv X pins σ H s) (h : H a = some o.ho) : DEq.fh s.heap a := by
 cases o with
 | k kvs =>
  obtain ⟨_, _, vs, _, ⟨cls, dd, data, sl⟩, es, ep, h1, h2, h3, _⟩ := sT I.hok h;have hc : cls = .type "dict" := h2.1;have hd : data = .dict es ep := h3;subst hc hd;exact ⟨dd, es, ep, sl, h1⟩
 | t kvs =>
  obtain ⟨_, _, vs, _, ⟨cls, dd, data, sl⟩, es, ep, h1, h2, h3, _⟩ := z8 I.hok h;have hc : cls = .type "dict" := h2.1;have hd : data = .dict es ep := h3;subst hc hd;exact ⟨dd, es, ep, sl, h1⟩
theorem oK {a : Addr} {ks : List Key} (I : Inv X pins σ H s) (h : wj X.K a ks) : H a = none := by
 obtain ⟨o, _, _, hk, _⟩ := h;exact (I.bs a o (I.mod.kin a o hk)).2
theorem nJ {a : Addr} {xs : List V} {o : DO} (I : Inv X pins σ H s) (h : dZ X.K H a xs) (h' : H a = some o.ho) : False := by
 obtain ⟨_, _, ⟨ob, n, e, c, _⟩, _⟩ := I.list h;obtain ⟨dd, es, ep, sl, e'⟩ := hV I h';rw [e] at e';cases e';exact absurd c (by simp)
theorem fq {a : Addr} {xs ys : List V} (I : Inv X pins σ H s) (h : dZ X.K H a xs) (h' : x8 X.K H a ys) : False := by
 obtain ⟨_, _, ⟨o, n, e, c, _⟩, _⟩ := I.list h;obtain ⟨_, _, ⟨o', e', c', _⟩, _⟩ := I.tuple h';rw [e] at e'; cases e';rw [c] at c';exact absurd c' (by decide)
mutual
theorem In.inj (I : Inv X pins σ H s) : ∀ {d d' : D} {v : V}, In X.K H Z d v -> In X.K H Z' d' v -> d = d'
 | .non, d', v, h, h' => by
  rw [bK.mp h] at h'
  cases d' with
  | non => rfl
  | bl b => cases aR.mp h'
  | int b => cases ao.mp h'
  | str b => cases in_str.mp h'
  | lst b => obtain ⟨_, _, e, _⟩ := av.mp h'; cases e
  | tup b => obtain ⟨_, _, e, _⟩ := aN h'; cases e
  | dct b => obtain ⟨_, e, _⟩ := bw.mp h'; cases e
  | ktup b => obtain ⟨_, e, _⟩ := bG.mp h'; cases e
  | agg s b => exact absurd h' bW
 | .bl x, d', v, h, h' => by
  rw [aR.mp h] at h'
  cases d' with
  | non => cases bK.mp h'
  | bl b => cases aR.mp h'; rfl
  | int b => cases ao.mp h'
  | str b => cases in_str.mp h'
  | lst b => obtain ⟨_, _, e, _⟩ := av.mp h'; cases e
  | tup b => obtain ⟨_, _, e, _⟩ := aN h'; cases e
  | dct b => obtain ⟨_, e, _⟩ := bw.mp h'; cases e
  | ktup b => obtain ⟨_, e, _⟩ := bG.mp h'; cases e
  | agg s b => exact absurd h' bW
 | .int x, d', v, h, h' => by
  rw [ao.mp h] at h'
  cases d' with
  | non => cases bK.mp h'
  | bl b => cases aR.mp h'
  | int b => cases ao.mp h'; rfl
  | str b => cases in_str.mp h'
  | lst b => obtain ⟨_, _, e, _⟩ := av.mp h'; cases e
  | tup b => obtain ⟨_, _, e, _⟩ := aN h'; cases e
  | dct b => obtain ⟨_, e, _⟩ := bw.mp h'; cases e
  | ktup b => obtain ⟨_, e, _⟩ := bG.mp h'; cases e
  | agg s b => exact absurd h' bW
 | .str x, d', v, h, h' => by
  rw [in_str.mp h] at h'
  cases d' with
  | non => cases bK.mp h'
  | bl b => cases aR.mp h'
  | int b => cases ao.mp h'
  | str b => cases in_str.mp h'; rfl
  | lst b => obtain ⟨_, _, e, _⟩ := av.mp h'; cases e
  | tup b => obtain ⟨_, _, e, _⟩ := aN h'; cases e
  | dct b => obtain ⟨_, e, _⟩ := bw.mp h'; cases e
  | ktup b => obtain ⟨_, e, _⟩ := bG.mp h'; cases e
  | agg s b => exact absurd h' bW
 | .lst ds, d', v, h, h' => by
  obtain ⟨a, xs, rfl, l, j⟩ := av.mp h
  cases d' with
  | non => cases bK.mp h'
  | bl b => cases aR.mp h'
  | int b => cases ao.mp h'
  | str b => cases in_str.mp h'
  | lst es =>
   obtain ⟨_, ys, e, l', j'⟩ := av.mp h';cases e;have := I.gZ l.sq l'.sq;subst this;rw [aH.inj I j j']
  | tup es =>
   obtain ⟨_, ys, e, l', j'⟩ := aN h';cases e;exact (fq I l.sq l').elim
  | dct o =>
   obtain ⟨_, e, l', _⟩ := bw.mp h';cases e;exact (nJ I l.sq l').elim
  | agg s b => exact absurd h' bW
  | ktup ks =>
   obtain ⟨_, e, l'⟩ := bG.mp h';cases e;exact (fq I l.sq l'.sq).elim
 | .tup ds, d', v, h, h' => by
  obtain ⟨a, xs, rfl, l, j⟩ := aN h
  cases d' with
  | non => cases bK.mp h'
  | bl b => cases aR.mp h'
  | int b => cases ao.mp h'
  | str b => cases in_str.mp h'
  | lst es =>
   obtain ⟨_, ys, e, l', j'⟩ := av.mp h';cases e;exact (fq I l'.sq l).elim
  | tup es =>
   obtain ⟨_, ys, e, l', j'⟩ := aN h';cases e;have := I.oY l l';subst this;rw [aH.inj I j j']
  | dct o =>
   obtain ⟨_, e, l', _⟩ := bw.mp h';cases e;obtain ⟨_, _, e, l, _⟩ := cF.mp h;cases e;rw [l] at l';exact ((MO.d o).wt (Option.some.inj l').symm).elim
  | agg s b => exact absurd h' bW
  | ktup ks =>
   obtain ⟨_, e, l'⟩ := bG.mp h';cases e;obtain ⟨_, _, e, l, _⟩ := cF.mp h;cases e;rw [oK I l'] at l;cases l
 | .ktup ks, d', v, h, h' => by
  obtain ⟨a, rfl, l⟩ := bG.mp h
  cases d' with
  | non => cases bK.mp h'
  | bl b => cases aR.mp h'
  | int b => cases ao.mp h'
  | str b => cases in_str.mp h'
  | lst es =>
   obtain ⟨_, ys, e, l', _⟩ := av.mp h';cases e;exact (fq I l'.sq l.sq).elim
  | tup es =>
   obtain ⟨_, ys, e, l', _⟩ := cF.mp h';cases e;rw [oK I l] at l';cases l'
  | dct o =>
   obtain ⟨_, e, l', _⟩ := bw.mp h';cases e;rw [oK I l] at l';cases l'
  | agg s b => exact absurd h' bW
  | ktup ks' =>
   obtain ⟨_, e, l'⟩ := bG.mp h';cases e;rw [vB (I.oY (l.sq (H := H)) (l'.sq (H := H)))]
 | .agg s b, d', v, h, h' => absurd h bW
 | .dct o, d', v, h, h' => by
  obtain ⟨a, rfl, l, _⟩ := bw.mp h
  cases d' with
  | non => cases bK.mp h'
  | bl b => cases aR.mp h'
  | int b => cases ao.mp h'
  | str b => cases in_str.mp h'
  | lst es =>
   obtain ⟨_, ys, e, l', _⟩ := av.mp h';cases e;exact (nJ I l'.sq l).elim
  | tup es =>
   obtain ⟨_, ys, e, l', _⟩ := cF.mp h';cases e;rw [l'] at l;exact ((MO.d o).wt (Option.some.inj l).symm).elim
  | dct o' =>
   obtain ⟨_, e, l', _⟩ := bw.mp h';cases e;rw [l] at l';rw [DO.inj (Option.some.inj l')]
  | agg s b => exact absurd h' bW
  | ktup ks =>
   obtain ⟨_, e, l'⟩ := bG.mp h';cases e;rw [oK I l'] at l;cases l
theorem aH.inj (I : Inv X pins σ H s) : ∀ {ds ds' : List D} {vs : List V}, aH X.K H Z ds vs -> aH X.K H Z' ds' vs -> ds = ds'
 | [], ds', _, h, h' => by
  rw [aC.mp h] at h'
  cases ds' with
  | nil => rfl
  | cons d ds => obtain ⟨_, _, e, _⟩ := ar.mp h'; cases e
 | d :: ds, ds', _, h, h' => by
  obtain ⟨v, r, rfl, i, j⟩ := ar.mp h
  cases ds' with
  | nil => cases aC.mp h'
  | cons d' ds' =>
   obtain ⟨v', r', e, i', j'⟩ := ar.mp h';cases e;rw [In.inj I i i', aH.inj I j j']
end
theorem lW : ∀ (ks : List Key) (ds : List D), lN ks ds = cV (ks.map kD) ds
 | [], [] => by simp [lN, cV]
 | [], _ :: _ => by simp [lN, cV]
 | _ :: _, [] => by simp [lN, cV]
 | .inl a :: ks, d :: ds => by
  simp only [lN, map_cons, cV, kD];rw [lW ks ds];cases d <;> simp [Fi, aV]
 | .inr a :: ks, d :: ds => by
  simp only [lN, map_cons, cV, kD];rw [lW ks ds];cases d <;> simp [Fi, aV]
theorem pX : ∀ ks : List Key, cu (ks.map kD) = 0
 | [] => by simp [cu]
 | .inl a :: ks => by simp [cu, kD, D.dep, pX ks]
 | .inr a :: ks => by simp [cu, kD, D.dep, pX ks]
open PySem.SeqAt in
theorem nr (I : Inv X pins σ H s) : ∀ (n : Nat) {A : Around} {d d' : D} {v v' : V} {u u' : Value}, In X.K H Z d v -> In X.K H Z' d' v' -> RelV v u -> RelV v' u' -> d.dep <= n -> A.units + n < cLine -> EqAt A s u u' (aV d d') := by
 intro n
 induction n with
 | zero =>
  intro A d d' v v' u u' i i' r r' hd hu;have hu0 : A.units < cLine := by omega
  have key : ∀ {x : V}, gs x = true -> v = x -> (∀ y, In X.K H Z' d' y -> RelV y u' -> EqAt A s u u' (aV d d')) -> EqAt A s u u' (aV d d') := fun _ _ h => h v' i' r'
  cases d with
  | lst ds => unfold D.dep at hd; omega
  | tup ds => unfold D.dep at hd; omega
  | dct o => unfold D.dep at hd; omega
  | ktup o => unfold D.dep at hd; omega
  | agg s o => unfold D.dep at hd; omega
  | non =>
   cases bK.mp i; cases r
   cases d' with
   | non => cases bK.mp i'; cases r'; simp only [aV]; exact EqAt.same _
   | bl b => cases aR.mp i'; cases r'; simp only [aV]; exact EqAt.none_bool b
   | int b => cases ao.mp i'; obtain ⟨t, rfl⟩ := r'; simp only [aV]; exact EqAt.none_int b t
   | str b => cases in_str.mp i'; obtain ⟨t, rfl⟩ := r'; simp only [aV]; exact EqAt.none_str b t
   | lst b => obtain ⟨a, xs, rfl, l, j⟩ := av.mp i'; cases r'; obtain ⟨its, _, pl, _⟩ := I.list l.sq; simp only [aV]; exact EqAt.none_list pl.isList hu0
   | tup b => obtain ⟨a, xs, rfl, l, j⟩ := aN i'; cases r'; obtain ⟨its, _, pl, _⟩ := I.tuple l; simp only [aV]; exact EqAt.none_tuple pl hu0
   | dct b => obtain ⟨a, rfl, l, _⟩ := bw.mp i'; cases r'; simp only [aV]; exact DEq.Bd (hV I l) hu0
   | agg s b => exact absurd i' bW
   | ktup b => obtain ⟨a, rfl, l⟩ := bG.mp i'; cases r'; obtain ⟨its, _, pl, _⟩ := I.tuple (l.sq (H := H)); simp only [aV]; exact EqAt.none_tuple pl hu0
  | bl x =>
   cases aR.mp i; cases r
   cases d' with
   | non => cases bK.mp i'; cases r'; simp only [aV]; exact EqAt.bool_none x
   | bl b => cases aR.mp i'; cases r'; simp only [aV]; exact EqAt.bool_bool x b
   | int b => cases ao.mp i'; obtain ⟨t, rfl⟩ := r'; simp only [aV]; exact EqAt.bool_int x b t
   | str b => cases in_str.mp i'; obtain ⟨t, rfl⟩ := r'; simp only [aV]; exact EqAt.bool_str x b t
   | lst b => obtain ⟨a, xs, rfl, l, j⟩ := av.mp i'; cases r'; obtain ⟨its, _, pl, _⟩ := I.list l.sq; simp only [aV]; exact EqAt.bool_list x pl.isList hu0
   | tup b => obtain ⟨a, xs, rfl, l, j⟩ := aN i'; cases r'; obtain ⟨its, _, pl, _⟩ := I.tuple l; simp only [aV]; exact EqAt.bool_tuple x pl hu0
   | dct b => obtain ⟨a, rfl, l, _⟩ := bw.mp i'; cases r'; simp only [aV]; exact DEq.Cg x (hV I l) hu0
   | agg s b => exact absurd i' bW
   | ktup b => obtain ⟨a, rfl, l⟩ := bG.mp i'; cases r'; obtain ⟨its, _, pl, _⟩ := I.tuple (l.sq (H := H)); simp only [aV]; exact EqAt.bool_tuple x pl hu0
  | int x =>
   cases ao.mp i; obtain ⟨t0, rfl⟩ := r
   cases d' with
   | non => cases bK.mp i'; cases r'; simp only [aV]; exact EqAt.int_none x t0
   | bl b => cases aR.mp i'; cases r'; simp only [aV]; exact EqAt.int_bool x t0 b
   | int b => cases ao.mp i'; obtain ⟨t, rfl⟩ := r'; simp only [aV]; exact EqAt.int_int x t0 b t
   | str b => cases in_str.mp i'; obtain ⟨t, rfl⟩ := r'; simp only [aV]; exact EqAt.int_str x t0 b t
   | lst b => obtain ⟨a, xs, rfl, l, j⟩ := av.mp i'; cases r'; obtain ⟨its, _, pl, _⟩ := I.list l.sq; simp only [aV]; exact EqAt.int_list x t0 pl.isList hu0
   | tup b => obtain ⟨a, xs, rfl, l, j⟩ := aN i'; cases r'; obtain ⟨its, _, pl, _⟩ := I.tuple l; simp only [aV]; exact EqAt.int_tuple x t0 pl hu0
   | dct b => obtain ⟨a, rfl, l, _⟩ := bw.mp i'; cases r'; simp only [aV]; exact DEq.Dc x t0 (hV I l) hu0
   | agg s b => exact absurd i' bW
   | ktup b => obtain ⟨a, rfl, l⟩ := bG.mp i'; cases r'; obtain ⟨its, _, pl, _⟩ := I.tuple (l.sq (H := H)); simp only [aV]; exact EqAt.int_tuple x t0 pl hu0
  | str x =>
   cases in_str.mp i; obtain ⟨t0, rfl⟩ := r
   cases d' with
   | non => cases bK.mp i'; cases r'; simp only [aV]; exact EqAt.str_none x t0
   | bl b => cases aR.mp i'; cases r'; simp only [aV]; exact EqAt.str_bool x t0 b
   | int b => cases ao.mp i'; obtain ⟨t, rfl⟩ := r'; simp only [aV]; exact EqAt.str_int x t0 b t
   | str b => cases in_str.mp i'; obtain ⟨t, rfl⟩ := r'; simp only [aV]; exact EqAt.str_str x t0 b t
   | lst b => obtain ⟨a, xs, rfl, l, j⟩ := av.mp i'; cases r'; obtain ⟨its, _, pl, _⟩ := I.list l.sq; simp only [aV]; exact EqAt.str_list x t0 pl.isList hu0
   | tup b => obtain ⟨a, xs, rfl, l, j⟩ := aN i'; cases r'; obtain ⟨its, _, pl, _⟩ := I.tuple l; simp only [aV]; exact EqAt.str_tuple x t0 pl hu0
   | dct b => obtain ⟨a, rfl, l, _⟩ := bw.mp i'; cases r'; simp only [aV]; exact DEq.De x t0 (hV I l) hu0
   | agg s b => exact absurd i' bW
   | ktup b => obtain ⟨a, rfl, l⟩ := bG.mp i'; cases r'; obtain ⟨its, _, pl, _⟩ := I.tuple (l.sq (H := H)); simp only [aV]; exact EqAt.str_tuple x t0 pl hu0
 | succ n ih =>
  intro A d d' v v' u u' i i' r r' hd hu;have hu0 : A.units < cLine := by omega
  have hu1 : A.in1.units + n < cLine := by show A.units + 1 + n < cLine; omega
  have small : d.dep <= n -> EqAt A s u u' (aV d d') := fun h => ih i i' r r' h (by omega)
  -- the items, one by one
  have items : ∀ {ds es : List D} {xs ys : List V} {its its2 : HF}, cu ds <= n -> aH X.K H Z ds xs -> aH X.K H Z' es ys -> Vals xs its -> Vals ys its2 -> ∀ j (h1 : j < its.toArray.size) (h2 : j < its2.toArray.size),
   EqAt A.in1 s its.toArray[j] its2.toArray[j] (aV (ds.getD j .non) (es.getD j .non)) := fun {ds es xs ys its its2} hdn jx jy rx ry j h1 h2 => by
   have z1 := jx.length; have z2 := jy.length; have z3 := rx.length; have z4 := ry.length;simp at h1 h2;have hj1 : j < ds.length := by omega
   have hj2 : j < es.length := by omega
   obtain ⟨x, ex, ix⟩ := jx.get (i := j) (d := ds[j]) (by simp [hj1]);obtain ⟨y, ey, iy⟩ := jy.get (i := j) (d := es[j]) (by simp [hj2]);obtain ⟨w1, f1, q1⟩ := rx.get ex;obtain ⟨w2, f2, q2⟩ := ry.get ey;have g1 : its.toArray[j] = w1 := by
    have := (List.getElem?_eq_some_iff.mp f1).2;simpa using this
   have g2 : its2.toArray[j] = w2 := by
    have := (List.getElem?_eq_some_iff.mp f2).2;simpa using this
   rw [g1, g2];have e1 : ds.getD j .non = ds[j] := by simp [hj1]
   have e2 : es.getD j .non = es[j] := by simp [hj2]
   rw [e1, e2];exact ih ix iy q1 q2 (Nat.le_trans (fL (getElem_mem hj1)) hdn) hu1
  cases d with
  | non => exact small (by simp [D.dep])
  | bl x => exact small (by simp [D.dep])
  | int x => exact small (by simp [D.dep])
  | str x => exact small (by simp [D.dep])
  | dct o => exact absurd hu (by unfold D.dep at hd; have : cLine = 9900 := rfl; omega)
  | agg s b => exact absurd i bW
  | ktup ks0 =>
   obtain ⟨a, rfl, l⟩ := bG.mp i;cases r;obtain ⟨its, rx, pl, _⟩ := I.tuple (l.sq (H := H));have j : aH X.K H Z (ks0.map kD) (ks0.map kV) := pS ks0;have hdn : cu (ks0.map kD) <= n := by rw [pX]; exact Nat.zero_le _
   cases d' with
   | non => cases bK.mp i'; cases r'; simp only [aV]; exact EqAt.tuple_none pl hu0
   | bl b => cases aR.mp i'; cases r'; simp only [aV]; exact EqAt.tuple_bool b pl hu0
   | int b => cases ao.mp i'; obtain ⟨t, rfl⟩ := r'; simp only [aV]; exact EqAt.tuple_int b t pl hu0
   | str b => cases in_str.mp i'; obtain ⟨t, rfl⟩ := r'; simp only [aV]; exact EqAt.tuple_str b t pl hu0
   | lst es => obtain ⟨a', ys, rfl, l', j'⟩ := av.mp i'; cases r'; obtain ⟨its2, _, pl2, _⟩ := I.list l'.sq; simp only [aV]; exact EqAt.tuple_list pl pl2.isList hu0
   | dct b => obtain ⟨a', rfl, l', _⟩ := bw.mp i'; cases r'; simp only [aV]; exact DEq.sj pl (hV I l') hu0
   | agg s b => exact absurd i' bW
   | ktup ks =>
    obtain ⟨a', rfl, l'⟩ := bG.mp i';cases r';obtain ⟨its2, ry, pl2, _⟩ := I.tuple (l'.sq (H := H));by_cases haa : a = a'
    . subst haa;have e : D.ktup ks0 = D.ktup ks := In.inj I i i';rw [e, bO];exact EqAt.same _
    have j' : aH X.K H Z' (ks.map kD) (ks.map kV) := pS ks;refine EqAt.of_refs haa ?_;have z1 := j.length; have z2 := j'.length; have z3 := rx.length; have z4 := ry.length;simp only [aV];rw [lW, <- bN];have := RcAt.tuples (e := fun k => aV ((ks0.map kD).getD k .non) ((ks.map kD).getD k .non)) pl pl2 hu0 (items hdn j j' rx ry);have e1 : its.toArray.size = (ks0.map kD).length := by simp at z1 z3 ⊢; omega
    have e2 : its2.toArray.size = (ks.map kD).length := by simp at z2 z4 ⊢; omega
    rw [e1, e2] at this;exact this
   | tup es =>
    obtain ⟨a', ys, rfl, l', j'⟩ := aN i';cases r';obtain ⟨its2, ry, pl2, _⟩ := I.tuple l';have haa : a ≠ a' := fun z => by
     subst z;obtain ⟨_, _, e, lt, _⟩ := cF.mp i';cases e;rw [oK I l] at lt;cases lt
    refine EqAt.of_refs haa ?_;have z1 := j.length; have z2 := j'.length; have z3 := rx.length; have z4 := ry.length;simp only [aV];rw [lW, <- bN];have := RcAt.tuples (e := fun k => aV ((ks0.map kD).getD k .non) (es.getD k .non)) pl pl2 hu0 (items hdn j j' rx ry);have e1 : its.toArray.size = (ks0.map kD).length := by simp at z1 z3 ⊢; omega
    have e2 : its2.toArray.size = es.length := by simp at z2 z4 ⊢; omega
    rw [e1, e2] at this;exact this
  | lst ds =>
   have hdn : cu ds <= n := by unfold D.dep at hd; omega
   obtain ⟨a, xs, rfl, l, j⟩ := av.mp i;cases r;obtain ⟨its, rx, pl, _⟩ := I.list l.sq
   cases d' with
   | non => cases bK.mp i'; cases r'; simp only [aV]; exact EqAt.list_none pl.isList hu0
   | bl b => cases aR.mp i'; cases r'; simp only [aV]; exact EqAt.list_bool b pl.isList hu0
   | int b => cases ao.mp i'; obtain ⟨t, rfl⟩ := r'; simp only [aV]; exact EqAt.list_int b t pl.isList hu0
   | str b => cases in_str.mp i'; obtain ⟨t, rfl⟩ := r'; simp only [aV]; exact EqAt.list_str b t pl.isList hu0
   | tup es => obtain ⟨a', ys, rfl, l', j'⟩ := aN i'; cases r'; obtain ⟨its2, _, pl2, _⟩ := I.tuple l'; simp only [aV]; exact EqAt.list_tuple pl.isList pl2 hu0
   | dct b => obtain ⟨a', rfl, l', _⟩ := bw.mp i'; cases r'; simp only [aV]; exact DEq.A7 pl.isList (hV I l') hu0
   | agg s b => exact absurd i' bW
   | ktup b => obtain ⟨a', rfl, l'⟩ := bG.mp i'; cases r'; obtain ⟨its2, _, pl2, _⟩ := I.tuple (l'.sq (H := H)); simp only [aV]; exact EqAt.list_tuple pl.isList pl2 hu0
   | lst es =>
    obtain ⟨a', ys, rfl, l', j'⟩ := av.mp i';cases r';obtain ⟨its2, ry, pl2, _⟩ := I.list l'.sq;by_cases haa : a = a'
    . subst haa;have e : D.lst ds = D.lst es := In.inj I i i';rw [e, bO];exact EqAt.same _
    . refine EqAt.of_refs haa ?_;have z1 := j.length; have z2 := j'.length; have z3 := rx.length; have z4 := ry.length;simp only [aV];rw [<- bN];by_cases hsz : its.toArray.size = its2.toArray.size
      . have := RcAt.lists (e := fun k => aV (ds.getD k .non) (es.getD k .non)) pl.isList pl2.isList hsz hu0 (items hdn j j' rx ry);have e1 : its.toArray.size = min ds.length es.length := by simp at hsz ⊢; omega
        have e2 : (ds.length == es.length) = true := by simp at hsz ⊢; omega
        rw [e1] at this;rw [e2, Bool.and_true];exact this
      . have e2 : (ds.length == es.length) = false := by simp at hsz ⊢; omega
        rw [e2, Bool.and_false];exact RcAt.lists_lengths pl.isList pl2.isList (by simpa using hsz) hu0
  | tup ds =>
   have hdn : cu ds <= n := by unfold D.dep at hd; omega
   obtain ⟨a, xs, rfl, l, j⟩ := aN i;cases r;obtain ⟨its, rx, pl, _⟩ := I.tuple l
   cases d' with
   | non => cases bK.mp i'; cases r'; simp only [aV]; exact EqAt.tuple_none pl hu0
   | bl b => cases aR.mp i'; cases r'; simp only [aV]; exact EqAt.tuple_bool b pl hu0
   | int b => cases ao.mp i'; obtain ⟨t, rfl⟩ := r'; simp only [aV]; exact EqAt.tuple_int b t pl hu0
   | str b => cases in_str.mp i'; obtain ⟨t, rfl⟩ := r'; simp only [aV]; exact EqAt.tuple_str b t pl hu0
   | lst es => obtain ⟨a', ys, rfl, l', j'⟩ := av.mp i'; cases r'; obtain ⟨its2, _, pl2, _⟩ := I.list l'.sq; simp only [aV]; exact EqAt.tuple_list pl pl2.isList hu0
   | dct b => obtain ⟨a', rfl, l', _⟩ := bw.mp i'; cases r'; simp only [aV]; exact DEq.sj pl (hV I l') hu0
   | agg s b => exact absurd i' bW
   | ktup ks =>
    obtain ⟨a', rfl, l'⟩ := bG.mp i';cases r';obtain ⟨its2, ry, pl2, _⟩ := I.tuple (l'.sq (H := H));have j' : aH X.K H Z' (ks.map kD) (ks.map kV) := pS ks;have haa : a ≠ a' := fun z => by
     subst z;obtain ⟨_, _, e, lt, _⟩ := cF.mp i;cases e;rw [oK I l'] at lt;cases lt
    refine EqAt.of_refs haa ?_;have z1 := j.length; have z2 := j'.length; have z3 := rx.length; have z4 := ry.length;simp only [aV];rw [<- bN];have := RcAt.tuples (e := fun k => aV (ds.getD k .non) ((ks.map kD).getD k .non)) pl pl2 hu0 (items hdn j j' rx ry);have e1 : its.toArray.size = ds.length := by simp; omega
    have e2 : its2.toArray.size = (ks.map kD).length := by simp at z2 z4 ⊢; omega
    rw [e1, e2] at this;exact this
   | tup es =>
    obtain ⟨a', ys, rfl, l', j'⟩ := aN i';cases r';obtain ⟨its2, ry, pl2, _⟩ := I.tuple l';by_cases haa : a = a'
    . subst haa;have e : D.tup ds = D.tup es := In.inj I i i';rw [e, bO];exact EqAt.same _
    . refine EqAt.of_refs haa ?_;have z1 := j.length; have z2 := j'.length; have z3 := rx.length; have z4 := ry.length;simp only [aV];rw [<- bN];have := RcAt.tuples (e := fun k => aV (ds.getD k .non) (es.getD k .non)) pl pl2 hu0 (items hdn j j' rx ry);have e1 : its.toArray.size = ds.length := by simp; omega
      have e2 : its2.toArray.size = es.length := by simp; omega
      rw [e1, e2] at this;exact this
end
section
variable {X : Cx}
open PySem.SeqAt
def pairD : D -> D -> Bool
 | .lst _, .lst _ => true
 | .tup _, .tup _ => true
 | _, _ => false
theorem yj : iV X (compareOp .Eq) (fun x y H Q => ∃ d d' Z Z', In X.K H Z d x /\ In X.K H Z' d' y /\ pairD d d' = true /\ X.A.units + d.dep < cLine /\ Q (.bl (aV d d')) H) := by
 intro pins s σ H x y v u Q I rx ry h;obtain ⟨d, d', Z, Z', i, i', hp, hu, q⟩ := h;have fin : EP X pins σ Q (.bool (aV d d')) s := ⟨.bl (aV d d'), H, I, rfl, q⟩
 have hu0 : X.A.units < cLine := by omega
 have items : ∀ {ds es : List D} {xs ys : List V} {its its2 : HF}, cu ds < d.dep -> aH X.K H Z ds xs -> aH X.K H Z' es ys -> Vals xs its -> Vals ys its2 -> ∀ j (h1 : j < its.toArray.size) (h2 : j < its2.toArray.size),
  EqAt X.A.in1 s its.toArray[j] its2.toArray[j] (aV (ds.getD j .non) (es.getD j .non)) := fun {ds es xs ys its its2} hdn jx jy rx ry j h1 h2 => by
  have z1 := jx.length; have z2 := jy.length; have z3 := rx.length; have z4 := ry.length;simp at h1 h2;have hj1 : j < ds.length := by omega
  have hj2 : j < es.length := by omega
  obtain ⟨x, ex, ix⟩ := jx.get (i := j) (d := ds[j]) (by simp [hj1]);obtain ⟨y, ey, iy⟩ := jy.get (i := j) (d := es[j]) (by simp [hj2]);obtain ⟨w1, f1, q1⟩ := rx.get ex;obtain ⟨w2, f2, q2⟩ := ry.get ey;have g1 : its.toArray[j] = w1 := by
   have := (List.getElem?_eq_some_iff.mp f1).2;simpa using this
  have g2 : its2.toArray[j] = w2 := by
   have := (List.getElem?_eq_some_iff.mp f2).2;simpa using this
  rw [g1, g2];have e1 : ds.getD j .non = ds[j] := by simp [hj1]
  have e2 : es.getD j .non = es[j] := by simp [hj2]
  rw [e1, e2];exact nr I (d.dep - 1) ix iy q1 q2 (by have := fL (getElem_mem hj1); omega) (by show X.A.units + 1 + (d.dep - 1) < cLine; omega)
 unfold pairD at hp;split at hp
 . rename_i ds es;obtain ⟨a, xs, rfl, l, j⟩ := av.mp i;obtain ⟨a', ys, rfl, l', j'⟩ := av.mp i';cases rx; cases ry;obtain ⟨its, rx, pl, _⟩ := I.list l.sq;obtain ⟨its2, ry, pl2, _⟩ := I.list l'.sq;have z1 := j.length; have z2 := j'.length; have z3 := rx.length; have z4 := ry.length;simp only [aV] at fin;rw [<- bN] at fin;by_cases hsz : its.toArray.size = its2.toArray.size
   . have e1 : its.toArray.size = min ds.length es.length := by simp at hsz ⊢; omega
     have e2 : (ds.length == es.length) = true := by simp at hsz ⊢; omega
     rw [e2, Bool.and_true, <- e1] at fin;exact eq_listAt (e := fun k => aV (ds.getD k .non) (es.getD k .non)) pl.isList pl2.isList hsz hu0 (items (by simp [D.dep]) j j' rx ry) fin
   . have e2 : (ds.length == es.length) = false := by simp at hsz ⊢; omega
     rw [e2, Bool.and_false] at fin;exact eq_list_lengthsAt pl.isList pl2.isList (by simpa using hsz) hu0 fin
 . rename_i ds es;obtain ⟨a, xs, rfl, l, j⟩ := aN i;obtain ⟨a', ys, rfl, l', j'⟩ := aN i';cases rx; cases ry;obtain ⟨its, rx, pl, _⟩ := I.tuple l;obtain ⟨its2, ry, pl2, _⟩ := I.tuple l';have z1 := j.length; have z2 := j'.length; have z3 := rx.length; have z4 := ry.length;simp only [aV] at fin;rw [<- bN] at fin;have e1 : its.toArray.size = ds.length := by simp; omega
   have e2 : its2.toArray.size = es.length := by simp; omega
   rw [<- e1, <- e2] at fin;exact eq_tupleAt (e := fun k => aV (ds.getD k .non) (es.getD k .non)) pl pl2 hu0 (items (by simp [D.dep]) j j' rx ry) fin
 . cases hp
theorem D3 : iV X (compareOp .NotEq) (fun x y H Q => ∃ d d' Z Z', In X.K H Z d x /\ In X.K H Z' d' y /\ pairD d d' = true /\ X.A.units + d.dep < cLine /\ Q (.bl (!aV d d')) H) := by
 intro pins s σ H x y v u Q I rx ry h;obtain ⟨d, d', Z, Z', i, i', hp, hu, q⟩ := h;have fin : EP X pins σ Q (.bool (!aV d d')) s := ⟨.bl (!aV d d'), H, I, rfl, q⟩
 have hu0 : X.A.units < cLine := by omega
 have items : ∀ {ds es : List D} {xs ys : List V} {its its2 : HF}, cu ds < d.dep -> aH X.K H Z ds xs -> aH X.K H Z' es ys -> Vals xs its -> Vals ys its2 -> ∀ j (h1 : j < its.toArray.size) (h2 : j < its2.toArray.size),
  EqAt X.A.in1 s its.toArray[j] its2.toArray[j] (aV (ds.getD j .non) (es.getD j .non)) := fun {ds es xs ys its its2} hdn jx jy rx ry j h1 h2 => by
  have z1 := jx.length; have z2 := jy.length; have z3 := rx.length; have z4 := ry.length;simp at h1 h2;have hj1 : j < ds.length := by omega
  have hj2 : j < es.length := by omega
  obtain ⟨x, ex, ix⟩ := jx.get (i := j) (d := ds[j]) (by simp [hj1]);obtain ⟨y, ey, iy⟩ := jy.get (i := j) (d := es[j]) (by simp [hj2]);obtain ⟨w1, f1, q1⟩ := rx.get ex;obtain ⟨w2, f2, q2⟩ := ry.get ey;have g1 : its.toArray[j] = w1 := by
   have := (List.getElem?_eq_some_iff.mp f1).2;simpa using this
  have g2 : its2.toArray[j] = w2 := by
   have := (List.getElem?_eq_some_iff.mp f2).2;simpa using this
  rw [g1, g2];have e1 : ds.getD j .non = ds[j] := by simp [hj1]
  have e2 : es.getD j .non = es[j] := by simp [hj2]
  rw [e1, e2];exact nr I (d.dep - 1) ix iy q1 q2 (by have := fL (getElem_mem hj1); omega) (by show X.A.units + 1 + (d.dep - 1) < cLine; omega)
 unfold pairD at hp;split at hp
 . rename_i ds es;obtain ⟨a, xs, rfl, l, j⟩ := av.mp i;obtain ⟨a', ys, rfl, l', j'⟩ := av.mp i';cases rx; cases ry;obtain ⟨its, rx, pl, _⟩ := I.list l.sq;obtain ⟨its2, ry, pl2, _⟩ := I.list l'.sq;have z1 := j.length; have z2 := j'.length; have z3 := rx.length; have z4 := ry.length;simp only [aV] at fin;rw [<- bN] at fin;by_cases hsz : its.toArray.size = its2.toArray.size
   . have e1 : its.toArray.size = min ds.length es.length := by simp at hsz ⊢; omega
     have e2 : (ds.length == es.length) = true := by simp at hsz ⊢; omega
     rw [e2, Bool.and_true, <- e1] at fin;exact RcNeAt.lists (e := fun k => aV (ds.getD k .non) (es.getD k .non)) pl.isList pl2.isList hsz hu0 (items (by simp [D.dep]) j j' rx ry) _ _ _ _ fin
   . have e2 : (ds.length == es.length) = false := by simp at hsz ⊢; omega
     rw [e2, Bool.and_false] at fin;exact RcNeAt.lists_lengths pl.isList pl2.isList (by simpa using hsz) hu0 _ _ _ _ fin
 . rename_i ds es;obtain ⟨a, xs, rfl, l, j⟩ := aN i;obtain ⟨a', ys, rfl, l', j'⟩ := aN i';cases rx; cases ry;obtain ⟨its, rx, pl, _⟩ := I.tuple l;obtain ⟨its2, ry, pl2, _⟩ := I.tuple l';have z1 := j.length; have z2 := j'.length; have z3 := rx.length; have z4 := ry.length;simp only [aV] at fin;rw [<- bN] at fin;have e1 : its.toArray.size = ds.length := by simp; omega
   have e2 : its2.toArray.size = es.length := by simp; omega
   rw [<- e1, <- e2] at fin;exact RcNeAt.tuples (e := fun k => aV (ds.getD k .non) (es.getD k .non)) pl pl2 hu0 (items (by simp [D.dep]) j j' rx ry) _ _ _ _ fin
 . cases hp
end
section
variable {X : Cx} {ρ : List (Option D)} {m1 m2 : Bool} {a b : Expr} {d d' : D} {pos : Pos}
theorem E1 (ha : E X m1 ρ a d) (hb : E X m2 ρ b d') (hp : pairD d d' = true) (hu : X.A.units + d.dep < cLine) : E X true ρ (.Compare a [.Eq] [b] pos) (.bl (aV d d')) :=
 r8 yj ha hb (fun x y H Z Q _ i1 i2 k => ⟨d, d', Z, Z, i1, i2, hp, hu, k _ _ (au.refl H) (aR.mpr rfl)⟩) (fc _)
theorem Cv (ha : E X m1 ρ a d) (hb : E X m2 ρ b d') (hp : pairD d d' = true) (hu : X.A.units + d.dep < cLine) : T X ρ (.Compare a [.Eq] [b] pos) (aV d d') :=
 j9 yj ha hb (fun x y H Z Q _ i1 i2 k => ⟨d, d', Z, Z, i1, i2, hp, hu, k _ (au.refl H)⟩) (fc _)
theorem zj (ha : E X m1 ρ a d) (hb : E X m2 ρ b d') (hp : pairD d d' = true) (hu : X.A.units + d.dep < cLine) : T X ρ (.Compare a [.NotEq] [b] pos) (!aV d d') :=
 j9 D3 ha hb (fun x y H Z Q _ i1 i2 k => ⟨d, d', Z, Z, i1, i2, hp, hu, k _ (au.refl H)⟩) (fc _)
end
section
variable {X : Cx} {F : Fn} {ρ : b0} {Q : iu} {rest : List Stmt} {e : Expr} {d : D} {pos p : Pos} {x : Str} {fr m1 : Bool} {ds : List D} {dss : List (List D)}
theorem nq (i : Nat) {x : Str} {d : D} (he : EC X true (view true false ρ) e d) (hr : SD X F rest (ρ.set i (some (.pl true d))) Q) (hN : X.N.Nodup) (hi : X.N[i]? = some x := by rfl)
 (hx : Loc X.env.scope x := by first | exact Or.inl rfl | exact Or.inr rfl) (hρ : i < ρ.length := by exact of_decide_eq_true rfl) (hs : swapsWith e (some (.Name x p)) pos.line X.env = pure true := by rfl) (hf : HfX X x := by first | exact .inl rfl | exact .inr rfl) :
 SD X F (.Assign [.Name x p] e pos :: rest) ρ Q :=
 bB (PS.mono (he.s x i pos p hN hi hx hs hf) fun Q' σ H z0 => fF z0 fun hv hρ' A hl S f => ⟨_, aF S true false, S.env hl true false, fun v H1 s1 i1 => f.nx _ H1 (jE hl S hρ s1 (In.up (d5 S true) i1))⟩) hr
theorem bz.kI {K : Frag} {H : Hp} {σ hv : St} {hρ : b0} {A : Nat -> List Addr} {i : Nat} (S : bz K F H (σ ++ hv) (ρ ++ hρ) A) (hl : σ.length = ρ.length) (h : ρ[i]? = some (some (.kI fr dss))) :
 ∃ l as, σ[i]? = some (some (.ref l)) /\ A i = l :: as /\ H l = some (.lst (as.map V.ref)) /\ aU K H (zn F (aG A) fr) dss as := by
 have hi : i < ρ.length := (List.getElem?_eq_some_iff.mp h).1;obtain ⟨v, a, l, as, e1, rfl, e2, j⟩ := S.at' i _ (by rw [getElem?_append_left hi]; exact h);rw [getElem?_append_left (by omega)] at a;exact ⟨l, as, a, e1, e2, j⟩
theorem aU.length {K : Frag} {H : Hp} {Z : aE} {as : List Addr} (h : aU K H Z dss as) : dss.length = as.length := Paired.length h
theorem aU.snoc {K : Frag} {H : Hp} {Z : aE} {as : List Addr} {ds : List D} {a : Addr} {xs : List V} (h : aU K H Z dss as) (e : H a = some (.lst xs)) (i : aH K H Z ds xs) : aU K H Z (dss ++ [ds]) (as ++ [a]) := Paired.snoc h ⟨xs, e, i⟩
theorem aU.tR {K : Frag} {H : Hp} {Z : aE} : ∀ {dss : List (List D)} {as : List Addr} {ds : List D}, aU K H Z (dss ++ [ds]) as -> ∃ bs a xs, as = bs ++ [a] /\ aU K H Z dss bs /\ H a = some (.lst xs) /\ aH K H Z ds xs
 | [], as, ds, h => by
  cases h with
  | cons r t => cases t; obtain ⟨xs, e, i⟩ := r; exact ⟨[], _, xs, rfl, .nil, e, i⟩
 | d :: dss, as, ds, h => by
  cases h with
  | cons r t =>
   obtain ⟨bs, a, xs, rfl, h1, e, i⟩ := aU.tR t;exact ⟨_ :: bs, a, xs, rfl, .cons r h1, e, i⟩
theorem rS (i : Nat) {x : Str} {ap cp : Pos} {dss : List (List D)} (fr : Bool) (h : ρ[i]? = some (some (.kI fr dss)) := by rfl) (he : E X true (view true false ρ) e (.lst [])) (hz : dss.length < 1000) (hr : SD X F rest (ρ.set i (some (.kI fr (dss ++ [[]])))) Q)
 (hN : X.N[i]? = some x := by rfl) (hv : sx X.env.scope x := by first | exact Or.inl rfl | exact Or.inr (Or.inl rfl) | exact Or.inr (Or.inr rfl)) (hd : NdX x := by decide) (hcd : NcX x := by decide)
 (hbase : attributeBase (.Name x p) "append" X.env (eval (.Name x p) X.env) = eval (.Name x p) X.env := by rfl) (hline : (ap.endLine == cp.line) = true := by rfl)
 (hs : starEach [e] X.env = [(false, eval e X.env)] := by rfl) (hsw : swapsWith (.Call (.Attribute (.Name x p) "append" ap) [e] [] cp) none pos.line X.env = pure false := by rfl) :
 SD X F (.Expr (.Call (.Attribute (.Name x p) "append" ap) [e] [] cp) pos :: rest) ρ Q := by
 refine bB (PS.mono (dX (gY PySem.F.plainAttrs_list PySem.F.slot_list_append PySem.F.type_list_append cz (dg hN hv hd hcd) (aK he bu (by rw [hs]; rfl)) hbase (by rw [hs]; rfl) hline (by rw [hs]; rfl) rfl) hsw) ?_) hr;rintro Q' σ H ⟨hv, hρ, A, hl, S, f⟩;obtain ⟨l, as, e1, e2, e3, j⟩ := S.kI hl h;have hi : i < σ.length := (List.getElem?_eq_some_iff.mp e1).1;refine ⟨.ref l, e1, .inl ⟨rfl, _, dZ.of e3⟩, _, aF S true false, S.env hl true false, fun v H1 s1 i1 => ?_⟩;obtain ⟨a, ys, rfl, at', jn⟩ := av.mp i1;cases aC.mp jn;obtain ⟨ea, en⟩ : H1 a = some (.lst []) /\ H a = none := by
  rcases at' with z | z
  . exact z
  . exact absurd z.1 (by simp [out, nw])
 have hlen : (as.map V.ref).length < sizeLine := by rw [length_map, <- j.length]; exact aW (by omega)
 refine ⟨l, _, .ref a, rfl, rfl, s1.at e3, hlen, f.nx _ _ ?_⟩;have hal : a ≠ l := by rintro rfl; rw [e3] at en; cases en
 have haA : ∀ j, a ∉ A j := fun j hj => by obtain ⟨xs, e⟩ := S.lst j a hj; rw [en] at e; cases e
 have hnd := S.nd i;rw [e2] at hnd;have hl0 : l ∉ as := (nodup_cons.mp hnd).1;have kk : ∀ b o, H b = some o -> xI o = false -> b ∉ A i -> (upd H1 l (.lst (as.map V.ref ++ [.ref a]))) b = some o := fun b o e n hb => by
  rw [e2] at hb;have : b ≠ l := fun z => hb (by simp [z]);rw [ae this]; exact s1.get b o e n
 have mine : ∀ b ∈ l :: (as ++ [a]), b ∈ A i \/ H b = none := fun b hb => by
  rcases mem_cons.mp hb with z | hb
  . exact .inl (by rw [e2, z]; simp)
  . rcases mem_append.mp hb with hb | hb
    . exact .inl (by rw [e2]; simp [hb])
    . have : b = a := by simpa using hb
      exact .inr (by rw [this]; exact en)
 refine ⟨_, bP A i (l :: (as ++ [a])), by simp [hl], ?_, rfl⟩;have key := S.re (i := i) (v := .ref l) (sl := .kI fr (dss ++ [[]])) (l := l :: (as ++ [a])) (H2 := upd H1 l (.lst (as.map V.ref ++ [.ref a]))) (by rw [List.length_append]; omega) (by rw [List.length_append]; omega) ((S.same.trans s1).write (S.new i l (by rw [e2]; simp)) (s1.at e3)) kk ?_ (fun b hb => ⟨mine b hb, ?_⟩) ⟨l, as ++ [a], rfl, rfl, ?_, ?_⟩
 . rw [cn (by rw [getElem?_append_left hi]; exact e1), aX (by omega)] at key;exact key
 . have n1 : a ∉ l :: as := by rw [<- e2]; exact haA i
   rw [<- cons_append];exact List.nodup_append.mpr ⟨hnd, by simp, fun b hb c hc => by
    have : c = a := by simpa using hc
    subst this;rintro rfl;exact n1 hb⟩
 . rcases mem_cons.mp hb with z | hb
   . exact ⟨.l _, by rw [z, ak]; rfl⟩
   . rcases mem_append.mp hb with hb | hb
     . have : b ≠ l := fun z => hl0 (z ▸ hb);obtain ⟨xs, e⟩ := S.lst i b (by rw [e2]; simp [hb]);exact ⟨xs, by rw [ae this]; exact s1.at e xs.nt⟩
     . have : b = a := by simpa using hb
       rw [this, ae hal];exact ⟨.l _, ea⟩
 . rw [ak, map_append]; rfl
 . refine aU.snoc (xs := []) (j.carry (fun b xs hb e => ?_) (fK S kk mine fr)) (by rw [ae hal]; exact ea) (aC.mpr rfl);have : b ≠ l := by rintro rfl; exact hl0 hb
   rw [ae this]; exact s1.at e
theorem nh (i : Nat) {x : Str} {ap cp sp : Pos} {ix : Expr} {mi : Bool} {dss : List (List D)} {ds : List D} (fr : Bool) {d : D} (h : ρ[i]? = some (some (.kI fr (dss ++ [ds]))) := by rfl) (hix : E X mi (view true false ρ) ix (.int (-1))) (he : E X m1 (view true false ρ) e d) (fl : d.flat = true) (hz : ds.length < 1000)
 (hr : SD X F rest (ρ.set i (some (.kI fr (dss ++ [ds ++ [d]])))) Q)
 (hN : X.N[i]? = some x := by rfl) (hv : sx X.env.scope x := by first | exact Or.inl rfl | exact Or.inr (Or.inl rfl) | exact Or.inr (Or.inr rfl)) (hd : NdX x := by decide) (hcd : NcX x := by decide)
 (hpi : iG ix := by intro _ _; rfl) (hbase : attributeBase (.Subscript (.Name x p) ix sp) "append" X.env (eval (.Subscript (.Name x p) ix sp) X.env) = eval (.Subscript (.Name x p) ix sp) X.env := by rfl)
 (hline : (ap.endLine == cp.line) = true := by rfl)
 (hs : starEach [e] X.env = [(false, eval e X.env)] := by rfl) (hsw : swapsWith (.Call (.Attribute (.Subscript (.Name x p) ix sp) "append" ap) [e] [] cp) none pos.line X.env = pure false := by rfl) :
 SD X F (.Expr (.Call (.Attribute (.Subscript (.Name x p) ix sp) "append" ap) [e] [] cp) pos :: rest) ρ Q := by
 refine bB (PS.mono (dX (gY PySem.F.plainAttrs_list PySem.F.slot_list_append PySem.F.type_list_append cz (r0 qf (dg hN hv hd hcd) hix hpi) (aK he bu (by rw [hs]; rfl)) hbase (by rw [hs]; rfl) hline (by rw [hs]; rfl) rfl) hsw) ?_) hr;rintro Q' σ H ⟨hv, hρ, A, hl, S, f⟩;obtain ⟨l, as, e1, e2, e3, j⟩ := S.kI hl h;have hi : i < σ.length := (List.getElem?_eq_some_iff.mp e1).1;obtain ⟨bs, a, xs, rfl, j1, ea, ja⟩ := j.tR;have hnd := S.nd i;rw [e2] at hnd;have hal : a ≠ l := fun z => (nodup_cons.mp hnd).1 (by simp [z]);have hab : a ∉ bs := fun z => by
  have := (List.nodup_append.mp (nodup_cons.mp hnd).2).2.2 a z a (by simp);exact this rfl
 refine ⟨.ref l, e1, _, aF S true false, S.env hl true false, fun y H1 s1 i1 => ⟨l, _, -1, .ref a, rfl, ao.mp (i1.plain (aF S true false)), dZ.of (s1.at e3), ?_, .inl ⟨rfl, xs, dZ.of (s1.at ea)⟩, _, (aF S true false).same s1, (S.env hl true false).same s1, fun w H2 s2 i2 => ?_⟩⟩
 . rw [map_append]; exact sG _ _
 . have s12 := s1.trans s2;have S2 := S.grow s12;have hlen : xs.length < sizeLine := by rw [<- ja.length]; exact aW (by omega)
   refine ⟨a, xs, w, rfl, rfl, s12.at ea, hlen, f.nx _ _ ?_⟩;have aA : a ∈ A i := by rw [e2]; simp
   have kk : ∀ b o, H2 b = some o -> xI o = false -> b ∉ A i -> (upd H2 a (.lst (xs ++ [w]))) b = some o := fun b o e n hb => by
    have : b ≠ a := fun z => hb (z ▸ aA);rw [ae this]; exact e
   have mine : ∀ b ∈ l :: (bs ++ [a]), b ∈ A i \/ H2 b = none := fun b hb => .inl (by rw [e2]; exact hb);refine ⟨_, bP A i (l :: (bs ++ [a])), by simp [hl], ?_, rfl⟩;have key := S2.re (i := i) (v := .ref l) (sl := .kI fr (dss ++ [ds ++ [d]])) (l := l :: (bs ++ [a])) (H2 := upd H2 a (.lst (xs ++ [w]))) (by rw [List.length_append]; omega) (by rw [List.length_append]; omega) (S2.same.write (S2.new i a aA) (s12.at ea)) kk hnd (fun b hb => ⟨mine b hb, ?_⟩) ⟨l, bs ++ [a], rfl, rfl, ?_, ?_⟩
   . rw [cn (by rw [getElem?_append_left hi]; exact e1), aX (by omega)] at key;exact key
   . by_cases z : b = a
     . exact ⟨.l _, by rw [z, ak]; rfl⟩
     . rw [ae z];exact S2.lst i b (by rw [e2]; exact hb)
   . rw [ae (Ne.symm hal)]; exact s12.at e3
   . have c := fK S2 kk mine fr;have sqt : ∀ b (ys : List V), H2 b = some (.tup ys) -> (upd H2 a (.lst (xs ++ [w]))) b = some (.tup ys) := c.t;have j1' : aU X.K H2 (zn F (aG A) fr) dss bs := j1.carry (fun b ys hb e => s12.at e) (Carry.same s12);refine aU.snoc (j1'.carry (fun b ys hb e => ?_) c) ak (aH.append ((ja.same s12).carry c) (aH.one (In.flat sqt fl i2)));have : b ≠ a := fun z => hab (z ▸ hb);rw [ae this]; exact e
theorem wd (i : Nat) {st : List Stmt} {dss : List (List D)} (h : ρ[i]? = some (some (.kI true dss)) := by rfl) (hr : SD X F st (ρ.set i (some (.pl true (.lst (dss.map D.lst))))) Q) : SD X F st ρ Q := nV.mono hr fun Q' σ H z0 => fF z0 fun hv hρ A hl S f => by
 obtain ⟨l, as, e1, e2, e3, j⟩ := S.kI hl h;have hi : i < σ.length := (List.getElem?_eq_some_iff.mp e1).1;refine ⟨hv, hρ, bP A i [], by simp [hl], ?_, f⟩;have inz : ∀ b ∈ A i, (zn F (aG (bP A i [])) true).S b := fun b hb => ⟨S.new i b hb, fun ⟨k, hk⟩ => by
  by_cases q : k = i
  . rw [q, aY] at hk; simp at hk
  . rw [bM q] at hk; exact q (S.one k i b hk hb)⟩
 have key := S.re (i := i) (v := .ref l) (sl := .pl true (.lst (dss.map D.lst))) (l := []) (H2 := H) (by rw [List.length_append]; omega) (by rw [List.length_append]; omega) S.same (fun b o e _ hb => e) List.nodup_nil (fun a ha => by simp at ha) (av.mpr ⟨l, _, rfl, .inl ⟨e3, inz l (by rw [e2]; simp)⟩, kj j lY fun b hb => inz b (by rw [e2]; simp [hb])⟩);rw [cn (by rw [getElem?_append_left hi]; exact e1), aX (by omega)] at key;exact key
end
section
variable {X : Cx} {pins : HI} {σ : St} {H H' : Hp} {s : Shared} {h' : Heap}
theorem iE {t' : Nat} {ch : List Addr} (I : Inv X pins σ H s) (k : ∀ b o, b ∉ ch -> s.heap.get? b = some o -> h'.get? b = some o) (hf : ∀ b ∈ ch, kM X pins H b) : Inv X pins σ H { s with heap := h', toks := t' } := by
 have nit : ∀ b u, H b = some u -> b ∉ ch := fun b u e z => by rw [(hf b z).1] at e; cases e
 refine I.step (g' := s.gens) (d' := s.drawn) (ch := ch) (fun b hb => ⟨(hf b hb).2.2.2.1, (hf b hb).2.1, (hf b hb).2.2.2.2.1, (hf b hb).2.2.2.2.2⟩) (fun b o _ _ hc e _ => k b o hc e) (fun b o _ _ hc e _ => ⟨o.slots, k b o hc e⟩) (fun _ _ _ _ n => n)
  (fun b o hc e => ⟨o, k b o hc e⟩) (fun _ _ e => e) (fun _ _ _ e => e) (fun b ps e => ⟨#[], by rw [e]; simp⟩) (fun m hm => ?_) (fun b u e => ?_) I.bare
 . obtain ⟨o, es, ep, ho, r⟩ := hm;exact ⟨o, es, ep, k _ o (fun z => (hf _ z).2.1 rfl) ho, r⟩
 . refine (I.hok b u e).mq (fun c v hc q => k c v ?_ q) (fun _ q => q) fun _ _ q => q;rcases hc with z | z
   . rw [z]; exact nit b u e
   . exact nit c _ z
theorem yB {a : Addr} {o : HO} (I : Inv X pins σ H s) (f : kM X pins H a) (ha : X.s₀.heap.objs.size <= a) (new : bR X.prog X.w (upd H a o) s.heap a o) : Inv X pins σ (upd H a o) s := by
 have hn := f.1;have ne0 : ∀ b ob, X.s₀.heap.get? b = some ob -> b ≠ a := fun b ob e => Nat.ne_of_lt (Nat.lt_of_lt_of_le (lt_size e) ha);refine ⟨I.ok, I.os, I.bare, ⟨I.base.keep, I.base.slot, fun b ob e n hx => ?_, I.base.there, fun b xs e => ?_, fun b ob u e => ?_, fun b ps e => ?_⟩, I.loc, I.cell, ?_, fun x c e => ?_, fun p hp => ?_, fun b u e => ?_, I.len⟩
 . rw [ae (ne0 b ob e)]; exact I.base.free b ob e n hx
 . have := I.base.tups b xs e;rw [ae (aw this hn)]; exact this
 . have := I.base.frzs b ob u e;rw [ae (aw this hn)]; exact this
 . obtain ⟨m, e1⟩ := I.base.tbls b ps e;exact ⟨m, by rw [ae (aw e1 hn)]; exact e1⟩
 . rw [ae (Ne.symm f.2.1)]; exact I.free
 . rw [ae (f.2.2.2.2.1 x c e)]; exact I.freeC x c e
 . obtain ⟨h1, h2, h3, h4, h5⟩ := I.pin p hp;exact ⟨h1, by rw [ae (f.2.2.2.2.2 p hp)]; exact h2, h3, h4, h5⟩
 . by_cases hb : b = a
   . subst hb; rw [ak] at e; cases e; exact new
   . rw [ae hb] at e;exact (I.hok b u e).mq (fun c v _ q => q) (fun c q => by rw [ae (aw q hn)]; exact q) fun c xs q => by rw [ae (aw q hn)]; exact q
end
def GV (K : Frag) (a : Addr) : It :=
 ⟨fun i H => ∃ xs x, dZ K H a xs /\ xs[i]? = some x, fun i H y H' => ∃ p x, H p = none /\ y = .ref p /\ (∀ xs, dZ K H a xs -> xs[i]? = some x) /\ H' = upd H p (.tup [.int i, x]), fun i H => ∃ xs, dZ K H a xs /\ xs.length <= i⟩
theorem wy {P : Program} {w : World} {K : Frag} {es : List Expr} {kt : Nat} {pt : Pos} (a e it : Addr) (hne : e ≠ it) : Turn P w K (.Tuple es kt pt) (GV K a) [e, it] e (fun i h => (∃ old, IsEnum h e it (i : Nat) old) /\ h.IsListIter it a i) where
 mem := by simp
 obj := fun i h st b hb => by
  obtain ⟨⟨old, he⟩, o, e1, c, d⟩ := st;rcases mem_cons.mp hb with rfl | hb
  . exact ⟨_, he, fun v z => by
     have z' : Data.fields _ = Data.cell v := z;cases z'⟩
  . have e2 : b = it := by simpa using hb
    subst e2;exact ⟨o, e1, fun v z => by rw [d] at z; cases z⟩
 keep := fun i h h' st k => by
  obtain ⟨⟨old, he⟩, hit⟩ := st;exact ⟨⟨old, k e (by simp) _ he⟩, hit.at fun o q => k it (by simp) o q⟩
 item := by
  intro X hP hw hK hc i pins s σ H E I hf st hg;subst hP hw hK;obtain ⟨⟨old, he⟩, hit⟩ := st;obtain ⟨xs, x, hq, hx⟩ := hg;obtain ⟨its, rv, p, hz⟩ := I.list hq;obtain ⟨u, hu, ru⟩ := rv.get hx;refine wpAny_pyNext_enum_item he hit p.isList (x := u) (by simpa using hu) hne fun h1 he1 hit1 ht1 hz1 hk1 => ?_;refine ⟨_, rfl, wpAny_letOwnedTupleGo_enum (s := { s with heap := h1, toks := s.toks + 1 }) he1 fun h2 he2 sb2 => ?_⟩;have hlt : e < s.heap.objs.size := lt_size he;have kk : ∀ b o, b ∉ [e, it] -> s.heap.get? b = some o -> h2.get? b = some o := fun b o hb q => by
   have b1 : b ≠ e := fun z => hb (by simp [z]);have b2 : b ≠ it := fun z => hb (by simp [z]);exact (sb2.2 b b1).trans (hk1 b o b1 b2 q)
  have I2 : Inv X pins σ H { s with heap := h2, toks := s.toks + 1 } := iE I kk hf;have fresh := I.hok.fresh (Nat.le_refl s.heap.objs.size);have tup : h2.get? s.heap.objs.size = some { cls := .type "tuple", data := .seq #[.int i s.toks, u] } := (sb2.2 _ (Nat.ne_of_gt hlt)).trans ht1;have I3 := yB (o := .tup [.int (i : Nat), x]) I2 (I.ou (Nat.le_refl _) fresh) (Nat.le_trans I.sz (Nat.le_refl _)) ⟨by show 2 <= sizeLine; exact Nat.le_of_lt (aW (by decide)), [.int i s.toks, u], .cons ⟨_, rfl⟩ (.cons ru .nil), ⟨_, tup, rfl, _, rfl⟩⟩;refine ⟨.ref s.heap.objs.size, _, I3, rfl, ⟨s.heap.objs.size, x, fresh, rfl, fun ys hy => by rw [I.gZ hy hq]; exact hx, rfl⟩, ⟨⟨u, ?_⟩, ?_⟩, fun b hb => ?_⟩
  . have : ((i : Int) + 1) = ((i + 1 : Nat) : Int) := by omega
    rw [<- this]; exact he2
  . obtain ⟨o, q, c, d⟩ := hit1;exact ⟨o, (sb2.2 it (Ne.symm hne)).trans q, c, d⟩
  . have hb' : b < s.heap.objs.size := by
     rcases mem_cons.mp hb with rfl | hb
     . exact hlt
     . have e2 : b = it := by simpa using hb
       subst e2;obtain ⟨o, q, _⟩ := hit;exact lt_size q
    rw [ae (Nat.ne_of_lt hb')]; exact (hf b hb).1
 done := by
  intro X hP hw hK hc i pins s σ H E I hf st hg;subst hP hw hK;obtain ⟨⟨old, he⟩, hit⟩ := st;obtain ⟨xs, hq, hx⟩ := hg;obtain ⟨its, rv, p, hz⟩ := I.list hq;have hl := rv.length;exact wpAny_pyNext_enum_end (I.ok.hd hc) he hit p.isList (by simp; omega) fun h' eb => ⟨rfl, iE (t' := s.toks) (ch := [it]) I (fun b o hb q => eb b o (by simpa using hb) q) fun b hb => hf b (by
   have : b = it := by simpa using hb
   simp [this])⟩
 self := fun _ _ _ _ _ st h => by
  obtain ⟨⟨old, he⟩, _⟩ := st;exact wpAny_pyIter_enum he h
section
variable {X : Cx} {ρ : List (Option D)} {m m1 m2 : Bool} {es : List Expr} {kt : Nat} {pt p pos : Pos} {a b : Expr} {ds es' : List D}
def ER (K : Frag) (ta : TA) : TI := fun σ H R => ta σ H fun vs H1 => ∃ l, vs = [.ref l] /\ (∃ xs, dZ K H1 l xs) /\ R (GV K l) H1
theorem Cp {ta : TA} (hg : Gl X "enumerate") (hm : X.mg "enumerate" = none) (ha : PA X [a] ta) (hs : starEach [a] X.env = [(false, eval a X.env)] := by rfl) : PI X (.Tuple es kt pt) (.Call (.Name "enumerate" p) [a] [] pos) (ER X.K ta) := by
 intro pins s σ H R I h;refine Call_ (jv I hg hm boot_enumerate (PyProof.Rows.callWith_type1 (cy (ha pos pins s σ H _ I h) fun us s1 ⟨vs, H1, I1, r1, q1⟩ => ?_) hs rfl));obtain ⟨l, e, ⟨xs, hq⟩, q⟩ := q1;subst e;obtain ⟨u, rfl, ru⟩ := vals1 r1;cases ru;obtain ⟨its, rv, pl, hz⟩ := I1.list hq;refine call_enumerate_list pl.isList fun h' he hit hz' hk => ?_;have I2 : Inv X pins σ H1 { s1 with heap := h' } := I1.kept (t' := s1.toks) hk;refine wpAny_pyIter_enum (s := { s1 with heap := h' }) he ⟨s1.heap.objs.size + 1, [s1.heap.objs.size + 1, s1.heap.objs.size], _, _, H1, rfl, I2, wy l _ _ (Nat.succ_ne_self _), ⟨⟨_, he⟩, hit⟩, fun b hb => ?_, q⟩;rcases mem_cons.mp hb with rfl | hb
 . exact I1.ou (Nat.le_succ _) (I1.hok.fresh (Nat.le_succ _))
 . have e : b = s1.heap.objs.size := by simpa using hb
   subst e;exact I1.ou (Nat.le_refl _) (I1.hok.fresh (Nat.le_refl _))
def nk (ds : List D) : List D := (List.range ds.length).map fun i => D.tup [.int (i : Nat), ds.getD i .non]
theorem kU {i : Nat} {d : D} (h : (nk ds)[i]? = some d) : ∃ d', ds[i]? = some d' /\ d = .tup [.int (i : Nat), d'] := by
 unfold nk at h;rw [getElem?_map] at h;by_cases hi : i < ds.length
 . rw [List.getElem?_range hi] at h;refine ⟨ds[i], by simp [hi], ?_⟩;have := Option.some.inj h;rw [<- this]; simp [hi]
 . rw [List.getElem?_eq_none (by simpa using hi)] at h;cases h
theorem kS : (nk ds).length = ds.length := by simp [nk]
theorem vH (h : E X m ρ a (.lst ds)) (hm : X.mg "enumerate" = none) (hg : Gl X "enumerate" := by rfl) (hs : starEach [a] X.env = [(false, eval a X.env)] := by rfl) :
 IT X (.Tuple es kt pt) m ρ (.Call (.Name "enumerate" p) [a] [] pos) (nk ds) := PI.mono (Cp hg hm (aK h bu (by rw [hs]; rfl)) hs) fun σ H R z0 => bo z0 fun Z oz en k => ⟨Z, oz, en, fun v H1 s1 i1 => by
 obtain ⟨l, xs, rfl, at', j⟩ := av.mp i1;refine ⟨l, rfl, ⟨xs, at'.sq⟩, k _ H1 [.ref l] [.lst ds] s1 (aH.one i1) ⟨fun Z2 H2 o2 j2 i d e => ?_, fun Z2 H2 o2 j2 => ?_⟩⟩
 . obtain ⟨d', e', rfl⟩ := kU e;obtain ⟨w, r, e1, j3, j4⟩ := ar.mp j2;cases e1;obtain ⟨a', ys, e2, l2, j5⟩ := av.mp j3;cases e2;obtain ⟨v, e3, iv⟩ := j5.get e';refine ⟨⟨ys, v, l2.sq, e3⟩, fun x H3 ⟨q, y, hq, ex, hy, eH⟩ => ?_⟩;subst ex eH;have := hy ys l2.sq;rw [e3] at this;cases this;exact ⟨az hq, cF.mpr ⟨q, _, rfl, ak, ar.mpr ⟨_, _, rfl, ao.mpr rfl, aH.one (iv.same (az hq))⟩⟩⟩
 . obtain ⟨w, r, e1, j3, j4⟩ := ar.mp j2;cases e1;obtain ⟨a', ys, e2, l2, j5⟩ := av.mp j3;cases e2;exact ⟨ys, l2.sq, by rw [kS]; exact Nat.le_of_eq j5.length.symm⟩⟩
theorem CD {bs : List Bool} {q : Bool} (ha : E X m1 ρ a (.bl q)) (hb : E X m2 ρ b (.lst (bs.map D.bl))) (hm : behindInMarks .In b = false := by rfl) : T X ρ (.Compare a [.In] [b] pos) (bs.any (· == q)) :=
 j9 pH ha hb (fun x y H Z Q _ i1 i2 k => by
  obtain ⟨l, xs, rfl, at', j⟩ := av.mp i2;cases aR.mp i1;rw [lH j] at at';refine ⟨l, _, rfl, .inl at'.sq, rfl, by simp [gs], ?_⟩;have e : CG (.bl q) (bs.map V.bl) = bs.any (· == q) := by
   unfold CG;rw [List.any_map];rfl
  simp only [Bool.false_eq_true, if_false];rw [e];exact k _ (au.refl H)) hm
end
theorem qc {α β : Type} (f : α -> β) (l : List α) (a b : Option Int) : cut (l.map f) a b = (cut l a b).map f := by
 unfold cut;rw [length_map, List.map_take, List.map_drop]
theorem BX {α : Type} {l : List α} {a b : Option Int} {x : α} (h : x ∈ cut l a b) : x ∈ l := List.mem_of_mem_drop (List.mem_of_mem_take h)
theorem bh {n : Nat} (h : n <= 1000) : n <= sizeLine := Nat.le_of_lt (aW h)
theorem sg {α : Type} (xs : List α) (k : Nat) : cut xs (some (k : Int)) none = xs.drop k := by
 unfold cut;rw [HT.lZ, HT.sJ];by_cases h : k <= xs.length
 . rw [Nat.min_eq_left h];exact List.take_of_length_le (by simp)
 . have h' : xs.length <= k := by omega
   rw [Nat.min_eq_right h', List.drop_of_length_le h', List.drop_length];simp
theorem zw {α : Type} (xs : List α) (k : Nat) : cut xs none (some (k : Int)) = xs.take k := by
 unfold cut;rw [HT.lZ, HT.sJ];by_cases h : k <= xs.length
 . rw [Nat.min_eq_left h]; simp
 . have h' : xs.length <= k := by omega
   rw [Nat.min_eq_right h', List.take_of_length_le h'];simp
theorem jS {α : Type} (xs : List α) (j k : Nat) : cut xs (some (j : Int)) (some (k : Int)) = (xs.drop j).take (k - j) := by
 unfold cut;rw [HT.lZ, HT.lZ];by_cases h : j <= xs.length
 . rw [Nat.min_eq_left h];by_cases h2 : k <= xs.length
   . rw [Nat.min_eq_left h2]
   . have h3 : xs.length <= k := by omega
     rw [Nat.min_eq_right h3, List.take_of_length_le (by simp), List.take_of_length_le (by simp; omega)]
 . have h' : xs.length <= j := by omega
   rw [Nat.min_eq_right h', List.drop_of_length_le h', List.drop_length];simp
theorem eT {ds : List D} {a b : Option Int} (h : bj ds = true) : bj (cut ds a b) = true := cO fun d hd => pf h d (BX hd)
theorem fo {α : Type} {xs : List α} {i : Int} {a : α} (h0 : 0 <= i) (h : xs[i.toNat]? = some a) : nY xs i = some a := by
 obtain ⟨k, rfl⟩ := Int.eq_ofNat_of_zero_le h0;exact dY (by simpa using h)
def G6 (K : Frag) (a b : Addr) : It :=
  ⟨fun i H => ∃ xs ys x y, dZ K H a xs /\ dZ K H b ys /\ xs[i]? = some x /\ ys[i]? = some y,
   fun i H z H' => ∃ p x y, H p = none /\ z = .ref p /\ (∀ xs, dZ K H a xs -> xs[i]? = some x) /\ (∀ ys, dZ K H b ys -> ys[i]? = some y) /\ H' = upd H p (.tup [x, y]),
   fun i H => ∃ xs ys, dZ K H a xs /\ dZ K H b ys /\ (xs.length <= i \/ ys.length <= i)⟩
theorem Ay {P : Program} {w : World} {K : Frag} {es : List Expr} {kt : Nat} {pt : Pos} (a b z TI TO i1 i2 : Addr) (D : ZipApart z TI TO i1 i2 a b) :
 Turn P w K (.Tuple es kt pt) (G6 K a b) [z, TI, TO, i1, i2] z (fun i h => IsZip h z TI TO .none /\ IsPair h TI (.ref i1) (.ref i2) /\ (∃ u v, IsPair h TO u v) /\ h.IsListIter i1 a i /\ h.IsListIter i2 b i) where
 mem := by simp
 obj := fun i h st c hc => by
  obtain ⟨hz, hTI, ⟨u, v, hTO⟩, ⟨o1, e1, c1, d1⟩, ⟨o2, e2, c2, d2⟩⟩ := st;simp only [mem_cons, not_mem_nil, or_false] at hc;rcases hc with rfl | rfl | rfl | rfl | rfl
  . exact ⟨_, hz, fun v q => by
     have q' : Data.fields _ = Data.cell v := q;cases q'⟩
  . exact ⟨_, hTI, fun v q => by
     have q' : Data.seq _ _ = Data.cell v := q;cases q'⟩
  . exact ⟨_, hTO, fun v q => by
     have q' : Data.seq _ _ = Data.cell v := q;cases q'⟩
  . exact ⟨o1, e1, fun v q => by rw [d1] at q; cases q⟩
  . exact ⟨o2, e2, fun v q => by rw [d2] at q; cases q⟩
 keep := fun i h h' st k => by
  obtain ⟨hz, hTI, ⟨u, v, hTO⟩, h1, h2⟩ := st;exact ⟨k z (by simp) _ hz, k TI (by simp) _ hTI, ⟨u, v, k TO (by simp) _ hTO⟩, h1.at fun o q => k i1 (by simp) o q, h2.at fun o q => k i2 (by simp) o q⟩
 item := by
  intro X hP hw hK hc i pins s σ H E I hf st hg;subst hP hw hK;obtain ⟨hz, hTI, ⟨u0, v0, hTO⟩, h1, h2⟩ := st;obtain ⟨xs, ys, x, y, hqa, hqb, hx, hy⟩ := hg;obtain ⟨its, rv, p, hsz⟩ := I.list hqa;obtain ⟨its2, rv2, p2, hsz2⟩ := I.list hqb;obtain ⟨u, hu, ru⟩ := rv.get hx;obtain ⟨v, hv, rv'⟩ := rv2.get hy;refine wpAny_pyNext_zip_item D hz hTI hTO h1 h2 p.isList p2.isList (x := u) (y := v) (by simpa using hu) (by simpa using hv) fun h' hz1 hTO1 h11 h21 ht1 hsz1 hk1 => ?_;refine ⟨_, rfl, wpAny_letOwnedTupleGo_zip (s := { s with heap := h' }) hz1 fun h2' hz2 sb2 => ?_⟩;have hlt : z < s.heap.objs.size := lt_size hz;have kk : ∀ c o, c ∉ [z, TI, TO, i1, i2] -> s.heap.get? c = some o -> h2'.get? c = some o := fun c o hc q => by
   simp only [mem_cons, not_mem_nil, or_false, not_or] at hc;exact (sb2.2 c hc.1).trans (hk1 c o hc.1 hc.2.2.1 hc.2.2.2.1 hc.2.2.2.2 q)
  have I2 : Inv X pins σ H { s with heap := h2', toks := s.toks } := iE I kk hf;have fresh := I.hok.fresh (Nat.le_refl s.heap.objs.size);have tup : h2'.get? s.heap.objs.size = some { cls := .type "tuple", data := .seq #[u, v] } := (sb2.2 _ (Nat.ne_of_gt hlt)).trans ht1;have I3 := yB (o := .tup [x, y]) I2 (I.ou (Nat.le_refl _) fresh) (Nat.le_trans I.sz (Nat.le_refl _)) ⟨by show 2 <= sizeLine; exact Nat.le_of_lt (aW (by decide)), [u, v], .cons ru (.cons rv' .nil), ⟨_, tup, rfl, _, rfl⟩⟩;refine ⟨.ref s.heap.objs.size, _, I3, rfl, ⟨s.heap.objs.size, x, y, fresh, rfl, fun zs hs => by rw [I.gZ hs hqa]; exact hx, fun zs hs => by rw [I.gZ hs hqb]; exact hy, rfl⟩, ⟨hz2, ?_, ⟨u, v, ?_⟩, ?_, ?_⟩, fun c hc => ?_⟩
  . exact (sb2.2 TI D.TIz).trans (hk1 TI _ D.TIz D.TITO D.TIi1 D.TIi2 hTI)
  . exact (sb2.2 TO D.TOz).trans hTO1
  . obtain ⟨o, q, c, d⟩ := h11;exact ⟨o, (sb2.2 i1 D.i1z).trans q, c, d⟩
  . obtain ⟨o, q, c, d⟩ := h21;exact ⟨o, (sb2.2 i2 D.i2z).trans q, c, d⟩
  . have hc' : c < s.heap.objs.size := by
     simp only [mem_cons, not_mem_nil, or_false] at hc;rcases hc with rfl | rfl | rfl | rfl | rfl
     . exact hlt
     . exact lt_size hTI
     . exact lt_size hTO
     . obtain ⟨o, q, _⟩ := h1; exact lt_size q
     . obtain ⟨o, q, _⟩ := h2; exact lt_size q
    rw [ae (Nat.ne_of_lt hc')]; exact (hf c hc).1
 done := by
  intro X hP hw hK hc i pins s σ H E I hf st hg;subst hP hw hK;obtain ⟨hz, hTI, ⟨u0, v0, hTO⟩, h1, h2⟩ := st;obtain ⟨xs, ys, hqa, hqb, hx⟩ := hg;obtain ⟨its, rv, p, hsz⟩ := I.list hqa;obtain ⟨its2, rv2, p2, hsz2⟩ := I.list hqb;have hl := rv.length;have hl2 := rv2.length;refine wpAny_pyNext_zip_end (I.ok.hd hc) D hz hTI hTO h1 h2 p.isList p2.isList (by
   rcases hx with h | h
   . left; simp; omega
   . right; simp; omega) fun h' eb => ⟨rfl, iE (t' := s.toks) (ch := [z, TI, TO, i1, i2]) I (fun c o hc q => ?_) hf⟩
  simp only [mem_cons, not_mem_nil, or_false, not_or] at hc;exact eb c o hc.1 hc.2.2.1 hc.2.2.2.1 hc.2.2.2.2 q
 self := fun _ _ _ _ _ st h => wpAny_pyIter_zip st.1 h
section
variable {X : Cx} {ρ : List (Option D)} {m m1 m2 : Bool} {es : List Expr} {kt : Nat} {pt p pos : Pos} {a b : Expr} {ds es' : List D}
def Gh (K : Frag) (ta : TA) : TI := fun σ H R => ta σ H fun vs H1 => ∃ l l', vs = [.ref l, .ref l'] /\ (∃ xs, dZ K H1 l xs) /\ (∃ xs, dZ K H1 l' xs) /\ R (G6 K l l') H1
theorem C9 {ta : TA} (hg : Gl X "zip") (hm : X.mg "zip" = none) (ha : PA X [a, b] ta) (hs : starEach [a, b] X.env = [(false, eval a X.env), (false, eval b X.env)] := by rfl) (hs2 : starEach [b] X.env = [(false, eval b X.env)] := by rfl) : PI X (.Tuple es kt pt) (.Call (.Name "zip" p) [a, b] [] pos) (Gh X.K ta) := by
 intro pins s σ H R I h;refine Call_ (jv I hg hm boot_zip (PyProof.Rows.callWith_type1 (cy (ha pos pins s σ H _ I h) fun us s1 ⟨vs, H1, I1, r1, q1⟩ => ?_) (by rw [hs, <- hs2]) (by rw [hs2]; rfl)));obtain ⟨l, l', e, ⟨xs, hq⟩, ⟨ys, hq'⟩, q⟩ := q1;subst e
 cases r1 with
 | cons ra rr =>
  cases rr with
  | cons rb rn =>
   cases rn;cases ra;cases rb;obtain ⟨its, rv, pl, hz⟩ := I1.list hq;obtain ⟨its2, rv2, pl2, hz2⟩ := I1.list hq';obtain ⟨o1, _, g1, _⟩ := id pl;obtain ⟨o2, _, g2, _⟩ := id pl2;refine call_zip_2 pl.isList pl2.isList fun h' hz' hTI hTO hit1 hit2 hsz hk => ?_;have I2 : Inv X pins σ H1 { s1 with heap := h' } := I1.kept (t' := s1.toks) hk;refine wpAny_pyIter_zip (s := { s1 with heap := h' }) hz' ⟨s1.heap.objs.size + 4, [s1.heap.objs.size + 4, s1.heap.objs.size + 2, s1.heap.objs.size + 3, s1.heap.objs.size, s1.heap.objs.size + 1], _, _, H1, rfl, I2, Ay l l' _ _ _ _ _ (zipApart_new (lt_size g1) (lt_size g2)), ⟨hz', hTI, ⟨_, _, hTO⟩, hit1, hit2⟩, fun c hc => ?_, q⟩;have hge : s1.heap.objs.size <= c := by
    simp only [mem_cons, not_mem_nil, or_false] at hc;rcases hc with rfl | rfl | rfl | rfl | rfl
    . exact Nat.le_add_right _ _
    . exact Nat.le_add_right _ _
    . exact Nat.le_add_right _ _
    . exact Nat.le_refl _
    . exact Nat.le_add_right _ _
   exact I1.ou hge (I1.hok.fresh hge)
def lL (ds es : List D) : List D := (ds.zip es).map fun p => D.tup [p.1, p.2]
theorem rL {i : Nat} {d : D} (h : (lL ds es')[i]? = some d) : ∃ d1 d2, ds[i]? = some d1 /\ es'[i]? = some d2 /\ d = .tup [d1, d2] := by
 unfold lL at h;rw [getElem?_map] at h
 cases q : (ds.zip es')[i]? with
 | none => rw [q] at h; cases h
 | some p =>
  rw [q] at h;cases h;have := List.getElem?_zip_eq_some.mp q;exact ⟨p.1, p.2, this.1, this.2, rfl⟩
theorem nD : (lL ds es').length = min ds.length es'.length := by simp [lL]
theorem yJ (h : E X m1 ρ a (.lst ds)) (h2 : E X m2 ρ b (.lst es')) (hm : X.mg "zip" = none) (hg : Gl X "zip" := by rfl) (hs : starEach [a, b] X.env = [(false, eval a X.env), (false, eval b X.env)] := by rfl) (hs2 : starEach [b] X.env = [(false, eval b X.env)] := by rfl) :
 IT X (.Tuple es kt pt) false ρ (.Call (.Name "zip" p) [a, b] [] pos) (lL ds es') := PI.mono (C9 hg hm (ab h (aq h2 (by rw [hs2]; rfl)) (by rw [hs, hs2])) hs hs2) fun σ H R z0 => bo z0 fun Z oz en k => ⟨Z, oz, en, fun vs H1 s1 i1 => by
 obtain ⟨v1, r1, rfl, j1, jr⟩ := ar.mp i1;obtain ⟨v2, r2, rfl, j2, jr2⟩ := ar.mp jr;cases aC.mp jr2;obtain ⟨l, xs, rfl, at1, jx⟩ := av.mp j1;obtain ⟨l', ys, rfl, at2, jy⟩ := av.mp j2;refine ⟨l, l', rfl, ⟨xs, at1.sq⟩, ⟨ys, at2.sq⟩, k _ H1 [.ref l, .ref l'] [.lst ds, .lst es'] s1 i1 ⟨fun Z2 H2 o2 j2 i d e => ?_, fun Z2 H2 o2 j2 => ?_⟩⟩
 . obtain ⟨d1, d2, e1, e2, rfl⟩ := rL e;obtain ⟨w, r, q1, j3, j4⟩ := ar.mp j2;cases q1;obtain ⟨w2, r2, q2, j5, j6⟩ := ar.mp j4;cases q2;obtain ⟨a1, us, q3, l3, j7⟩ := av.mp j3;cases q3;obtain ⟨a2, ws, q4, l4, j8⟩ := av.mp j5;cases q4;obtain ⟨v, e3, iv⟩ := j7.get e1;obtain ⟨v', e4, iv'⟩ := j8.get e2;refine ⟨⟨us, ws, v, v', l3.sq, l4.sq, e3, e4⟩, fun x H3 ⟨q, y, y', hq, ex, hy, hy', eH⟩ => ?_⟩;subst ex eH;have t1 := hy us l3.sq;rw [e3] at t1;cases t1;have t2 := hy' ws l4.sq;rw [e4] at t2;cases t2;exact ⟨az hq, cF.mpr ⟨q, _, rfl, ak, ar.mpr ⟨_, _, rfl, iv.same (az hq), aH.one (iv'.same (az hq))⟩⟩⟩
 . obtain ⟨w, r, q1, j3, j4⟩ := ar.mp j2;cases q1;obtain ⟨w2, r2, q2, j5, j6⟩ := ar.mp j4;cases q2;obtain ⟨a1, us, q3, l3, j7⟩ := av.mp j3;cases q3;obtain ⟨a2, ws, q4, l4, j8⟩ := av.mp j5;cases q4;refine ⟨us, ws, l3.sq, l4.sq, ?_⟩;rw [nD, <- j7.length, <- j8.length];omega⟩
end
section
variable {X : Cx} {pins : HI} {σ : St} {H : Hp} {s : Shared}
theorem Inv.Cq {a : Addr} {xs : List V} (I : Inv X pins σ H s) (h : dZ X.K H a xs) : ∃ (its : HF) (n : Nat) (sl : HD), Vals xs its /\ s.heap.get? a = some { cls := .type "list", dict := none, data := .seq its.toArray n, slots := sl } /\ xs.length <= sizeLine := by
 obtain ⟨its, r, ⟨o, n, e, hc, hd, hs⟩, z⟩ := I.list h;obtain ⟨cls, dict, data, slots⟩ := o;simp only at hc hd hs;subst hc hd hs;exact ⟨its, n, slots, r, e, z⟩
end
section
variable {X : Cx}
theorem B5 : iV X (binaryOp .Add) (fun x y H Q => ∃ l b xs zs, x = .ref l /\ y = .ref b /\ dZ X.K H l xs /\ dZ X.K H b zs /\ xs.length + zs.length <= sizeLine /\ ∀ p, H p = none -> Q (.ref p) (upd H p (.lst (xs ++ zs)))) := by
 intro pins s σ H x y v u Q I rx ry h;obtain ⟨l, b, xs, zs, rfl, rfl, hH, hB, hz, q⟩ := h;cases rx;cases ry;obtain ⟨its, n, sl, r, e, z⟩ := Inv.Cq I hH;obtain ⟨its2, n2, sl2, r2, e2, z2⟩ := Inv.Cq I hB;have h1 := r.length;have h2 := r2.length;refine concat_meets ⟨_, e, rfl⟩ ⟨_, e2, rfl⟩ PySem.noFill_list_add PySem.seq_list_add F.slot_list_add F.entry_list_add (F.args_list_add_2 _ _) (list_addW l b its.toArray its2.toArray n n2 none none sl sl2 (by rw [size_toArray, size_toArray]; omega)) ⟨e, e2, ?_⟩;have ea : its.toArray ++ its2.toArray = (its ++ its2).toArray := by simp
 rw [ea];exact ⟨.ref _, _, I.Fh (t' := s.toks) (r.append r2) (by rw [List.length_append]; omega), rfl, q _ I.fresh⟩
variable {ρ : List (Option D)} {m m1 m2 : Bool} {a b : Expr} {ds es : List D} {pos : Pos}
theorem Eu (ha : E X m1 ρ a (.lst ds)) (hb : E X m2 ρ b (.lst es)) (hz : ds.length + es.length <= sizeLine) (hm : m = true -> (m1 = true \/ bj ds = true) /\ (m2 = true \/ bj es = true) := by intro h; first | cases h | exact ⟨.inl rfl, .inl rfl⟩) : E X m ρ (.BinOp a .Add b pos) (.lst (ds ++ es)) :=
 PE.mono (CP B5 ha hb) fun σ H Q z0 => bo z0 fun Z oz en k => ⟨Z, oz, en, fun x H1 s1 i1 => ⟨Z, oz.same s1, en.same s1, fun y H2 s2 i2 => by
  have s := s1.trans s2;obtain ⟨p, xs, rfl, lq, j⟩ := av.mp (In.same s2 i1);obtain ⟨p', ys, rfl, lq', j'⟩ := av.mp (In.later s1 i2);refine ⟨p, p', xs, ys, rfl, rfl, lq.sq, lq'.sq, by rw [<- j.length, <- j'.length]; exact hz, fun q hq => k (.ref q) _ (s.trans (az hq)) (av.mpr ⟨q, _, rfl, .inl ⟨ak, ?_⟩, ?_⟩)⟩
  . cases m
    . exact oz q (s.free hq)
    . exact s.free hq
  . have jc := j.same (az (o := .lst (xs ++ ys)) hq);have jc' := j'.same (az (o := .lst (xs ++ ys)) hq);cases m
    . refine aH.append ?_ ?_
      . cases m1
        . exact jc
        . exact jc.up oz
      . cases m2
        . exact jc'
        . exact jc'.up oz
    . obtain ⟨q1, q2⟩ := hm rfl;refine aH.append ?_ ?_
      . rcases q1 with h | h
        . subst h; exact jc
        . exact jc.ef h
      . rcases q2 with h | h
        . subst h; exact jc'
        . exact jc'.ef h⟩⟩
end
end Y
namespace Y
open PySem PyProof.Rows Builtin Builtin.Str StrLaws
abbrev cl (z : Str) : List Nat := z.cps.toList
def Ft (l : HN) : Str := ⟨l.toArray⟩
theorem zE (z : Str) : Ft (cl z) = z := by simp [cl, Ft]
theorem qE {a b : Str} (h : cl a = cl b) : a = b := by rw [<- zE a, <- zE b, h]
theorem mC (z : Str) : (cl z).length = z.length := by simp [cl, Str.length]
theorem oO {z : Str} : cl z = [] ↔ z = "" := ⟨fun h => qE (by rw [h]; rfl), fun h => by subst h; rfl⟩
end Y
namespace Y
open PySem PyProof.Rows Builtin Builtin.Str StrLaws
def AM : Str := "abcdefghijklmnopqrstuvwxyz0123456789"
def FO (c : Nat) : Bool := decide (c ∈ cl AM)
end Y
namespace Y
open PySem PyProof.Rows Builtin Builtin.Str StrLaws
def AH (sep : HN) : List HN -> List Nat
 | [] => []
 | [x] => x
 | x :: y :: r => x ++ sep ++ AH sep (y :: r)
def Hd (z : Str) : Prop := z ≠ "" /\ ∀ c ∈ cl z, FO c = true
end Y
namespace Y
open PySem PyProof.Rows Builtin Builtin.Str StrLaws
end Y
namespace Y
open PySem PySem.Spec PyProof.Rows L2
variable [cq]
def cellAt (ns : HM) (k : Nat) : Int := ns.getD k 0
def qR (ds : List D) (d : D) : Prop := ∃ (ns : HM) (k : Nat), ns.length <= 1000 /\ ds = [.lst (ns.map D.int), .int k] /\ d = .int (cellAt ns k)
def part (c k m : Int) : Int := (c % 99991 + 17) * (48271 + 7919 * k) % 65537 * (k + 3) % 8191 % m
theorem cL (c k : Int) {m : Int} (h : 0 < m) : 0 <= part c k m := Int.emod_nonneg _ (by omega)
theorem eJ (c k : Int) {m : Int} (h : 0 < m) : part c k m < m := Int.emod_lt_of_pos _ h
def pg (ds : List D) (d : D) : Prop := ∃ c k m : Int, 0 < m /\ ds = [.int c, .int k, .int m] /\ d = .int (part c k m)
def mU (n : Int) : Nat := AM.cps.toList.getD (n % 36).toNat 0
theorem Bz (n : Int) : nY AM.cps.toList (n % 36) = some (mU n) := by
 have h0 := Int.emod_nonneg n (show (36 : Int) ≠ 0 by decide);have h1 := Int.emod_lt_of_pos n (show (0 : Int) < 36 by decide);have hl : AM.cps.toList.length = 36 := by decide +kernel
 obtain ⟨k, hk⟩ := Int.eq_ofNat_of_zero_le h0;unfold mU;rw [hk];refine dY ?_;have : k < AM.cps.toList.length := by omega
 simp at this;simp [this]
def eh (one : Int) : Int := 1 + part one 0 12
def EU (one other : Int) : Int := part other 1 (eh one)
def uo (one other k : Int) (j : Int) : Int := if j = EU one other /\ part other 20 2 = 0 then part one (j + 2) 36 + k else part one (j + 2) 36
def d7 (one other k : Int) (n : Nat) : Str := ⟨((List.range n).map fun j => mU (uo one other k (0 + (j : Nat)))).toArray⟩
def g7 (one other k : Int) : Str := Txt.slice (d7 one other k 12) none (some (if part other 20 2 = 0 then eh one else 1 + (eh one + k) % 12))
def fC (one other : Int) : List Str := (List.range 4).map fun k => g7 one other (0 + (k : Nat))
theorem iH (one other k : Int) (n : Nat) : (d7 one other k n).length = n := by show Array.size _ = n; simp [d7]
theorem uJ (one other k : Int) (n : Nat) : d7 one other k (n + 1) = d7 one other k n ++ ⟨#[mU (uo one other k (0 + (n : Nat)))]⟩ := by
 apply Str.ext';rw [Str.cps_append];unfold d7;rw [range_succ, map_append];simp
theorem xm (one other k : Int) : (g7 one other k).length <= 12 := by
 have h := Txt.slice_le (d7 one other k 12) none (some (if part other 20 2 = 0 then eh one else 1 + (eh one + k) % 12));rw [iH] at h;exact h
theorem ui (one other : Int) : (fC one other).length = 4 := by simp [fC]
theorem uw {one other : Int} {x : Str} (h : x ∈ fC one other) : x.length <= 12 := by
 unfold fC at h;obtain ⟨k, _, rfl⟩ := mem_map.mp h;exact xm _ _ _
def aj (ws : HL) : D := .lst (ws.map D.str)
def vd (ns : HM) : D := .lst (ns.map D.int)
def bg (rows : HA) : D := .lst (rows.map aj)
def vY (ds : List D) (d : D) : Prop := ∃ one other : Int, ds = [.int one, .int other] /\ d = aj (fC one other)
def nH (ws : HL) (c : Int) : Str := ws.getD (([0, 0, 1, 2, 3] : HN).getD (part c 21 6).toNat 0) ""
def lD (ws : HL) (rows : HA) (c : Int) : List HL := if part c 21 6 < 5 then rows.dropLast ++ [rows.getLast?.getD [] ++ [nH ws c]] else rows ++ [[]]
def bY (ws : HL) (cells : HM) : List HL := cells.foldl (lD ws) [[]]
theorem dy (ws : HL) (cells : HM) (c : Int) : bY ws (cells ++ [c]) = lD ws (bY ws cells) c := by
 unfold bY; rw [List.foldl_append]; rfl
theorem snoc_ind {α : Type} {p : List α -> Prop} (h0 : p []) (hs : ∀ l a, p l -> p (l ++ [a])) (l : List α) : p l := by
 have : ∀ n (l : List α), l.length = n -> p l := by
  intro n
  induction n with
  | zero => intro l h; cases l with
   | nil => exact h0
   | cons => simp at h
  | succ n ih =>
   intro l h;have hne : l ≠ [] := by intro e; subst e; simp at h
   rw [<- List.dropLast_concat_getLast hne];exact hs _ _ (ih _ (by simp [h]))
 exact this _ l rfl
theorem eZ (ws : HL) (cells : HM) : ∃ init last, bY ws cells = init ++ [last] := by
 refine snoc_ind (p := fun cells => ∃ init last, bY ws cells = init ++ [last]) ⟨[], [], rfl⟩ (fun l c ⟨init, last, e⟩ => ?_) cells;rw [dy];unfold lD;split
 . exact ⟨_, _, rfl⟩
 . exact ⟨_, _, rfl⟩
theorem oZ (ws : HL) (cells : HM) : (bY ws cells).length <= cells.length + 1 /\ ∀ r ∈ bY ws cells, r.length <= cells.length /\ ∀ x ∈ r, x ∈ ws \/ x = "" := by
 refine snoc_ind (p := fun cells => (bY ws cells).length <= cells.length + 1 /\ ∀ r ∈ bY ws cells, r.length <= cells.length /\ ∀ x ∈ r, x ∈ ws \/ x = "") ⟨Nat.le_refl _, by intro r hr; simp [bY] at hr; subst hr; simp⟩ (fun l c ih => ?_) cells;obtain ⟨init, last, e⟩ := eZ ws l;rw [dy];rw [e] at ih;obtain ⟨ih1, ih2⟩ := ih;have hpick : nH ws c ∈ ws \/ nH ws c = "" := by
  unfold nH;generalize (([0, 0, 1, 2, 3] : HN).getD (part c 21 6).toNat 0) = n;by_cases hn : n < ws.length
  . left; simp [hn]
  . right; simp [Nat.not_lt.mp hn]
 unfold lD;rw [e];split
 . refine ⟨by simp at ih1 ⊢; omega, fun r hr => ?_⟩;simp at hr;rcases hr with hr | hr
   . have := ih2 r (by simp [hr]);exact ⟨by simp; omega, this.2⟩
   . subst hr;have := ih2 last (by simp);refine ⟨by simp; omega, fun x hx => ?_⟩;simp at hx;rcases hx with hx | hx
     . exact this.2 x hx
     . subst hx; exact hpick
 . refine ⟨by simp at ih1 ⊢; omega, fun r hr => ?_⟩;simp at hr;rcases hr with hr | hr | hr
   . have := ih2 r (by simp [hr]); exact ⟨by simp; omega, this.2⟩
   . have := ih2 r (by simp [hr]); exact ⟨by simp; omega, this.2⟩
   . subst hr; simp
def ym (ds : List D) (d : D) : Prop := ∃ (ws : HL) (cells : HM), ws.length = 4 /\ cells.length <= 63 /\ ds = [aj ws, vd cells] /\ d = bg (bY ws cells)
theorem Gd {k : Int} (h0 : 0 <= k) (h5 : k < 5) : nY [D.int 0, .int 0, .int 1, .int 2, .int 3] k = some (.int ((([0, 0, 1, 2, 3] : HN).getD k.toNat 0 : Nat) : Int)) := by
 obtain ⟨n, rfl⟩ := Int.eq_ofNat_of_zero_le h0;have hn : n < 5 := by omega
 match n, hn with
 | 0, _ => rfl
 | 1, _ => rfl
 | 2, _ => rfl
 | 3, _ => rfl
 | 4, _ => rfl
theorem uT {k : Int} (h0 : 0 <= k) (h5 : k < 5) : ([0, 0, 1, 2, 3] : HN).getD k.toNat 0 < 4 := by
 obtain ⟨n, rfl⟩ := Int.eq_ofNat_of_zero_le h0;have hn : n < 5 := by omega
 match n, hn with
 | 0, _ => decide
 | 1, _ => decide
 | 2, _ => decide
 | 3, _ => decide
 | 4, _ => decide
theorem jY {ws : HL} {n : Nat} (h : n < ws.length) : (ws.map D.str)[n]? = some (.str (ws.getD n "")) := by simp [h]
def dJ (p : HQ) : D := .tup [.int p.1, .int p.2]
def ei (ps : HC) : D := .lst (ps.map dJ)
def lI (rows : HA) : Nat := (rows.map List.length).sum
def dj (rows : HA) (n : Nat) : List HQ := (List.range n).flatMap fun r => (List.range (rows.getD r []).length).map fun a => (r, a)
def gh (rows : HA) : List HQ := dj rows rows.length
theorem gi (rows : HA) (n : Nat) : dj rows (n + 1) = dj rows n ++ (List.range (rows.getD n []).length).map fun a => (n, a) := by
 unfold dj;rw [range_succ, List.flatMap_append];simp
theorem kO (rows : HA) : ∀ n, n <= rows.length -> (dj rows n).length = ((rows.take n).map List.length).sum
 | 0, _ => by simp [dj]
 | n + 1, h => by
  have hn : n < rows.length := by omega
  have e : rows.take (n + 1) = rows.take n ++ [rows.getD n []] := by
   rw [take_add_one]; simp [hn]
  rw [gi, List.length_append, kO rows n (by omega), length_map, length_range, e, map_append, List.sum_append];simp
theorem lA : ∀ (l : HA) (n : Nat), ((l.take n).map List.length).sum <= (l.map List.length).sum
 | [], n => by simp
 | a :: l, 0 => by simp
 | a :: l, n + 1 => by
  have := lA l n;simp at this ⊢;omega
theorem z5 (rows : HA) (n : Nat) (h : n <= rows.length) : (dj rows n).length <= lI rows := by
 rw [kO rows n h]; exact lA rows n
theorem p9 {rows : HA} {n : Nat} {row : HL} (h : rows[n]? = some row) (m : Nat) (hm : m <= row.length) : (dj rows n).length + m <= lI rows := by
 have hn : n < rows.length := (List.getElem?_eq_some_iff.mp h).1;have h1 := z5 rows (n + 1) (by omega);rw [gi, List.length_append] at h1;simp [h] at h1;omega
def EK (ds : List D) (d : D) : Prop := ∃ rows, lI rows <= 900 /\ ds = [bg rows] /\ d = ei (gh rows)
def endAt (rows : HA) (p : HQ) : List Str := (rows.getD p.1 []).drop p.2
def B6 (ds : List D) (d : D) : Prop := ∃ (rows : HA) (p : HQ), p.1 < rows.length /\ ds = [bg rows, dJ p] /\ d = aj (endAt rows p)
theorem bT {n i : Nat} {d : D} (h : (bE 0 n)[i]? = some d) : i < n /\ d = .int (i : Nat) := by
 obtain ⟨h1, h2⟩ := gm h;exact ⟨h1, by rw [h2, Int.zero_add]⟩
theorem cb {lo : Int} {n : Nat} : ∀ d ∈ bE lo n, d.flat = true := fun d hd => by obtain ⟨i, _, rfl⟩ := mem_map.mp hd; rfl
theorem xX {ns : HM} : ∀ d ∈ ns.map D.int, d.flat = true := fun d hd => by obtain ⟨i, _, rfl⟩ := mem_map.mp hd; rfl
theorem kT : Told aj := wz zk
theorem zC : Told dJ := fun p q => by
 obtain ⟨a, b⟩ := p;obtain ⟨c, d⟩ := q;simp only [dJ, aV, cV, Bool.and_true];by_cases h1 : a = c
 . by_cases h2 : b = d
   . simp [h1, h2]
   . simp [h1, h2]; omega
 . simp [h1]; omega
theorem v5 {n : Nat} : ∀ {ds : List D}, (∀ d ∈ ds, d.dep <= n) -> cu ds <= n
 | [], _ => by simp [cu]
 | d :: ds, h => by
  have h1 := h d mem_cons_self;have h2 : cu ds <= n := v5 fun e he => h e (mem_cons_of_mem _ he);simp [cu]; omega
theorem mh {n : Nat} {ds : List D} (h : ∀ d ∈ ds, d.dep <= n) : (D.lst ds).dep <= n + 1 := by
 have := v5 h;simp [D.dep]; omega
theorem iA (ws : HL) : (aj ws).dep <= 1 := mh fun d hd => by obtain ⟨i, _, rfl⟩ := mem_map.mp hd; simp [D.dep]
theorem zb (ws : HA) : (bg ws).dep <= 2 := mh fun d hd => by obtain ⟨i, _, rfl⟩ := mem_map.mp hd; exact iA i
theorem B3 (p : HQ) : (dJ p).dep <= 1 := by simp [dJ, D.dep, cu]
theorem Bi (ps : HC) : (ei ps).dep <= 2 := mh fun d hd => by obtain ⟨i, _, rfl⟩ := mem_map.mp hd; exact B3 i
theorem lj {k n : Nat} {A : Around} {d : D} (r : bx k A) (h : d.dep <= n) (hn : n <= 200 := by decide) : A.units + d.dep < cLine := by have := r.un; omega
theorem wM (ws : HL) (cells : HM) : 0 < (bY ws cells).length := by
 obtain ⟨i, l, e⟩ := eZ ws cells;rw [e]; simp
theorem jb (a b : HA) : lI (a ++ b) = lI a + lI b := by simp [lI]
theorem wU (ws : HL) (cells : HM) : lI (bY ws cells) <= cells.length := by
 refine snoc_ind (p := fun cells => lI (bY ws cells) <= cells.length) (by simp [bY, lI]) (fun l c ih => ?_) cells;obtain ⟨init, last, e⟩ := eZ ws l;rw [dy];rw [e] at ih;rw [jb] at ih;unfold lD;rw [e];split
 . simp [lI] at ih ⊢; omega
 . rw [jb, jb]; simp [lI] at ih ⊢; omega
theorem ug {rows : HA} {r : HL} (h : r ∈ rows) : r.length <= lI rows := by
 obtain ⟨n, hn⟩ := List.getElem?_of_mem h;have := p9 hn r.length (Nat.le_refl _);omega
theorem mE {rows : HA} {p : HQ} (h : p ∈ gh rows) : p.1 < rows.length /\ p.2 < (rows.getD p.1 []).length := by
 unfold gh dj at h;obtain ⟨r, hr, hp⟩ := List.mem_flatMap.mp h;obtain ⟨a, ha, rfl⟩ := mem_map.mp hp;exact ⟨List.mem_range.mp hr, List.mem_range.mp ha⟩
theorem u4 : 5000 <= sizeLine := by decide
theorem mI {n : Nat} (h : n <= 5000) : n <= sizeLine := Nat.le_trans h u4
theorem T.gu {X : Cx} {ρ : List (Option D)} {e : Expr} {b b' : Bool} (h : T X ρ e b) (q : b = b') : T X ρ e b' := q ▸ h
theorem aP {α : Type} (x : α) (xs : List α) : nY (x :: xs) 0 = some x := dY (j := 0) rfl
theorem xo (n : Int) : FO (mU n) = true := by
 have h0 := Int.emod_nonneg n (show (36 : Int) ≠ 0 by decide);have h1 := Int.emod_lt_of_pos n (show (0 : Int) < 36 by decide);have hl : (cl AM).length = 36 := by decide +kernel
 unfold mU FO;rw [decide_eq_true_iff];have hk : (n % 36).toNat < (cl AM).length := by omega
 rw [List.getD_eq_getElem?_getD, List.getElem?_eq_getElem hk];exact getElem_mem hk
theorem yz (one other k : Int) (n : Nat) : cl (d7 one other k n) = (List.range n).map fun j => mU (uo one other k (0 + (j : Nat))) := by
 unfold d7 cl;simp
theorem lE (x : Str) {j : Int} (h0 : 0 <= j) (h1 : j <= (cl x).length) : cl (Txt.slice x none (some j)) = (cl x).take j.toNat := by
 have e : Txt.slice x none (some j) = _ := StrLaws.sliceText_to (x := x) (j := j) ⟨h0, h1⟩;rw [e];simp [cl]
theorem wK (one other k : Int) : Hd (g7 one other k) := by
 have hs0 := cL one 0 (show (0 : Int) < 12 by decide);have hs1 := eJ one 0 (show (0 : Int) < 12 by decide);have hm0 := Int.emod_nonneg (eh one + k) (show (12 : Int) ≠ 0 by decide);have hm1 := Int.emod_lt_of_pos (eh one + k) (show (0 : Int) < 12 by decide);have hcl : (cl (d7 one other k 12)).length = 12 := by rw [mC, iH]
 obtain ⟨j, hj, h1, h2⟩ : ∃ j : Int, g7 one other k = Txt.slice (d7 one other k 12) none (some j) /\ 1 <= j /\ j <= 12 := by
  unfold g7;split
  . exact ⟨_, rfl, by unfold eh; omega, by unfold eh; omega⟩
  . exact ⟨_, rfl, by omega, by omega⟩
 have e : cl (g7 one other k) = (cl (d7 one other k 12)).take j.toNat := by
  rw [hj, lE _ (by omega) (by rw [hcl]; omega)]
 refine ⟨fun z => ?_, fun c hc => ?_⟩
 . have := congrArg List.length (oO.mpr z);rw [e, length_take, hcl] at this;simp at this;omega
 . rw [e] at hc;have := List.mem_of_mem_take hc;rw [yz] at this;obtain ⟨i, _, rfl⟩ := mem_map.mp this;exact xo _
theorem uI {one other : Int} {x : Str} (h : x ∈ fC one other) : Hd x := by
 unfold fC at h;obtain ⟨k, _, rfl⟩ := mem_map.mp h;exact wK _ _ _
theorem oF {ws : HL} (h4 : ws.length = 4) (cells : HM) : ∀ r ∈ bY ws cells, ∀ x ∈ r, x ∈ ws := by
 refine snoc_ind (p := fun cells => ∀ r ∈ bY ws cells, ∀ x ∈ r, x ∈ ws) (by intro r hr; simp [bY] at hr; subst hr; simp) (fun l c ih => ?_) cells;obtain ⟨init, last, e⟩ := eZ ws l;rw [dy];rw [e] at ih;unfold lD;rw [e];split
 . rename_i h5;have hi := uT (cL c 21 (show (0 : Int) < 6 by decide)) h5;have hpick : nH ws c ∈ ws := by
    unfold nH;rw [List.getD_eq_getElem?_getD, List.getElem?_eq_getElem (by omega)];exact getElem_mem _
   intro r hr x hx;simp at hr;rcases hr with hr | hr
   . exact ih r (by simp [hr]) x hx
   . subst hr;simp at hx;rcases hx with hx | hx
     . exact ih last (by simp) x hx
     . subst hx; exact hpick
 . intro r hr x hx;simp at hr;rcases hr with hr | hr | hr
   . exact ih r (by simp [hr]) x hx
   . exact ih r (by simp [hr]) x hx
   . subst hr; simp at hx
theorem cA {X : Cx} {ρ : List (Option D)} {m1 : Bool} {tg a : Expr} {p pos : Pos} {n : Nat} (h : E X m1 ρ a (.int (n : Nat))) (hm : X.mg "range" = none) (hn : n < 2 ^ 62 := by first | omega | (simp only [length_map]; omega)) (hg : Gl X "range" := by rfl) (hs : starEach [a] X.env = [(false, eval a X.env)] := by rfl) :
 IT X tg true ρ (.Call (.Name "range" p) [a] [] pos) (bE 0 n) := kB (n := ((n : Nat) : Int)) h (by omega) (by omega) hm hg hs
def aJ (ns : HN) : D := .lst (ns.map fun n => .int (n : Nat))
def EL (rows : HA) (ps : HC) : Prop := ∀ p ∈ ps, p.1 < rows.length
theorem t4 (ns : HN) : bj (ns.map fun n => D.int (n : Nat)) = true := cO fun d hd => by obtain ⟨i, _, rfl⟩ := mem_map.mp hd; rfl
def Bk (r : b0) (i : Nat) : Int := match r[i]? with
 | some (some (.pl _ (.int m))) => m
 | _ => 0
theorem BQ {ps : HC} {n : Nat} (h : n < ps.length) : (ps.map dJ)[n]? = some (dJ (ps.getD n (0, 0))) := by simp [h]
theorem getD_mem {α : Type} {l : List α} {n : Nat} {d : α} (h : n < l.length) : l.getD n d ∈ l := by
 rw [List.getD_eq_getElem?_getD, List.getElem?_eq_getElem h];exact getElem_mem h
end Y
namespace Y
theorem nT (x i : Nat) : (x <<< 1).testBit (i + 1) = x.testBit i := by
 rw [Nat.testBit_shiftLeft]; simp
theorem mW (x : Nat) : (x <<< 1).testBit 0 = false := by
 rw [Nat.testBit_shiftLeft]; simp
def fB (f : Nat -> Bool) : Nat -> Nat
 | 0 => 0
 | n + 1 => if f n = true then fB f n ||| (1 <<< n) else fB f n
theorem dz (f : Nat -> Bool) : ∀ (n i : Nat), (fB f n).testBit i = (decide (i < n) && f i)
 | 0, i => by simp [fB]
 | n + 1, i => by
  unfold fB;by_cases h : f n = true
  . rw [if_pos h, Nat.testBit_or, dz f n i, Nat.one_shiftLeft, Nat.testBit_two_pow];by_cases q : n = i
    . subst q; simp [h]
    . have : decide (n = i) = false := by simpa using q
      rw [this, Bool.or_false];congr 1;have : (i < n) ↔ (i < n + 1) := by omega
      simp [this]
  . rw [if_neg h, dz f n i];by_cases q : n = i
    . subst q;have : f n = false := by simpa using h
      simp [this]
    . have : (i < n) ↔ (i < n + 1) := by omega
      simp [this]
theorem yG (f : Nat -> Bool) (n : Nat) : fB f n < 2 ^ n := by
 apply Nat.lt_pow_two_of_testBit;intro i hi;rw [dz];have : ¬ i < n := by omega
 simp [this]
def bl (x : Nat) : Nat := if x = 0 then 0 else x.log2 + 1
theorem DH {x i : Nat} (h : x.testBit i = true) : i < bl x := by
 unfold bl;have hx : x ≠ 0 := by rintro rfl; simp at h
 rw [if_neg hx];have := Nat.ge_two_pow_of_testBit h;have h2 : i <= x.log2 := by
  rw [Nat.le_log2 hx]; exact this
 omega
def dH (x : Nat) : List Nat := (List.range (bl x)).filter x.testBit
theorem gA {p : Nat -> Bool} {a b : Nat} (h : a <= b) (hp : ∀ i, a <= i -> p i = false) : (List.range b).filter p = (List.range a).filter p := by
 induction b with
 | zero =>
  have : a = 0 := by omega
  subst this; rfl
 | succ b ih =>
  by_cases q : a <= b
  . rw [range_succ, filter_append, ih q];simp [hp b q]
  . have : a = b + 1 := by omega
    rw [this]
theorem wV {x n : Nat} (h : x < 2 ^ n) : dH x = (List.range n).filter x.testBit := by
 unfold dH;have h1 : ∀ i, n <= i -> x.testBit i = false := fun i hi => Nat.testBit_lt_two_pow (Nat.lt_of_lt_of_le h (Nat.pow_le_pow_right (by decide) hi));have h2 : ∀ i, bl x <= i -> x.testBit i = false := fun i hi => by
  cases q : x.testBit i with
  | false => rfl
  | true => have := DH q; omega
 rcases Nat.le_total n (bl x) with q | q
 . exact gA q h1
 . exact (gA q h2).symm
theorem CU {x n : Nat} (h : x < 2 ^ n) : bl x <= n := by
 unfold bl;by_cases hx : x = 0
 . rw [if_pos hx]; omega
 . rw [if_neg hx];have := (Nat.log2_lt hx).mpr h;omega
def dq (places x : Nat) : Nat := (x &&& places) <<< 1
theorem jg (p x i : Nat) : (dq p x).testBit (i + 1) = (x.testBit i && p.testBit i) := by
 unfold dq; rw [nT, Nat.testBit_and]
theorem ng (p x : Nat) : (dq p x).testBit 0 = false := mW _
theorem gS {p x n : Nat} (h : p < 2 ^ n) : dq p x < 2 ^ (n + 1) := by
 unfold dq;have : x &&& p < 2 ^ n := Nat.lt_of_le_of_lt Nat.and_le_right h;rw [Nat.shiftLeft_eq, Nat.pow_succ];omega
theorem ya {a b n : Nat} (h1 : a < 2 ^ n) (h2 : b < 2 ^ n) : a ||| b < 2 ^ n := Nat.or_lt_two_pow h1 h2
def e8 (every : Nat) : Nat -> Nat -> Nat
 | 0, x => x
 | k + 1, x => e8 every k (x ||| dq every x)
theorem jA (every : Nat) : ∀ (k x : Nat), e8 every (k + 1) x = e8 every k x ||| dq every (e8 every k x)
 | 0, x => rfl
 | k + 1, x => by
  show e8 every (k + 1) (x ||| dq every x) = _;rw [jA every k];rfl
theorem rO {every n : Nat} (h : every < 2 ^ n) : ∀ {k x : Nat}, x < 2 ^ (n + 1) -> e8 every k x < 2 ^ (n + 1)
 | 0, _, hx => hx
 | k + 1, x, hx => rO h (k := k) (ya hx (gS h))
theorem iJ (n : Nat) : ∀ (k x i : Nat), (e8 (fB (fun _ => true) n) k x).testBit i = true ↔ ∃ j, j <= k /\ j <= i /\ x.testBit (i - j) = true /\ (j = 0 \/ i <= n)
 | 0, x, i => by
  constructor
  . intro h; exact ⟨0, Nat.le_refl _, Nat.zero_le _, h, .inl rfl⟩
  . rintro ⟨j, h1, h2, h3, h4⟩;have : j = 0 := by omega
    subst this; exact h3
 | k + 1, x, i => by
  rw [jA, Nat.testBit_or, Bool.or_eq_true, iJ n k x i];constructor
  . rintro (⟨j, h1, h2, h3, h4⟩ | h)
    . exact ⟨j, by omega, h2, h3, h4⟩
    . cases i with
      | zero => rw [ng] at h; cases h
      | succ i =>
       rw [jg, Bool.and_eq_true, iJ n k x i, dz] at h;obtain ⟨⟨j, h1, h2, h3, h4⟩, h5⟩ := h;simp at h5;exact ⟨j + 1, by omega, by omega, by rw [show i + 1 - (j + 1) = i - j by omega]; exact h3, .inr (by omega)⟩
  . rintro ⟨j, h1, h2, h3, h4⟩;by_cases q : j <= k
    . exact .inl ⟨j, q, h2, h3, h4⟩
    . have : j = k + 1 := by omega
      subst this
      cases i with
      | zero => omega
      | succ i =>
       refine .inr ?_;rw [jg, Bool.and_eq_true, iJ n k x i, dz];refine ⟨⟨k, Nat.le_refl _, by omega, by rw [show i - k = i + 1 - (k + 1) by omega]; exact h3, .inr (by omega)⟩, ?_⟩;simp;omega
theorem n6 (a i : Nat) : (1 <<< a).testBit i = decide (a = i) := by rw [Nat.one_shiftLeft, Nat.testBit_two_pow]
theorem eR {a n : Nat} (h : a < n) : 1 <<< a < 2 ^ n := by rw [Nat.one_shiftLeft]; exact Nat.pow_lt_pow_right (by decide) h
theorem yp (x n : Nat) : decide ((((x >>> n) &&& 1 : Nat) : Int) = 1) = x.testBit n := by
 rw [Nat.and_one_is_mod, Nat.testBit_eq_decide_div_mod_eq, Nat.shiftRight_eq_div_pow];congr 1;apply propext;constructor <;> intro h <;> omega
end Y
namespace Y
open PySem PySem.Spec PyProof.Rows L2
variable [cq]
theorem uN (a b : Nat) : Builtin.bitAnd (a : Int) (b : Int) = ((a &&& b : Nat) : Int) := by
 unfold Builtin.bitAnd;rw [decide_eq_true (Int.natCast_nonneg a), decide_eq_true (Int.natCast_nonneg b)];rfl
theorem xW (a b : Nat) : Builtin.bitOr (a : Int) (b : Int) = ((a ||| b : Nat) : Int) := by
 have h : ∀ n : Nat, decide (0 <= Builtin.bitNot (n : Int)) = false := fun n => by
  rw [decide_eq_false_iff_not]; unfold Builtin.bitNot; omega
 have g : ∀ n : Nat, (Builtin.bitNot (Builtin.bitNot (n : Int))).toNat = n := fun n => by unfold Builtin.bitNot; omega
 unfold Builtin.bitOr Builtin.bitAnd;simp only [h, g];unfold Builtin.bitNot;omega
theorem zM (n : Nat) : Builtin.Int.intBits (n : Int) = bl n := by
 unfold Builtin.Int.intBits bl;by_cases h : n = 0
 . subst h; rfl
 . rw [if_neg h, if_neg (by simpa using h)];rfl
section
variable {X : Cx}
theorem xl : E5 X "str.startswith" (fun x xs H Q => ∃ z y, x = .str z /\ xs = [.str y] /\ Q (.bl (Txt.startswith z y)) H) := by
 intro pins s σ H x xs v us Q I rx rs h;obtain ⟨z, y, rfl, rfl, q⟩ := h;obtain ⟨t, rfl⟩ := rx;obtain ⟨u, rfl, ru⟩ := Vals.one rs;obtain ⟨t', rfl⟩ := ru;exact SC.startswith ⟨.bl _, H, I, rfl, q⟩
theorem BV : E5 X "str.endswith" (fun x xs H Q => ∃ z y, x = .str z /\ xs = [.str y] /\ Q (.bl (Txt.endswith z y)) H) := by
 intro pins s σ H x xs v us Q I rx rs h;obtain ⟨z, y, rfl, rfl, q⟩ := h;obtain ⟨t, rfl⟩ := rx;obtain ⟨u, rfl, ru⟩ := Vals.one rs;obtain ⟨t', rfl⟩ := ru;exact SC.endswith ⟨.bl _, H, I, rfl, q⟩
theorem xh : E5 X "int.bit_length" (fun x xs H Q => ∃ i, x = .int i /\ xs = [] /\ Q (.int ((Builtin.Int.intBits i : Nat) : Int)) H) := by
 intro pins s σ H x xs v us Q I rx rs h;obtain ⟨i, rfl, rfl, q⟩ := h;obtain ⟨t, rfl⟩ := rx;cases Vals.zero rs;exact call_gives F.slot_int_bit_length (typeIs_int s i t) F.entry_int_bit_length (F.args_int_bit_length_1 _) (PySem.AutoIntG2.int_bit_length_int_0 i t) ⟨.int _, H, I.tok _, ⟨_, rfl⟩, q⟩
end
section
variable {X : Cx} {ρ : List (Option D)} {m m1 m2 m3 : Bool} {a b c o : Expr} {pos ap cp : Pos}
theorem Bj {j : Nat} : E X true ρ (.Constant (.int 1) j pos) (.int ((1 : Nat) : Int)) := ag
theorem Fl {j : Nat} : E X true ρ (.Constant (.int 0) j pos) (.int ((0 : Nat) : Int)) := ag
theorem tL {i n : Nat} (ha : E X m1 ρ a (.int (i : Nat))) (hb : E X m2 ρ b (.int (n : Nat))) (h1 : i < 2 ^ 64) (h2 : n <= 1000000) : E X true ρ (.BinOp a .LShift b pos) (.int ((i <<< n : Nat) : Int)) :=
 E.cast (oA Eo ha hb fun x y H Z Q _ i1 i2 k => ⟨_, _, ao.mp i1, ao.mp i2, ⟨by omega, by omega, by rw [Int.natAbs_natCast]; exact h1⟩, k _ _ (au.refl H) (ao.mpr rfl)⟩) (by
  rw [Int.toNat_natCast, Nat.shiftLeft_eq];simp)
theorem Dl {i n : Nat} (ha : E X m1 ρ a (.int (i : Nat))) (hb : E X m2 ρ b (.int (n : Nat))) : E X true ρ (.BinOp a .RShift b pos) (.int ((i >>> n : Nat) : Int)) :=
 E.cast (oA C8 ha hb fun x y H Z Q _ i1 i2 k => ⟨_, _, ao.mp i1, ao.mp i2, Int.natCast_nonneg _, k _ _ (au.refl H) (ao.mpr rfl)⟩) (by
  rw [Int.toNat_natCast, Nat.shiftRight_eq_div_pow];simp)
theorem uU {i n : Nat} (ha : E X m1 ρ a (.int (i : Nat))) (hb : E X m2 ρ b (.int (n : Nat))) : E X true ρ (.BinOp a .BitAnd b pos) (.int ((i &&& n : Nat) : Int)) :=
 E.cast (oA Dz ha hb fun x y H Z Q _ i1 i2 k => ⟨_, _, ao.mp i1, ao.mp i2, k _ _ (au.refl H) (ao.mpr rfl)⟩) (by rw [uN])
theorem uA {i n : Nat} (ha : E X m1 ρ a (.int (i : Nat))) (hb : E X m2 ρ b (.int (n : Nat))) : E X true ρ (.BinOp a .BitOr b pos) (.int ((i ||| n : Nat) : Int)) :=
 E.cast (oA Fz ha hb fun x y H Z Q _ i1 i2 k => ⟨_, _, ao.mp i1, ao.mp i2, k _ _ (au.refl H) (ao.mpr rfl)⟩) (by rw [xW])
theorem yh {z y : Str} (ho : E X m1 ρ o (.str z)) (ha : E X m2 ρ a (.str y)) (hbase : attributeBase o "startswith" X.env (eval o X.env) = eval o X.env := by rfl) (hline : (ap.endLine == cp.line) = true := by rfl) (hs : starEach [a] X.env = [(false, eval a X.env)] := by rfl) :
 E X true ρ (.Call (.Attribute o "startswith" ap) [a] [] cp) (.bl (Txt.startswith z y)) :=
 PE.mono (gY F.plainAttrs_str F.slot_str_startswith F.type_str_startswith xl ho (aK ha bu (by rw [hs]; rfl)) hbase (by rw [hs]; rfl) hline (by rw [hs]; rfl) rfl) fun σ H Q z0 => bo z0 fun Z oz en k => ⟨Z, oz, en, fun x H1 s1 i1 => by
  cases in_str.mp (i1.plain oz);refine ⟨rfl, Z, oz.same s1, en.same s1, fun w H2 s2 i2 => ?_⟩;cases in_str.mp (i2.plain (oz.same s1));exact ⟨z, y, rfl, rfl, k _ H2 (s1.trans s2) (aR.mpr rfl)⟩⟩
theorem DJ {z y : Str} (ho : E X m1 ρ o (.str z)) (ha : E X m2 ρ a (.str y)) (hbase : attributeBase o "endswith" X.env (eval o X.env) = eval o X.env := by rfl) (hline : (ap.endLine == cp.line) = true := by rfl) (hs : starEach [a] X.env = [(false, eval a X.env)] := by rfl) :
 E X true ρ (.Call (.Attribute o "endswith" ap) [a] [] cp) (.bl (Txt.endswith z y)) :=
 PE.mono (gY F.plainAttrs_str F.slot_str_endswith F.type_str_endswith BV ho (aK ha bu (by rw [hs]; rfl)) hbase (by rw [hs]; rfl) hline (by rw [hs]; rfl) rfl) fun σ H Q z0 => bo z0 fun Z oz en k => ⟨Z, oz, en, fun x H1 s1 i1 => by
  cases in_str.mp (i1.plain oz);refine ⟨rfl, Z, oz.same s1, en.same s1, fun w H2 s2 i2 => ?_⟩;cases in_str.mp (i2.plain (oz.same s1));exact ⟨z, y, rfl, rfl, k _ H2 (s1.trans s2) (aR.mpr rfl)⟩⟩
theorem Aq {n : Nat} (ho : E X m1 ρ o (.int (n : Nat))) (hbase : attributeBase o "bit_length" X.env (eval o X.env) = eval o X.env := by rfl) (hline : (ap.endLine == cp.line) = true := by rfl) :
 E X true ρ (.Call (.Attribute o "bit_length" ap) [] [] cp) (.int ((bl n : Nat) : Int)) :=
 PE.mono (Em F.plainAttrs_int F.slot_int_bit_length F.type_int_bit_length xh ho hbase hline) fun σ H Q z0 => bo z0 fun Z oz en k => ⟨Z, oz, en, fun x H1 s1 i1 => by
  cases ao.mp (i1.plain oz);exact ⟨rfl, n, rfl, rfl, k _ H1 s1 (ao.mpr (by rw [zM]))⟩⟩
theorem wA {i j k : Int} (ha : E X m1 ρ a (.int i)) (hb : E X m2 ρ b (.int j)) (hc : E X m3 ρ c (.int k)) (hm : lastMarks [.LtE, .LtE] [b, c] = false := by with_unfolding_all rfl) :
 E X true ρ (.Compare a [.LtE, .LtE] [b, c] pos) (.bl (decide (i <= j) && decide (j <= k))) :=
 PE.mono (zy CI CI ha hb hc hm) fun σ H Q ⟨Z, oz, en, kk⟩ => ⟨Z, oz, en, fun x H1 s1 i1 => ⟨Z, oz.same s1, en.same s1, fun y H2 s2 i2 => by
  refine ⟨i, j, ao.mp (i1.plain oz), ao.mp (i2.plain (oz.same s1)), decide (i <= j), rfl, ?_⟩;by_cases h : i <= j
  . rw [decide_eq_true h];refine nG ?_;exact ⟨Z, oz.same (s1.trans s2), en.same (s1.trans s2), fun z H3 s3 i3 => ⟨j, k, ao.mp (i2.plain (oz.same s1)), ao.mp (i3.plain (oz.same (s1.trans s2))), kk _ H3 ((s1.trans s2).trans s3) (aR.mpr (by rw [decide_eq_true h]; rfl))⟩⟩
  . rw [decide_eq_false h];refine mV ?_;exact kk _ H2 (s1.trans s2) (aR.mpr (by rw [decide_eq_false h]; rfl))⟩⟩
theorem CQ {is : HM} {q : Int} (ha : E X m1 ρ a (.int q)) (hb : E X m2 ρ b (.lst (is.map D.int))) (hm : behindInMarks .In b = false := by rfl) : T X ρ (.Compare a [.In] [b] pos) (decide (q ∈ is)) :=
 j9 pH ha hb (fun x y H Z Q _ i1 i2 k => by
  obtain ⟨l, xs, rfl, at', j⟩ := av.mp i2;cases ao.mp i1;rw [eI j] at at';refine ⟨l, _, rfl, .inl at'.sq, rfl, by simp [gs], ?_⟩;have e : CG (.int q) (is.map V.int) = decide (q ∈ is) := by
   unfold CG;rw [List.any_map, Bool.eq_iff_iff, any_eq_true, decide_eq_true_iff];constructor
   . rintro ⟨z, hz, h⟩;have : q = z \/ z = q := by
      first
       | exact .inl (by simpa [Function.comp, uS] using h)
       | exact .inr (by simpa [Function.comp, uS] using h)
     rcases this with rfl | rfl <;> exact hz
   . intro h;exact ⟨q, h, by simp [Function.comp, uS]⟩
  simp only [Bool.false_eq_true, if_false];rw [e];exact k _ (au.refl H)) hm
end
def tp {α : Type} (z : α) (p : D -> D -> α) : D -> α
 | .tup [a, b] => p a b
 | _ => z
section
variable {X : Cx} {ρ : List (Option D)} {m m1 : Bool} {ds : List D} {pos : Pos}
def Fw (K : Frag) (js : HN) (ρ : List (Option D)) (ds : List D) (p : D -> D -> Bool) (i : Nat) : TT := fun σ H Q => ∃ a b, ds[i]? = some (.tup [a, b]) /\ x6 K ([some a, some b] ++ eM js ρ) (p a b) σ H Q
def Fm (K : Frag) (js : HN) (ρ : List (Option D)) (ds : List D) (p : D -> D -> Bool) (f : D -> D -> D) (me : Bool) (i : Nat) : TE := fun σ H Q => ∃ a b, ds[i]? = some (.tup [a, b]) /\ p a b = true /\ tE K me ([some a, some b] ++ eM js ρ) (f a b) σ H Q
theorem lr {js : HN} {me : Bool} (p : D -> D -> Bool) (f : D -> D -> D) (hpair : ∀ d ∈ ds, ∃ a b, d = .tup [a, b]) (hz : ds.length <= sizeLine) (hm : m = true -> me = true \/ ∀ d ∈ ds, (tp .non f d).flat = true) (σ : St) (H : Hp) (Q : VK) (h : tE X.K m ρ (.lst ((ds.filter (tp false p)).map (tp .non f))) σ H Q) :
 vX (Ei X.K m1 ρ ds) 2 js (yH X.K 2 (jX (eE 0) (jX (eE 1) ye))) (Fw X.K js ρ ds p) (Fm X.K js ρ ds p f me) σ H Q := by
 obtain ⟨Z, oz, en, k⟩ := h;refine ⟨Z, oz, en, fun J H1 vs cS s1 i1 Y l hl => ?_⟩;have hlH : H l = none := s1.free hl;have noL : ∀ {ds : List D} {vs : List V} {Z' : aE} {Ha Hb : Hp}, Ha l = none -> au Ha Hb -> aH X.K Ha Z' ds vs -> aH X.K Hb ⟨Z'.m, fun a => Z'.S a /\ a ≠ l⟩ ds vs := fun {ds vs Z' Ha Hb} ha sa h => aH.carry (Z' := ⟨Z'.m, fun a => Z'.S a /\ a ≠ l⟩) (Carry.of sa (fun a zs e z => ⟨z, aw e ha⟩) fun m => m) h;have noL1 : ∀ {d : D} {v : V} {Z' : aE} {Ha Hb : Hp}, Ha l = none -> au Ha Hb -> In X.K Ha Z' d v -> In X.K Hb ⟨Z'.m, fun a => Z'.S a /\ a ≠ l⟩ d v := fun {d v Z' Ha Hb} ha sa h => In.carry (Z' := ⟨Z'.m, fun a => Z'.S a /\ a ≠ l⟩) (Carry.of sa (fun a zs e z => ⟨z, aw e ha⟩) fun m => m) h;refine ⟨fun i n xs H' => n = ds.length - i /\ i <= ds.length /\ au H1 H' /\ H' l = some (.lst xs) /\ xs.length <= i /\ aH X.K H' ⟨(out m Z H).m, fun a => (out m Z H).S a /\ a ≠ l⟩ (((ds.take i).filter (tp false p)).map (tp .non f)) xs, ⟨ds.length, by simp, Nat.zero_le _, az hl, ak, Nat.zero_le _, by simp; exact aC.mpr rfl⟩, ?_⟩;rintro i n xs H' ow how ⟨rfl, hi', s1', hl', hxi, jx⟩;refine ⟨hl', ?_⟩;have srcsZ : aH X.K H1 Z cS vs := by
  cases m1
  . exact i1
  . exact i1.up oz
 let Zl : aE := ⟨Z.m, fun a => Z.S a /\ a ≠ l⟩
 have opl : ∀ {Ha : Hp} {o : HO}, au H Ha -> Ha l = some o -> Zl.Open Ha := fun sa e => ⟨fun a ha => ⟨oz.op a (sa.free ha), by rintro rfl; rw [e] at ha; cases ha⟩, sa.tabs oz.tb⟩
 by_cases hlt : i < ds.length
 . have hd0 : ds[i]? = some ds[i] := by simp [hlt]
   obtain ⟨da, db, hab⟩ := hpair ds[i] (getElem_mem hlt);have hd : ds[i]? = some (.tup [da, db]) := by rw [hd0, hab]
   obtain ⟨go, yl⟩ := Y.go Zl H' (opl (s1.trans s1') hl') (noL hl s1' srcsZ) i _ hd;refine .inr ⟨go, fun y H2 hy => ?_⟩;obtain ⟨s2, iy⟩ := yl y H2 hy;have hl2 : H2 l = some (.lst xs) := s2.at hl';have sH2 : au H H2 := (s1.trans s1').trans s2;obtain ⟨w1, w2, rfl⟩ : ∃ w1 w2, ow = [w1, w2] := by
    match ow, how with
    | [w1, w2], _ => exact ⟨w1, w2, rfl⟩
   obtain ⟨ta, txs, rfl, tt, tj⟩ := aN iy;obtain ⟨v1, r1, rfl, iv1, tj1⟩ := ar.mp tj;obtain ⟨v2, r2, rfl, iv2, tj2⟩ := ar.mp tj1;cases aC.mp tj2;have en2 : bZ X.K H2 Zl ([some v1, some v2] ++ bU js σ) ([some da, some db] ++ eM js ρ) := jw (fun i d e => let ⟨v, a, b⟩ := en i d e; ⟨v, a, nX.carry (Z' := Zl) (Carry.of sH2 (fun a zs e z => ⟨z, aw e hlH⟩) fun m => m) b⟩) rfl fun i d e => by
    match i, e with
    | 0, e => cases e; exact ⟨v1, rfl, iv1⟩
    | 1, e => cases e; exact ⟨v2, rfl, iv2⟩
   refine ⟨ta, _, rfl, tt, rfl, v1, _, rfl, v2, _, rfl, rfl, ⟨[some v1, some v2], rfl, rfl⟩, da, db, hd, Zl, opl sH2 hl2, en2, fun H3 s3 => ?_⟩;have hl3 : H3 l = some (.lst xs) := s3.at hl2;have st : (ds.take (i + 1)).filter (tp false p) = (ds.take i).filter (tp false p) ++ (if p da db then [D.tup [da, db]] else []) := take_succ_filter (tp false p) ds i _ hd
   cases hp : p da db with
   | false =>
    refine mV ?_;refine ⟨ds.length - (i + 1), by omega, rfl, hlt, (s1'.trans s2).trans s3, hl3, by omega, ?_⟩;rw [st, hp];simp only [Bool.false_eq_true, if_false, append_nil];exact jx.same (s2.trans s3)
   | true =>
    refine nG ?_;refine ⟨da, db, hd, hp, Zl, opl (sH2.trans s3) hl3, en2.same s3, fun v H4 s4 iv => ?_⟩;have hl4 : H4 l = some (.lst xs) := s4.at hl3;refine ⟨hl4, by omega, ds.length - (i + 1), by omega, rfl, hlt, ((s1'.trans s2).trans (s3.trans s4)).write hl hl4, ak, by rw [List.length_append]; simp; omega, ?_⟩
    . rw [st, hp];simp only [if_true, map_append, map_cons, map_nil];have n : ¬ (⟨(out m Z H).m, fun a => (out m Z H).S a /\ a ≠ l⟩ : aE).S l := fun z => z.2 rfl;refine aH.append ((jx.same (s2.trans (s3.trans s4))).carry (.write hl4 n)) (aH.one ?_);refine In.carry (.write hl4 n) ?_;show In X.K H4 _ (f da db) v
      cases m with
      | false => exact iv.plain (opl (sH2.trans s3) hl3)
      | true =>
       rcases hm rfl with h | h
       . subst h;exact In.carry (Z := nw H3) (Z' := ⟨true, fun a => H a = none /\ a ≠ l⟩) ⟨fun a zs e z => ⟨e, (sH2.trans s3).free z, by rintro rfl; have z : H3 a = none := z; rw [hl3] at z; cases z⟩, fun m => Dd m, fun _ _ e => e⟩ iv
       . have := h _ (mem_of_getElem? hd);exact iv.ef this
 . have e : i = ds.length := by omega
   subst e;refine .inl ⟨Y.stop Zl H' (opl (s1.trans s1') hl') (noL hl s1' srcsZ), k (.ref l) H' (s1.trans s1') (av.mpr ⟨l, xs, rfl, .inl ⟨hl', ?_⟩, ?_⟩)⟩
   . cases m
     . exact oz l hlH
     . exact hlH
   . rw [take_length] at jx;exact aH.carry (Z := ⟨(out m Z H).m, fun a => (out m Z H).S a /\ a ≠ l⟩) (Z' := out m Z H) (Carry.of (au.refl H') (fun a zs e z => And.left z) fun m => m) jx
theorem Aw {elt iter : Expr} {x y : Str} {px py pt : Pos} {kt : Nat} {ifs : List Expr} {scope : Scope} {me : Bool} (caps : HL) (js : HN) (p : D -> D -> Bool) (f : D -> D -> D) (hi : IT X (.Tuple [.Name x px, .Name y py] kt pt) m1 ρ iter ds)
 (hpair : ∀ d ∈ ds, ∃ a b, d = .tup [a, b])
 (ht : ∀ C s H fp a b, D.tup [a, b] ∈ ds -> E7 (fQ X ([x, y] ++ caps) scope C s H fp) ([some a, some b] ++ eM js ρ) ifs (p a b)) (he : ∀ C s H fp a b, D.tup [a, b] ∈ ds -> p a b = true -> E (fQ X ([x, y] ++ caps) scope C s H fp) me ([some a, some b] ++ eM js ρ) elt (f a b))
 (hz : ds.length <= sizeLine) (hm : m = true -> me = true \/ ∀ d ∈ ds, (tp .non f d).flat = true := by intro h; first | exact .inl h | cases h) (hc : X.calm = true := by rfl)
 (B : cg X scope [x, y] caps js := by exact ⟨rfl, by decide, by decide, by decide, by decide, by decide, by repeat (first | exact trivial | refine ⟨⟨rfl, by first | exact .inl rfl | exact .inr rfl⟩, ?_⟩), by decide⟩)
 (hs : ∀ x, foldedSetIterable iter X.env x = pure x := by intro _; rfl) (hes : ∀ env : Env, (assignEach [.Name x px, .Name y py] env).map (·.2) = [assign (.Name x px) env, assign (.Name y py) env] := by intro _; rfl) (hes2 : ∀ env : Env, (assignEach [.Name y py] env).map (·.2) = [assign (.Name y py) env] := by intro _; rfl)
 (hen : ∀ env : Env, (assignEach [.Name x px, .Name y py] env).length = 2 := by intro _; rfl) (hst : ∀ env : Env, (assignEach [.Name x px, .Name y py] env).findIdx? (·.1) = none := by intro _; rfl) : EC X m ρ (.ListComp elt [⟨.Tuple [.Name x px, .Name y py] kt pt, iter, ifs, 0⟩] scope pos) (.lst ((ds.filter (tp false p)).map (tp .non f))) := by
 have hg1 : ∀ C s H fp, PG (fQ X ([x, y] ++ caps) scope C s H fp) (.Name x px) (eE 0) := fun C s H fp => eG (i := 0) B.nd rfl (.inl (lookup_relabel_local (B.own x (by simp)))) (.inr (lookup_relabel_local (B.own x (by simp))));have hg2 : ∀ C s H fp, PG (fQ X ([x, y] ++ caps) scope C s H fp) (.Name y py) (eE 1) := fun C s H fp => eG (i := 1) B.nd rfl (.inl (lookup_relabel_local (B.own y (by simp)))) (.inr (lookup_relabel_local (B.own y (by simp))));have hg : ∀ C s H fp, PG (fQ X ([x, y] ++ caps) scope C s H fp) (.Tuple [.Name x px, .Name y py] kt pt) (yH X.K 2 (jX (eE 0) (jX (eE 1) ye))) := fun C s H fp =>
  uy (X := fQ X ([x, y] ++ caps) scope C s H fp) hc (fM (hg1 C s H fp) (fM (hg2 C s H fp) qv (by rw [hes2]; rfl)) (by rw [hes, hes2])) (hen _) (hst _)
 have ht' : ∀ C s H fp i, CS (fQ X ([x, y] ++ caps) scope C s H fp) ifs (Fw X.K js ρ ds p i) := fun C s H fp i pins s' σ H' Q I h => by
  obtain ⟨a, b, hd, h⟩ := h;exact ht C s H fp a b (mem_of_getElem? hd) pins s' σ H' Q I h
 have he' : ∀ C s H fp i, PE (fQ X ([x, y] ++ caps) scope C s H fp) elt (Fm X.K js ρ ds p f me i) := fun C s H fp i pins s' σ H' Q I h => by
  obtain ⟨a, b, hd, hp, h⟩ := h;exact he C s H fp a b (mem_of_getElem? hd) hp pins s' σ H' Q I h
 refine ⟨PE.mono (uR (own := [x, y]) (caps := caps) hc B hi hg ht' he' hs) fun σ H Q h => lr p f hpair hz hm σ H Q h, fun y' k spos py' hN hk hy hsw hf => ?_⟩;exact PS.CH (ve (own := [x, y]) (caps := caps) hN hk hy hc B hi hg ht' he' hsw hf hs) fun Q σ H h => lr p f hpair hz hm σ H _ h
theorem uf {ds : List D} (hpair : ∀ d ∈ ds, ∃ a b, d = .tup [a, b]) : ds.filter (tp false fun _ _ => true) = ds := List.filter_eq_self.mpr fun d hd => by
 obtain ⟨a, b, rfl⟩ := hpair d hd;rfl
end
section
variable {X : Cx} {F : Fn} {ρ : b0} {Q : iu} {rest body : List Stmt} {e : Expr} {pos p : Pos}
theorem gn (i : Nat) {x : Str} {ap cp : Pos} {ds es : List D} (fr : Bool) (h : ρ[i]? = some (some (.ow fr ds)) := by rfl) (he : E X true (view true false ρ) e (.lst es)) (fl : bj es = true) (hz : ds.length + es.length <= sizeLine) (hr : SD X F rest (ρ.set i (some (.ow fr (ds ++ es)))) Q)
 (hN : X.N[i]? = some x := by rfl) (hv : sx X.env.scope x := by first | exact Or.inl rfl | exact Or.inr (Or.inl rfl) | exact Or.inr (Or.inr rfl)) (hd : NdX x := by decide) (hcd : NcX x := by decide)
 (hbase : attributeBase (.Name x p) "extend" X.env (eval (.Name x p) X.env) = eval (.Name x p) X.env := by rfl) (hline : (ap.endLine == cp.line) = true := by rfl)
 (hs : starEach [e] X.env = [(false, eval e X.env)] := by rfl) (hsw : swapsWith (.Call (.Attribute (.Name x p) "extend" ap) [e] [] cp) none pos.line X.env = pure false := by rfl) :
 SD X F (.Expr (.Call (.Attribute (.Name x p) "extend" ap) [e] [] cp) pos :: rest) ρ Q := by
 refine bB (PS.mono (dX (gY PySem.F.plainAttrs_list PySem.F.slot_list_extend PySem.F.type_list_extend wI (dg hN hv hd hcd) (aK he bu (by rw [hs]; rfl)) hbase (by rw [hs]; rfl) hline (by rw [hs]; rfl) rfl) hsw) ?_) hr;rintro Q' σ H ⟨hv, hρ, A, hl, S, f⟩;obtain ⟨l, xs, e1, e2, e3, j⟩ := S.ow hl h;refine ⟨.ref l, e1, .inl ⟨rfl, xs, dZ.of e3⟩, _, aF S true false, S.env hl true false, fun v H1 s1 i1 => ?_⟩;obtain ⟨b, zs, rfl, at', j2⟩ := av.mp i1;obtain ⟨b1, b2⟩ : H1 b = some (.lst zs) /\ H b = none := by
  rcases at' with z | z
  . exact z
  . exact absurd z.1 (by simp [out, nw])
 refine ⟨l, b, xs, zs, rfl, rfl, s1.at e3, b1, by rw [<- j.length, <- j2.length]; exact hz, f.nx _ _ (qS hl (S.grow s1) e1 e2 (s1.at e3) ((j.same s1).append (j2.ef fl)))⟩
theorem m8 (i : Nat) {x : Str} {ap cp : Pos} {ds : List D} {m1 : Bool} (fr : Bool) {d : D} (h : ρ[i]? = some (some (.ow fr ds)) := by rfl) (he : E X m1 (view true false ρ) e d) (fl : d.flat = true) (hz : ds.length < 5000) (hr : SD X F rest (ρ.set i (some (.ow fr (ds ++ [d])))) Q)
 (hN : X.N[i]? = some x := by rfl) (hv : sx X.env.scope x := by first | exact Or.inl rfl | exact Or.inr (Or.inl rfl) | exact Or.inr (Or.inr rfl)) (hd : NdX x := by decide) (hcd : NcX x := by decide)
 (hbase : attributeBase (.Name x p) "append" X.env (eval (.Name x p) X.env) = eval (.Name x p) X.env := by rfl) (hline : (ap.endLine == cp.line) = true := by rfl)
 (hs : starEach [e] X.env = [(false, eval e X.env)] := by rfl) (hsw : swapsWith (.Call (.Attribute (.Name x p) "append" ap) [e] [] cp) none pos.line X.env = pure false := by rfl) :
 SD X F (.Expr (.Call (.Attribute (.Name x p) "append" ap) [e] [] cp) pos :: rest) ρ Q := by
 refine bB (PS.mono (dX (gY PySem.F.plainAttrs_list PySem.F.slot_list_append PySem.F.type_list_append cz (dg hN hv hd hcd) (aK he bu (by rw [hs]; rfl)) hbase (by rw [hs]; rfl) hline (by rw [hs]; rfl) rfl) hsw) ?_) hr;rintro Q' σ H ⟨hv, hρ, A, hl, S, f⟩;obtain ⟨l, xs, e1, e2, e3, j⟩ := S.ow hl h;refine ⟨.ref l, e1, .inl ⟨rfl, xs, dZ.of e3⟩, _, aF S true false, S.env hl true false, fun v H1 s1 i1 => ?_⟩;refine ⟨l, xs, v, rfl, rfl, s1.at e3, by rw [<- j.length]; exact Nat.lt_of_lt_of_le hz u4, f.nx _ _ (qS hl (S.grow s1) e1 e2 (s1.at e3) ((j.same s1).append (aH.one (i1.ef fl))))⟩
end
inductive Pt where
 | word (w : Str)
 | beg (w : Str)
 | fin (w : Str)
 | any
 | upto (n : Nat)
 | eY (q : List (List Pt))
mutual
def cH : Pt -> D
 | .word w => .tup [.str "word", .str w]
 | .beg w => .tup [.str "begin", .str w]
 | .fin w => .tup [.str "end", .str w]
 | .any => .tup [.str "any"]
 | .upto n => .tup [.str "upto", .int (n : Nat)]
 | .eY q => .tup [.str "in", .lst (DN q)]
def cP : List Pt -> List D
 | [] => []
 | p :: ps => cH p :: cP ps
def DN : List (List Pt) -> List D
 | [] => []
 | ps :: q => .lst (cP ps) :: DN q
end
theorem cM (p : Pt) : (cH p).Ga = true := by cases p <;> rfl
theorem cJ : ∀ ps : List Pt, cP ps = ps.map cH
 | [] => by simp [cP]
 | p :: ps => by simp [cP, cJ ps]
theorem iP : ∀ q : List (List Pt), DN q = q.map fun ps => D.lst (cP ps)
 | [] => by simp [DN]
 | ps :: q => by simp [DN, iP q]
def fm : Pt -> Str -> Bool
 | .word w, z => decide (z = w)
 | .beg w, z => Txt.startswith z w
 | .fin w, z => Txt.endswith z w
 | .any, _ => true
 | _, _ => false
def g4 : Pt -> Prop
 | .upto _ => False
 | .eY _ => False
 | _ => True
def ke (p : Pt) (row : HL) : Nat := fB (fun i => fm p (row.getD i "")) row.length
theorem fY (p : Pt) (row : HL) : ke p row < 2 ^ row.length := yG _ _
mutual
def jV (row : HL) : Pt -> Nat -> Nat
 | .word w, x => dq (ke (.word w) row) x
 | .beg w, x => dq (ke (.beg w) row) x
 | .fin w, x => dq (ke (.fin w) row) x
 | .any, x => dq (ke .any row) x
 | .upto n, x => e8 (ke .any row) n x
 | .eY q, x => mQ row q x
def kH (row : HL) : List Pt -> Nat -> Nat
 | [], x => x
 | p :: ps, x => kH row ps (jV row p x)
def mQ (row : HL) : List (List Pt) -> Nat -> Nat
 | [], _ => 0
 | ps :: q, x => kH row ps x ||| mQ row q x
end
mutual
def eD : Pt -> Nat -> Prop
 | .word _, _ => True
 | .beg _, _ => True
 | .fin _, _ => True
 | .any, _ => True
 | .upto n, _ => n <= 1000
 | .eY q, k => ∃ j, k = j + 1 /\ nU q j
def gC : List Pt -> Nat -> Prop
 | [], _ => True
 | p :: ps, k => eD p k /\ gC ps k
def nU : List (List Pt) -> Nat -> Prop
 | [], _ => True
 | ps :: q, k => gC ps k /\ nU q k
end
theorem fP : ∀ {ps : List Pt} {k : Nat}, gC ps k -> ∀ p ∈ ps, eD p k
 | [], _, _, p, hp => by simp at hp
 | a :: ps, k, h, p, hp => by
  unfold gC at h;rcases mem_cons.mp hp with rfl | hp
  . exact h.1
  . exact fP h.2 p hp
theorem eN : ∀ {q : List (List Pt)} {k : Nat}, nU q k -> ∀ ps ∈ q, gC ps k
 | [], _, _, p, hp => by simp at hp
 | a :: q, k, h, p, hp => by
  unfold nU at h;rcases mem_cons.mp hp with rfl | hp
  . exact h.1
  . exact eN h.2 p hp
theorem gp : ∀ {ps : List Pt} {k : Nat}, (∀ p ∈ ps, eD p k) -> gC ps k
 | [], _, _ => by unfold gC; trivial
 | a :: ps, k, h => by
  unfold gC;exact ⟨h a mem_cons_self, gp fun p hp => h p (mem_cons_of_mem _ hp)⟩
theorem jm : ∀ {q : List (List Pt)} {k : Nat}, (∀ ps ∈ q, gC ps k) -> nU q k
 | [], _, _ => by unfold nU; trivial
 | a :: q, k, h => by
  unfold nU;exact ⟨h a mem_cons_self, jm fun p hp => h p (mem_cons_of_mem _ hp)⟩
theorem Dh {p : Pt} (h : g4 p) (k : Nat) : eD p k := by
 cases p <;> first | trivial | (unfold eD; trivial) | exact False.elim h
theorem vt {p : Pt} (h : g4 p) (row : HL) (x : Nat) : jV row p x = dq (ke p row) x := by
 cases p <;> first | (unfold jV; rfl) | exact False.elim h
theorem si {p : Pt} (h : g4 p) : ∃ (k : Str) (ts : List D), cH p = .tup (.str k :: ts) /\ k ≠ "upto" /\ k ≠ "in" := by
 cases p with
 | word u => exact ⟨"word", [.str u], by simp [cH], by decide +kernel, by decide +kernel⟩
 | beg u => exact ⟨"begin", [.str u], by simp [cH], by decide +kernel, by decide +kernel⟩
 | fin u => exact ⟨"end", [.str u], by simp [cH], by decide +kernel, by decide +kernel⟩
 | any => exact ⟨"any", [], by simp [cH], by decide +kernel, by decide +kernel⟩
 | upto n => exact False.elim h
 | eY q => exact False.elim h
theorem rp (p : Pt) : g4 p \/ (∃ m, p = .upto m) \/ ∃ q, p = .eY q := by
 cases p with
 | upto n => exact .inr (.inl ⟨n, rfl⟩)
 | eY q => exact .inr (.inr ⟨q, rfl⟩)
 | _ => exact .inl trivial
section
variable {row : HL}
mutual
theorem Dr : ∀ (p : Pt) {x : Nat}, x < 2 ^ (row.length + 1) -> jV row p x < 2 ^ (row.length + 1)
 | .word w, x, _ => by unfold jV; exact gS (fY _ _)
 | .beg w, x, _ => by unfold jV; exact gS (fY _ _)
 | .fin w, x, _ => by unfold jV; exact gS (fY _ _)
 | .any, x, _ => by unfold jV; exact gS (fY _ _)
 | .upto n, x, h => by unfold jV; exact rO (fY _ _) h
 | .eY q, x, h => by unfold jV; exact oX q h
theorem yM : ∀ (ps : List Pt) {x : Nat}, x < 2 ^ (row.length + 1) -> kH row ps x < 2 ^ (row.length + 1)
 | [], x, h => by unfold kH; exact h
 | p :: ps, x, h => by unfold kH; exact yM ps (Dr p h)
theorem oX : ∀ (q : List (List Pt)) {x : Nat}, x < 2 ^ (row.length + 1) -> mQ row q x < 2 ^ (row.length + 1)
 | [], x, _ => by unfold mQ; exact Nat.two_pow_pos _
 | ps :: q, x, h => by unfold mQ; exact ya (yM ps h) (oX q h)
end
end
theorem rE (row : HL) (p : Pt) : ∀ (ps : List Pt) (x : Nat), kH row (ps ++ [p]) x = jV row p (kH row ps x)
 | [], x => by simp [kH]
 | a :: ps, x => by
  show kH row (a :: (ps ++ [p])) x = _;unfold kH;exact rE row p ps _
theorem qy (row : HL) (ps : List Pt) : ∀ (q : List (List Pt)) (x : Nat), mQ row (q ++ [ps]) x = mQ row q x ||| kH row ps x
 | [], x => by simp [mQ]
 | a :: q, x => by
  show mQ row (a :: (q ++ [ps])) x = _;rw [mQ, mQ, qy row ps q x, Nat.or_assoc]
def G5 : D -> D -> D
 | .int i, .int j => .int ((i.toNat ||| j.toNat : Nat) : Int)
 | _, _ => .non
theorem mj : ∀ (a b : HN), (lL (a.map fun n => D.int (n : Nat)) (b.map fun n => D.int (n : Nat))).map (tp .non G5) = (List.zipWith (· ||| ·) a b).map fun n => D.int (n : Nat)
 | [], b => by simp [lL]
 | x :: xs, [] => by simp [lL]
 | x :: xs, y :: ys => by
  have ih := mj xs ys;unfold lL at ih ⊢;simp only [map_cons, List.zip_cons_cons, List.zipWith_cons_cons];rw [ih];rfl
def aL (q : List (List Pt)) : D := .lst (DN q)
def bC (ps : List Pt) : D := .lst (cP ps)
def CM (ds : List D) (d : D) : Prop := ∃ p w, g4 p /\ ds = [cH p, .str w] /\ d = .bl (fm p w)
def hW (ds : List D) (d : D) : Prop := ∃ p row, g4 p /\ row.length <= 61 /\ ds = [cH p, aj row] /\ d = .int (ke p row : Nat)
def ny (ds : List D) (d : D) : Prop := ∃ (pl : Nat) (ws : HN), pl < 2 ^ 61 /\ ws.length <= 1000 /\ ds = [.int (pl : Nat), aJ ws] /\ d = aJ (ws.map (dq pl))
def jZ (ds : List D) (d : D) : Prop := ∃ (a b : HN), a.length <= 1000 /\ ds = [aJ a, aJ b] /\ d = aJ (List.zipWith (· ||| ·) a b)
def pQ (ds : List D) (d : D) : Prop := ∃ (n : Nat) (row : HL) (ws : HN), n <= 1000 /\ row.length <= 61 /\ ws.length <= 1000 /\ ds = [.int (n : Nat), aj row, aJ ws] /\ d = aJ (ws.map (e8 (ke .any row) n))
def zd (k : Nat) (ds : List D) (d : D) : Prop := ∃ (p : Pt) (row : HL) (ws : HN), eD p k /\ row.length <= 61 /\ ws.length <= 1000 /\ ds = [cH p, aj row, aJ ws] /\ d = aJ (ws.map (jV row p))
def kG (k : Nat) (ds : List D) (d : D) : Prop := ∃ (ps : List Pt) (row : HL) (ws : HN), gC ps k /\ row.length <= 61 /\ ws.length <= 1000 /\ ds = [bC ps, aj row, aJ ws] /\ d = aJ (ws.map (kH row ps))
def jL (k : Nat) (ds : List D) (d : D) : Prop := ∃ (q : List (List Pt)) (row : HL) (ws : HN), nU q k /\ row.length <= 61 /\ ws.length <= 1000 /\ ds = [aL q, aj row, aJ ws] /\ d = aJ (ws.map (mQ row q))
def sk (ds : List D) (d : D) : Prop := ∃ x : Nat, x < 2 ^ 62 /\ ds = [.int (x : Nat)] /\ d = aJ (dH x)
def ig (row : HL) (q : List (List Pt)) (n : Nat) : List HQ := (List.range n).flatMap fun a => (dH (mQ row q (1 <<< a))).map fun t => (a, t)
def jD (row : HL) (q : List (List Pt)) : List HQ := ig row q (row.length + 1)
theorem lx (row : HL) (q : List (List Pt)) (n : Nat) : ig row q (n + 1) = ig row q n ++ (dH (mQ row q (1 <<< n))).map fun t => (n, t) := by
 unfold ig; rw [range_succ]; simp
theorem i8 {x n : Nat} (h : x < 2 ^ n) : (dH x).length <= n := by
 unfold dH;exact Nat.le_trans (length_filter_le _ _) (by rw [length_range]; exact CU h)
theorem jI {row : HL} (q : List (List Pt)) : ∀ n, n <= row.length + 1 -> (ig row q n).length <= n * (row.length + 1)
 | 0, _ => by simp [ig]
 | n + 1, h => by
  rw [lx, List.length_append, length_map, Nat.succ_mul];have h1 := jI (row := row) q n (by omega);have h2 := i8 (oX (row := row) q (eR (show n < row.length + 1 by omega)));omega
theorem uc {n a : Nat} : (List.range n).filter (fun i => decide (i = a)) = if a < n then [a] else [] := by
 induction n with
 | zero => simp
 | succ n ih =>
  rw [range_succ, filter_append, ih];by_cases h1 : a < n
  . have : ¬ n = a := by omega
    rw [if_pos h1, if_pos (by omega)];simp [this]
  . by_cases h2 : n = a
    . subst h2;simp
    . rw [if_neg h1, if_neg (by omega)];simp [h2]
theorem pL (z u : Str) : Txt.startswith z u = decide (Txt.slice z none (some (u.length : Int)) = u) := by
 rw [Bool.eq_iff_iff, decide_eq_true_iff];unfold Txt.startswith;rw [Bool.and_eq_true, decide_eq_true_iff, StrLaws.subAt_eq, beq_iff_eq, List.drop_zero];by_cases h : u.length <= z.length
 . have e := lE z (j := (u.length : Int)) (by omega) (by rw [mC]; omega);rw [Int.toNat_natCast] at e;constructor
   . rintro ⟨_, h2⟩;exact qE (e.trans h2)
   . intro h2;exact ⟨by omega, e.symm.trans (congrArg cl h2)⟩
 . constructor
   . rintro ⟨h1, _⟩; omega
   . intro h2;have := Txt.slice_le z none (some (u.length : Int));rw [h2] at this;omega
theorem n8 (x : Str) {i : Int} (h0 : 0 <= i) (h1 : i <= (cl x).length) : cl (Txt.slice x (some i) none) = (cl x).drop i.toNat := by
 have e : Txt.slice x (some i) none = _ := StrLaws.sliceText_from (x := x) (i := i) ⟨h0, h1⟩;rw [e];show List.take _ (List.drop _ _) = _;rw [List.take_of_length_le];rw [length_drop];omega
theorem ua (z u : Str) : Txt.endswith z u = (decide ((u.length : Int) <= (z.length : Int)) && decide (Txt.slice z (some ((z.length : Int) - (u.length : Int))) none = u)) := by
 rw [Bool.eq_iff_iff, Bool.and_eq_true, decide_eq_true_iff, decide_eq_true_iff];unfold Txt.endswith;rw [Bool.and_eq_true, decide_eq_true_iff, StrLaws.subAt_eq, beq_iff_eq];by_cases h : u.length <= z.length
 . have e := n8 z (i := (z.length : Int) - (u.length : Int)) (by omega) (by rw [mC]; omega);rw [show ((z.length : Int) - (u.length : Int)).toNat = z.length - u.length by omega] at e;have ht : ((cl z).drop (z.length - u.length)).take u.length = (cl z).drop (z.length - u.length) := by
    rw [List.take_of_length_le];rw [length_drop, mC];omega
   constructor
   . rintro ⟨_, h2⟩;exact ⟨by omega, qE (e.trans (ht.symm.trans h2))⟩
   . rintro ⟨_, h2⟩;exact ⟨by omega, ht.trans (e.symm.trans (congrArg cl h2))⟩
 . constructor
   . rintro ⟨h1, _⟩; omega
   . rintro ⟨h1, _⟩; omega
def tY : Pt -> Prop
 | .word w => w.length <= 1000
 | .beg w => w.length <= 1000
 | .fin w => w.length <= 1000
 | _ => True
def uC (ds : List D) (d : D) : Prop := ∃ p z, g4 p /\ tY p /\ z.length <= 1000 /\ ds = [cH p, .str z] /\ d = .bl (fm p z)
def kQ (m : Nat) (p : Pt) : Prop := (g4 p \/ ∃ k, p = .upto k /\ k <= m) /\ tY p
def bH (ws : HL) : Prop := ws.length = 4 /\ ∀ z ∈ ws, z ≠ "" /\ z.length <= 12
theorem xy (one other : Int) : bH (fC one other) := ⟨ui one other, fun z hz => ⟨(uI hz).1, uw hz⟩⟩
theorem bH.get {ws : HL} (h : bH ws) {i : Nat} (hi : i < 4) : ws.getD i "" ∈ ws /\ 1 <= (ws.getD i "").length /\ (ws.getD i "").length <= 12 := by
 have hm : ws.getD i "" ∈ ws := getD_mem (by rw [h.1]; exact hi);refine ⟨hm, ?_, (h.2 _ hm).2⟩;have := (h.2 _ hm).1;rcases Nat.eq_zero_or_pos (ws.getD i "").length with z | z
 . exfalso;apply this;rw [<- oO];exact List.eq_nil_of_length_eq_zero (by rw [mC]; exact z)
 . exact z
theorem yQ {m : Nat} {p : Pt} (h : kQ m p) (hm : m <= 1000) (k : Nat) : eD p k := by
 rcases h.1 with h | ⟨j, rfl, hj⟩
 . exact Dh h k
 . unfold eD; omega
theorem gg {m : Nat} {p : Pt} (h : kQ m p) : (cH p).flat = true := by
 cases p with
 | eY q =>
  rcases h.1 with h | ⟨_, h, _⟩
  . exact False.elim h
  . cases h
 | _ => simp [cH, D.flat, bj]
theorem sR {ws : HL} (h : bH ws) (cells : HM) : ∀ r ∈ bY ws cells, ∀ z ∈ r, z.length <= 1000 := fun r hr z hz => by
 have := (h.2 z (oF h.1 cells r hr z hz)).2;omega
theorem gj {rows : HA} {i : Nat} (h : i < rows.length) : rows.getD i [] ∈ rows := getD_mem h
def gr (n x : Nat) : List Nat := (List.range n).filter x.testBit
def g8 (ways lG : Int) (ws : HL) (c : Int) : Pt :=
 if part c 30 ways = 0 then .any else if part c 30 ways = 1 then .upto (part c 31 lG).toNat else
  let z := ws.getD (part c 32 4).toNat ""
  let n := 1 + part c 33 z.length
  if part c 30 ways = 2 then .beg (Txt.slice z none (some n)) else if part c 30 ways = 3 then .fin (Txt.slice z (some ((z.length : Int) - n)) none) else .word z
def vQ (ways lG : Int) (ds : List D) (d : D) : Prop := ∃ (ws : HL) (c : Int), bH ws /\ ds = [aj ws, .int c] /\ d = cH (g8 ways lG ws c)
theorem ql {ways lG : Int} {ws : HL} (h : bH ws) (hu : 0 < lG) (hu10 : lG <= 10) (c : Int) : kQ 9 (g8 ways lG ws c) := by
 have p31 := eJ c 31 hu;have p32 := cL c 32 (show (0 : Int) < 4 by decide);have p32' := eJ c 32 (show (0 : Int) < 4 by decide);obtain ⟨hm, g1, g2⟩ := h.get (i := (part c 32 4).toNat) (by omega);unfold g8;split
 . exact ⟨.inl trivial, trivial⟩
 split
 . exact ⟨.inr ⟨_, rfl, by omega⟩, trivial⟩
 dsimp only;split
 . exact ⟨.inl trivial, Nat.le_trans (Txt.slice_le _ _ _) (by omega)⟩
 split
 . exact ⟨.inl trivial, Nat.le_trans (Txt.slice_le _ _ _) (by omega)⟩
 . exact ⟨.inl trivial, show Str.length _ <= 1000 by omega⟩
theorem oW (n x : Nat) : (gr n x).length <= n := Nat.le_trans (length_filter_le _ _) (by rw [length_range]; exact Nat.le_refl _)
theorem iQ {n x i : Nat} : i ∈ gr n x ↔ i < n /\ x.testBit i = true := by
 unfold gr;rw [mem_filter, List.mem_range]
theorem AZ {p : Pt} (hp : g4 p) (row : HL) (x i : Nat) (hi : i < row.length + 1) : (jV row p x).testBit i = true ↔ 1 <= i /\ x.testBit (i - 1) = true /\ fm p (row.getD (i - 1) "") = true := by
 rw [vt hp]
 cases i with
 | zero => rw [ng]; simp
 | succ i =>
  rw [jg];unfold ke;rw [dz];simp;omega
theorem zW (k : Nat) (row : HL) (x i : Nat) (hi : i < row.length + 1) : (jV row (.upto k) x).testBit i = (gr (row.length + 1) x).any fun a => decide (0 <= (i : Int) - (a : Int)) && decide ((i : Int) - (a : Int) <= (k : Int)) := by
 rw [Bool.eq_iff_iff, jV];show (e8 (fB (fun _ => true) row.length) k x).testBit i = true ↔ _;rw [iJ, any_eq_true];constructor
 . rintro ⟨j, h1, h2, h3, h4⟩;exact ⟨i - j, iQ.mpr ⟨by omega, h3⟩, by simp; omega⟩
 . rintro ⟨a, ha, h⟩;obtain ⟨h1, h2⟩ := iQ.mp ha;simp at h;exact ⟨i - a, by omega, by omega, by rw [show i - (i - a) = a by omega]; exact h2, .inr (by omega)⟩
theorem v8 {n a : Nat} (h : a < n) : gr n (1 <<< a) = [a] := by
 unfold gr;have : (1 <<< a).testBit = fun i => decide (i = a) := by
  funext i;rw [n6];simp [eq_comm]
 rw [this, uc, if_pos h]
section
variable {X : Cx} {F : Fn} {ρ : b0} {Q : iu} {rest : List Stmt} {e : Expr} {d : D} {pos p : Pos} {x : Str} {fr m1 : Bool} {ds : List D} {dss : List (List D)}
def tW (K : Frag) (F : Fn) (ρ : b0) (ds : List D) : TA := fun σ H R => ∃ hv hρ A, σ.length = ρ.length /\ bz K F H (σ ++ hv) (ρ ++ hρ) A /\ ∀ vs H', au H H' -> aH K H' (zn F (aG A) true) ds vs -> R vs H'
def EW (X : Cx) (F : Fn) (ρ : b0) (es : List Expr) (ds : List D) : Prop := PA X es (tW X.K F ρ ds)
theorem zv : EW X F ρ [] [] := PA.mono bu fun σ H R ⟨hv, hρ, A, hl, S, k⟩ => k [] H (au.refl H) (aC.mpr rfl)
theorem vk {es : List Expr} (he : E X m1 (view true false ρ) e d) (fl : d.flat = true) (hr : EW X F ρ es ds) (hs : starEach (e :: es) X.env = (false, eval e X.env) :: starEach es X.env := by rfl) : EW X F ρ (e :: es) (d :: ds) :=
 PA.mono (aK he hr hs) fun σ H R ⟨hv, hρ, A, hl, S, k⟩ => ⟨_, aF S true false, S.env hl true false, fun v H1 s1 i1 => ⟨hv, hρ, A, hl, S.grow s1, fun vs H2 s2 i2 => k (v :: vs) H2 (s1.trans s2) (ar.mpr ⟨v, vs, rfl, In.same s2 (In.ef fl i1), i2⟩)⟩⟩
theorem BJ {es : List Expr} (he : E X false (view false true ρ) e d) (hr : EW X F ρ es ds) (hs : starEach (e :: es) X.env = (false, eval e X.env) :: starEach es X.env := by rfl) : EW X F ρ (e :: es) (d :: ds) :=
 PA.mono (aK he hr hs) fun σ H R ⟨hv, hρ, A, hl, S, k⟩ => ⟨_, aF S false true, S.env hl false true, fun v H1 s1 i1 => ⟨hv, hρ, A, hl, S.grow s1, fun vs H2 s2 i2 => k (v :: vs) H2 (s1.trans s2) (ar.mpr ⟨v, vs, rfl, In.same s2 (i1 : In X.K H1 (zn F (aG A) true) d v), i2⟩)⟩⟩
theorem sf (i : Nat) {x : Str} {es : List Expr} {ds : List D} {lp lp2 : Pos} (he : EW X F ρ es ds) (hz : ds.length <= 1000) (hr : SD X F rest (ρ.set i (some (.kI true [ds]))) Q) (hN : X.N.Nodup) (hi : X.N[i]? = some x := by rfl)
 (hx : Loc X.env.scope x := by first | exact Or.inl rfl | exact Or.inr rfl) (hρ : i < ρ.length := by exact of_decide_eq_true rfl) (hs : swapsWith (.List [.List es lp] lp2) (some (.Name x p)) pos.line X.env = pure false := by rfl) (hf : HfX X x := by first | exact .inl rfl | exact .inr rfl)
 (hst : starEach [.List es lp] X.env = [(false, eval (.List es lp) X.env)] := by rfl) :
 SD X F (.Assign [.Name x p] (.List [.List es lp] lp2) pos :: rest) ρ Q := by
 refine bB (PS.mono (jK hN hi hx (mY (aK (mY he) bu (by rw [hst]; rfl))) hs hf) ?_) hr;rintro Q' σ H ⟨hv, hρ', A, hl, S, f⟩;refine ⟨hv, hρ', A, hl, S, fun vs H1 s1 i1 => ⟨by rw [<- i1.length]; exact bh hz, fun a ha => ⟨bh (by simp), fun l hl' => f.nx _ _ ?_⟩⟩⟩;have hla : l ≠ a := by rintro rfl; rw [ak] at hl'; cases hl'
 have hl1 : H1 l = none := by rw [ae hla] at hl'; exact hl'
 have s2 : au H1 (upd (upd H1 a (.lst vs)) l (.lst [.ref a])) := (az ha).trans (az hl');refine ⟨_, bP A i [l, a], by simp [hl], ?_, rfl⟩;rw [<- aX (by omega), <- aX hρ];refine S.put (by rw [List.length_append]; omega) (by rw [List.length_append]; omega) (s1.trans s2) (by simp [hla]) (fun b hb => ?_) ⟨l, [a], rfl, rfl, ak, .cons ⟨vs, by rw [ae (Ne.symm hla), ak], ?_⟩ .nil⟩
 . have hb : b = l \/ b = a := by simpa using hb
   rcases hb with rfl | rfl
   . exact ⟨s1.free hl1, .l _, ak⟩
   . exact ⟨s1.free ha, .l _, by rw [ae (Ne.symm hla), ak]; rfl⟩
 . refine aH.carry (su s2 fun b xs e n => ?_) i1;rintro ⟨k, hk⟩;by_cases q : k = i
   . rw [q, aY] at hk;have hb : b = l \/ b = a := by simpa using hk
     rcases hb with rfl | rfl
     . rw [hl1] at e; cases e
     . rw [ha] at e; cases e
   . rw [bM q] at hk;exact n ⟨k, hk⟩
theorem sW (i : Nat) {x : Str} {ap cp : Pos} {dss : List (List D)} (fr : Bool) (h : ρ[i]? = some (some (.kI fr dss)) := by rfl) {es : List D} (he : E X true (view true false ρ) e (.lst es)) (fl : bj es = true) (hz : dss.length < 1000) (hr : SD X F rest (ρ.set i (some (.kI fr (dss ++ [es])))) Q)
 (hN : X.N[i]? = some x := by rfl) (hv : sx X.env.scope x := by first | exact Or.inl rfl | exact Or.inr (Or.inl rfl) | exact Or.inr (Or.inr rfl)) (hd : NdX x := by decide) (hcd : NcX x := by decide)
 (hbase : attributeBase (.Name x p) "append" X.env (eval (.Name x p) X.env) = eval (.Name x p) X.env := by rfl) (hline : (ap.endLine == cp.line) = true := by rfl)
 (hs : starEach [e] X.env = [(false, eval e X.env)] := by rfl) (hsw : swapsWith (.Call (.Attribute (.Name x p) "append" ap) [e] [] cp) none pos.line X.env = pure false := by rfl) :
 SD X F (.Expr (.Call (.Attribute (.Name x p) "append" ap) [e] [] cp) pos :: rest) ρ Q := by
 refine bB (PS.mono (dX (gY PySem.F.plainAttrs_list PySem.F.slot_list_append PySem.F.type_list_append cz (dg hN hv hd hcd) (aK he bu (by rw [hs]; rfl)) hbase (by rw [hs]; rfl) hline (by rw [hs]; rfl) rfl) hsw) ?_) hr;rintro Q' σ H ⟨hv, hρ, A, hl, S, f⟩;obtain ⟨l, as, e1, e2, e3, j⟩ := S.kI hl h;have hi : i < σ.length := (List.getElem?_eq_some_iff.mp e1).1;refine ⟨.ref l, e1, .inl ⟨rfl, _, dZ.of e3⟩, _, aF S true false, S.env hl true false, fun v H1 s1 i1 => ?_⟩;obtain ⟨a, ys, rfl, at', jn⟩ := av.mp i1;obtain ⟨ea, en⟩ : H1 a = some (.lst ys) /\ H a = none := by
  rcases at' with z | z
  . exact z
  . exact absurd z.1 (by simp [out, nw])
 have hlen : (as.map V.ref).length < sizeLine := by rw [length_map, <- j.length]; exact aW (by omega)
 refine ⟨l, _, .ref a, rfl, rfl, s1.at e3, hlen, f.nx _ _ ?_⟩;have hal : a ≠ l := by rintro rfl; rw [e3] at en; cases en
 have haA : ∀ j, a ∉ A j := fun j hj => by obtain ⟨xs, e⟩ := S.lst j a hj; rw [en] at e; cases e
 have hnd := S.nd i;rw [e2] at hnd;have hl0 : l ∉ as := (nodup_cons.mp hnd).1;have kk : ∀ b o, H b = some o -> xI o = false -> b ∉ A i -> (upd H1 l (.lst (as.map V.ref ++ [.ref a]))) b = some o := fun b o e n hb => by
  rw [e2] at hb;have : b ≠ l := fun z => hb (by simp [z]);rw [ae this]; exact s1.get b o e n
 have kkT : ∀ b o, H1 b = some o -> xI o = false -> b ∉ A i -> (upd H1 l (.lst (as.map V.ref ++ [.ref a]))) b = some o := fun b o e n hb => by
  rw [e2] at hb;have : b ≠ l := fun z => hb (by simp [z]);rw [ae this]; exact e
 have mine : ∀ b ∈ l :: (as ++ [a]), b ∈ A i \/ H b = none := fun b hb => by
  rcases mem_cons.mp hb with z | hb
  . exact .inl (by rw [e2, z]; simp)
  . rcases mem_append.mp hb with hb | hb
    . exact .inl (by rw [e2]; simp [hb])
    . have : b = a := by simpa using hb
      exact .inr (by rw [this]; exact en)
 refine ⟨_, bP A i (l :: (as ++ [a])), by simp [hl], ?_, rfl⟩;have key := S.re (i := i) (v := .ref l) (sl := .kI fr (dss ++ [es])) (l := l :: (as ++ [a])) (H2 := upd H1 l (.lst (as.map V.ref ++ [.ref a]))) (by rw [List.length_append]; omega) (by rw [List.length_append]; omega) ((S.same.trans s1).write (S.new i l (by rw [e2]; simp)) (s1.at e3)) kk ?_ (fun b hb => ⟨mine b hb, ?_⟩) ⟨l, as ++ [a], rfl, rfl, ?_, ?_⟩
 . rw [cn (by rw [getElem?_append_left hi]; exact e1), aX (by omega)] at key;exact key
 . have n1 : a ∉ l :: as := by rw [<- e2]; exact haA i
   rw [<- cons_append];exact List.nodup_append.mpr ⟨hnd, by simp, fun b hb c hc => by
    have : c = a := by simpa using hc
    subst this;rintro rfl;exact n1 hb⟩
 . rcases mem_cons.mp hb with z | hb
   . exact ⟨.l _, by rw [z, ak]; rfl⟩
   . rcases mem_append.mp hb with hb | hb
     . have : b ≠ l := fun z => hl0 (z ▸ hb);obtain ⟨xs, e⟩ := S.lst i b (by rw [e2]; simp [hb]);exact ⟨xs, by rw [ae this]; exact s1.at e xs.nt⟩
     . have : b = a := by simpa using hb
       rw [this, ae hal];exact ⟨.l _, ea⟩
 . rw [ak, map_append]; rfl
 . refine aU.snoc (xs := ys) (j.carry (fun b xs hb e => ?_) (fK S kk mine fr)) (by rw [ae hal]; exact ea) (aH.flat (fK (l := []) (S.grow s1) kkT (fun b hb => by simp at hb) fr).t fl jn);have : b ≠ l := by rintro rfl; exact hl0 hb
   rw [ae this]; exact s1.at e
theorem rT (i : Nat) {x : Str} {ap cp sp : Pos} {ix : Expr} {mi : Bool} {dss : List (List D)} {ds : List D} {d : D} (h : ρ[i]? = some (some (.kI true (dss ++ [ds]))) := by rfl) (hix : E X mi (view true false ρ) ix (.int (-1))) (he : E X true (view true false ρ) e d) (hz : ds.length < 1000)
 (hr : SD X F rest (ρ.set i (some (.kI true (dss ++ [ds ++ [d]])))) Q)
 (hN : X.N[i]? = some x := by rfl) (hv : sx X.env.scope x := by first | exact Or.inl rfl | exact Or.inr (Or.inl rfl) | exact Or.inr (Or.inr rfl)) (hd : NdX x := by decide) (hcd : NcX x := by decide)
 (hpi : iG ix := by intro _ _; rfl) (hbase : attributeBase (.Subscript (.Name x p) ix sp) "append" X.env (eval (.Subscript (.Name x p) ix sp) X.env) = eval (.Subscript (.Name x p) ix sp) X.env := by rfl)
 (hline : (ap.endLine == cp.line) = true := by rfl)
 (hs : starEach [e] X.env = [(false, eval e X.env)] := by rfl) (hsw : swapsWith (.Call (.Attribute (.Subscript (.Name x p) ix sp) "append" ap) [e] [] cp) none pos.line X.env = pure false := by rfl) :
 SD X F (.Expr (.Call (.Attribute (.Subscript (.Name x p) ix sp) "append" ap) [e] [] cp) pos :: rest) ρ Q := by
 refine bB (PS.mono (dX (gY PySem.F.plainAttrs_list PySem.F.slot_list_append PySem.F.type_list_append cz (r0 qf (dg hN hv hd hcd) hix hpi) (aK he bu (by rw [hs]; rfl)) hbase (by rw [hs]; rfl) hline (by rw [hs]; rfl) rfl) hsw) ?_) hr;rintro Q' σ H ⟨hv, hρ, A, hl, S, f⟩;obtain ⟨l, as, e1, e2, e3, j⟩ := S.kI hl h;have hi : i < σ.length := (List.getElem?_eq_some_iff.mp e1).1;obtain ⟨bs, a, xs, rfl, j1, ea, ja⟩ := j.tR;have hnd := S.nd i;rw [e2] at hnd;have hal : a ≠ l := fun z => (nodup_cons.mp hnd).1 (by simp [z]);have hab : a ∉ bs := fun z => by
  have := (List.nodup_append.mp (nodup_cons.mp hnd).2).2.2 a z a (by simp);exact this rfl
 refine ⟨.ref l, e1, _, aF S true false, S.env hl true false, fun y H1 s1 i1 => ⟨l, _, -1, .ref a, rfl, ao.mp (i1.plain (aF S true false)), dZ.of (s1.at e3), ?_, .inl ⟨rfl, xs, dZ.of (s1.at ea)⟩, _, (aF S true false).same s1, (S.env hl true false).same s1, fun w H2 s2 i2 => ?_⟩⟩
 . rw [map_append]; exact sG _ _
 . have s12 := s1.trans s2;have S2 := S.grow s12;have hlen : xs.length < sizeLine := by rw [<- ja.length]; exact aW (by omega)
   refine ⟨a, xs, w, rfl, rfl, s12.at ea, hlen, f.nx _ _ ?_⟩;have aA : a ∈ A i := by rw [e2]; simp
   have kk : ∀ b o, H2 b = some o -> xI o = false -> b ∉ A i -> (upd H2 a (.lst (xs ++ [w]))) b = some o := fun b o e n hb => by
    have : b ≠ a := fun z => hb (z ▸ aA);rw [ae this]; exact e
   have mine : ∀ b ∈ l :: (bs ++ [a]), b ∈ A i \/ H2 b = none := fun b hb => .inl (by rw [e2]; exact hb);refine ⟨_, bP A i (l :: (bs ++ [a])), by simp [hl], ?_, rfl⟩;have key := S2.re (i := i) (v := .ref l) (sl := .kI true (dss ++ [ds ++ [d]])) (l := l :: (bs ++ [a])) (H2 := upd H2 a (.lst (xs ++ [w]))) (by rw [List.length_append]; omega) (by rw [List.length_append]; omega) (S2.same.write (S2.new i a aA) (s12.at ea)) kk hnd (fun b hb => ⟨mine b hb, ?_⟩) ⟨l, bs ++ [a], rfl, rfl, ?_, ?_⟩
   . rw [cn (by rw [getElem?_append_left hi]; exact e1), aX (by omega)] at key;exact key
   . by_cases z : b = a
     . exact ⟨.l _, by rw [z, ak]; rfl⟩
     . rw [ae z];exact S2.lst i b (by rw [e2]; exact hb)
   . rw [ae (Ne.symm hal)]; exact s12.at e3
   . have c := fK S2 kk mine true;have newIn : ∀ {d : D} {v : V}, In X.K H2 (out true (vz F (aG A) true false) H1) d v -> In X.K H2 (zn F (aG A) true) d v := fun {d v} h => In.carry (Z := nw H1) (Z' := zn F (aG A) true) ⟨fun b ys e z => ⟨e, S.same.free (s1.free z), fun ⟨k, hk⟩ => by
      obtain ⟨zs, ez⟩ := S.lst k b hk;have z' : H1 b = none := z;rw [s1.at ez zs.nt] at z';cases z'⟩, fun m => Dd m, fun _ _ e => e⟩ h
     have j1' : aU X.K H2 (zn F (aG A) true) dss bs := j1.carry (fun b ys hb e => s12.at e) (Carry.same s12);refine aU.snoc (j1'.carry (fun b ys hb e => ?_) c) ak (aH.append ((ja.same s12).carry c) (aH.one (In.carry c (newIn i2))));have : b ≠ a := fun z => hab (z ▸ hb);rw [ae this]; exact e
end
abbrev pp (ws : HL) (c : Int) : Pt := g8 6 4 ws c
def gX (ws : HL) (q : List (List Pt)) (c : Int) : List (List Pt) :=
 if part c 40 6 = 0 then q ++ [[pp ws c]] else if part c 40 6 = 1 then [[.eY q, pp ws c]]
 else if part c 40 6 = 2 then q.dropLast ++ [q.getLast?.getD [] ++ [.eY [[pp ws c], [pp ws (c + 1)]]]] else q.dropLast ++ [q.getLast?.getD [] ++ [pp ws c]]
def bX (ws : HL) (c0 : Int) (cells : HM) : List (List Pt) := cells.foldl (gX ws) [[pp ws c0]]
theorem iC (ws : HL) (c0 : Int) (cells : HM) (c : Int) : bX ws c0 (cells ++ [c]) = gX ws (bX ws c0 cells) c := by
 unfold bX; rw [List.foldl_append]; rfl
mutual
theorem xV : ∀ (p : Pt) {k : Nat}, eD p k -> eD p (k + 1)
 | .word _, _, _ => by unfold eD; trivial
 | .beg _, _, _ => by unfold eD; trivial
 | .fin _, _, _ => by unfold eD; trivial
 | .any, _, _ => by unfold eD; trivial
 | .upto n, _, h => by unfold eD at h ⊢; exact h
 | .eY q, k, h => by
  unfold eD at h ⊢;obtain ⟨j, e, h⟩ := h;exact ⟨j + 1, by omega, kA q h⟩
theorem oP : ∀ (ps : List Pt) {k : Nat}, gC ps k -> gC ps (k + 1)
 | [], _, _ => by unfold gC; trivial
 | p :: ps, k, h => by
  unfold gC at h ⊢;exact ⟨xV p h.1, oP ps h.2⟩
theorem kA : ∀ (q : List (List Pt)) {k : Nat}, nU q k -> nU q (k + 1)
 | [], _, _ => by unfold nU; trivial
 | ps :: q, k, h => by
  unfold nU at h ⊢;exact ⟨oP ps h.1, kA q h.2⟩
end
theorem za {q : List (List Pt)} {j k : Nat} (h : nU q j) (hk : j <= k) : nU q k := by
 obtain ⟨d, rfl⟩ := Nat.exists_eq_add_of_le hk;clear hk
 induction d with
 | zero => exact h
 | succ d ih => exact kA q ih
theorem gO {ws : HL} (h : bH ws) (c : Int) : kQ 9 (pp ws c) := ql h (by decide) (by decide) c
theorem oG {ws : HL} (h : bH ws) (c : Int) (k : Nat) : eD (pp ws c) k := yQ (gO h c) (by decide) k
theorem ku {p : Pt} {k : Nat} (h : eD p k) : gC [p] k := gp fun q hq => by simp at hq; subst hq; exact h
theorem vh {ps : List Pt} {k : Nat} (h : gC ps k) : nU [ps] k := jm fun q hq => by simp at hq; subst hq; exact h
structure B7 (ws : HL) (n : Nat) (q : List (List Pt)) : Prop where
 ok : nU q n
 ne : ∃ init last, q = init ++ [last]
 len : q.length <= n + 1
 rows : ∀ ps ∈ q, ps.length <= n + 2
theorem wq {ws : HL} (h : bH ws) {n : Nat} {q : List (List Pt)} (I : B7 ws n q) (c : Int) : B7 ws (n + 1) (gX ws q c) := by
 obtain ⟨init, last, e⟩ := I.ne;have hdl : q.dropLast = init := by rw [e]; simp
 have hgl : q.getLast?.getD [] = last := by rw [e]; simp
 have hlen := I.len;rw [e, List.length_append, List.length_singleton] at hlen;have hlast := I.rows last (by rw [e]; simp);have hok := kA q I.ok;unfold gX;split
 . refine ⟨jm fun ps hps => ?_, ⟨q, [pp ws c], rfl⟩, by rw [e]; simp; omega, fun ps hps => ?_⟩
   . rcases mem_append.mp hps with hps | hps
     . exact eN hok ps hps
     . simp at hps; subst hps; exact ku (oG h c _)
   . rcases mem_append.mp hps with hps | hps
     . have := I.rows ps hps; omega
     . simp at hps; subst hps; simp
 split
 . refine ⟨vh (gp fun p hp => ?_), ⟨[], _, rfl⟩, by simp, fun ps hps => by simp at hps; subst hps; simp⟩;simp at hp;rcases hp with rfl | rfl
   . unfold eD; exact ⟨n, rfl, I.ok⟩
   . exact oG h c _
 rw [hdl, hgl];split
 . refine ⟨jm fun ps hps => ?_, ⟨_, _, rfl⟩, by simp; omega, fun ps hps => ?_⟩
   . rcases mem_append.mp hps with hps | hps
     . exact eN hok ps (by rw [e]; simp [hps])
     . simp at hps; subst hps;refine gp fun p hp => ?_;rcases mem_append.mp hp with hp | hp
       . exact fP (eN hok last (by rw [e]; simp)) p hp
       . simp at hp; subst hp;unfold eD;refine ⟨n, rfl, jm fun ps hps => ?_⟩;simp at hps;rcases hps with rfl | rfl
         . exact ku (oG h c _)
         . exact ku (oG h _ _)
   . rcases mem_append.mp hps with hps | hps
     . have := I.rows ps (by rw [e]; simp [hps]); omega
     . simp at hps; subst hps; simp; omega
 . refine ⟨jm fun ps hps => ?_, ⟨_, _, rfl⟩, by simp; omega, fun ps hps => ?_⟩
   . rcases mem_append.mp hps with hps | hps
     . exact eN hok ps (by rw [e]; simp [hps])
     . simp at hps; subst hps;refine gp fun p hp => ?_;rcases mem_append.mp hp with hp | hp
       . exact fP (eN hok last (by rw [e]; simp)) p hp
       . simp at hp; subst hp; exact oG h c _
   . rcases mem_append.mp hps with hps | hps
     . have := I.rows ps (by rw [e]; simp [hps]); omega
     . simp at hps; subst hps; simp; omega
theorem jC {ws : HL} (h : bH ws) (c0 : Int) (cells : HM) : B7 ws cells.length (bX ws c0 cells) := by
 refine snoc_ind (p := fun cells => B7 ws cells.length (bX ws c0 cells)) ?_ (fun l c ih => ?_) cells
 . refine ⟨vh (ku (oG h c0 _)), ⟨[], [pp ws c0], rfl⟩, by simp [bX], fun ps hps => ?_⟩;simp [bX] at hps; subst hps; simp
 . rw [iC, List.length_append, List.length_singleton];exact wq h ih c
def pD (ds : List D) (d : D) : Prop := ∃ (ws : HL) (cells : HM), bH ws /\ cells.length <= 8 /\ ds = [aj ws, vd cells] /\ d = aL (bX ws (cellAt cells 0 + 3) cells)
theorem mR (q : List (List Pt)) : aL q = .lst ((q.map cP).map D.lst) := by unfold aL; rw [iP, map_map]; rfl
def wD (t : Nat × Nat × Nat) : D := .tup [.int (t.1 : Nat), .int (t.2.1 : Nat), .int (t.2.2 : Nat)]
def jd (rows : HA) (q : List (List Pt)) (n : Nat) : List (Nat × Nat × Nat) := (List.range n).flatMap fun i => (jD (rows.getD i []) q).map fun s => (i, s.1, s.2)
theorem oC (rows : HA) (q : List (List Pt)) (n : Nat) : jd rows q (n + 1) = jd rows q n ++ (jD (rows.getD n []) q).map fun s => (n, s.1, s.2) := by
 unfold jd; rw [range_succ]; simp
theorem uG (row : HL) (q : List (List Pt)) : (jD row q).length <= (row.length + 1) * (row.length + 1) := jI q _ (Nat.le_refl _)
theorem jO {row : HL} (h : row.length <= 13) (q : List (List Pt)) : (jD row q).length <= 196 := Nat.le_trans (uG row q) (Nat.mul_le_mul (by omega) (by omega) : _ <= 14 * 14)
theorem mN {rows : HA} (h : ∀ r ∈ rows, r.length <= 13) (q : List (List Pt)) : ∀ n, n <= rows.length -> (jd rows q n).length <= n * 196
 | 0, _ => by simp [jd]
 | n + 1, hn => by
  rw [oC, List.length_append, length_map, Nat.succ_mul];have h1 := mN h q n (by omega);have h2 := jO (h _ (getD_mem (d := []) (show n < rows.length by omega))) q;omega
theorem DQ (t : Nat × Nat × Nat) : (wD t).dep <= 1 := by simp [wD, D.dep, cu]
theorem w8 (ts : List (Nat × Nat × Nat)) : bj (ts.map wD) = true := cO fun d hd => by obtain ⟨i, _, rfl⟩ := mem_map.mp hd; rfl
theorem vK (ts : List (Nat × Nat × Nat)) : (D.lst (ts.map wD)).dep <= 2 := mh fun d hd => by obtain ⟨i, _, rfl⟩ := mem_map.mp hd; exact DQ i
end Y
namespace Y
open PySem
namespace Tb
def fQ (m : Nat) (h : Int) : Nat -> Nat × Nat
 | 0 => (SetTable.bits h % (m + 1), SetTable.bits h)
 | k + 1 => SetTable.leap m (fQ m h k).1 (fQ m h k).2
def Hy (m : Nat) (p : SetTable.Probe) : SetTable.Probe := if p.more > 0 then { p with j := p.j + 1, more := p.more - 1 } else
 { p with j := (SetTable.leap m p.i p.perturb).1, more := SetTable.runEnd m (SetTable.leap m p.i p.perturb).1 - (SetTable.leap m p.i p.perturb).1, i := (SetTable.leap m p.i p.perturb).1, perturb := (SetTable.leap m p.i p.perturb).2 }
def top (m i q : Nat) : SetTable.Probe := { j := i, more := SetTable.runEnd m i - i, i := i, perturb := q, dummy := none }
def sq (m : Nat) (h : Int) : Nat -> SetTable.Probe
 | 0 => top m (SetTable.bits h % (m + 1)) (SetTable.bits h)
 | n + 1 => Hy m (sq m h n)
def js (m : Nat) (h : Int) (n : Nat) : Nat := (sq m h n).j
def bs (m : Nat) (h : Int) : Nat -> Nat
 | 0 => 0
 | k + 1 => bs m h k + (SetTable.runEnd m (fQ m h k).1 - (fQ m h k).1) + 1
end Tb
end Y
namespace Y
open PySem
namespace Tb
def Up (xs : HN) : Prop := xs.Pairwise (· < ·)
end Tb
end Y
namespace Y
open PySem
namespace Tb
end Tb
end Y
namespace Y
open PySem
namespace Tb
end Tb
end Y
namespace Y
open PySem PySem.Spec PyProof.Rows L2 PySem.SeqAt AutoSeq1 MeetsSeq MeetsSeq2 MeetsSeq3
def cI (op : CmpOp) (A : Around) (s : Shared) (y x : Value) (b : Bool) : Prop :=
 ∀ (prog : Program) (w : World) (E : HB) (Q : HB), Q (.bool b) s -> wpAny (model prog w) A (richCompare op y x) Q E s
def aM (e r : Nat -> Bool) (z : Bool) : List Nat -> Bool
 | [] => z
 | j :: js => if e j then aM e r z js else r j
theorem C4 (l b : Addr) (its its2 : HG) (n n2 : Nat) (dd dd2 : HH) (sl sl2 : HD) (e r : Nat -> Bool) (k : Nat) :
 ∀ i : Nat, min its.size its2.size - i = k -> Meets (Builtin.«list.__eq__.loop» ⟨[.ref l, .ref b, rawInt i, rawInt 0], []⟩)
  (fun A R s => s.heap.get? l = some { cls := .type "list", dict := dd, data := .seq its n, slots := sl } /\ s.heap.get? b = some { cls := .type "list", dict := dd2, data := .seq its2 n2, slots := sl2 } /\
   (∀ j (h1 : j < its.size) (h2 : j < its2.size), EqAt A.in1 s its[j] its2[j] (e j)) /\ (∀ j (h1 : j < its.size) (h2 : j < its2.size), e j = false -> cI .Lt A.in1 s its[j] its2[j] (r j)) /\
   R (.ok (.ret (.bool (aM e r (decide (its.size < its2.size)) ((List.range (min its.size its2.size)).drop i))))) s) := by
 induction k with
 | zero =>
  intro i hk prog w A R s hyp;obtain ⟨hp, g, d, tk, os⟩ := s;obtain ⟨hl, hb, he, ho, fin⟩ := hyp;wp_walk using wpAny_loadPart' hl, wpAny_loadPart' hb;have hd : (List.range (min its.size its2.size)).drop i = [] := by simp; omega
  rw [hd] at fin;by_cases h1 : i < its.size
  . have e1 : its[((i : Nat) : Int).toNat]? = some its[i] := by simp [h1]
    have e2 : its2[((i : Nat) : Int).toNat]? = none := by simp; omega
    rw [e1, e2];wp_walk using wpAny_loadPart' hl, wpAny_loadPart' hb;exact fin
  . have e1 : its[((i : Nat) : Int).toNat]? = none := by simp; omega
    rw [e1];cases e2 : its2[((i : Nat) : Int).toNat]?
    . wp_walk using wpAny_loadPart' hl, wpAny_loadPart' hb;exact fin
    . wp_walk using wpAny_loadPart' hl, wpAny_loadPart' hb;exact fin
 | succ k ih =>
  intro i hk prog w A R s hyp;obtain ⟨hp, g, d, tk, os⟩ := s;obtain ⟨hl, hb, he, ho, fin⟩ := hyp;wp_walk using wpAny_loadPart' hl, wpAny_loadPart' hb;have h1 : i < its.size := by omega
  have h2 : i < its2.size := by omega
  have e1 : its[((i : Nat) : Int).toNat]? = some its[i] := by simp [h1]
  have e2 : its2[((i : Nat) : Int).toNat]? = some its2[i] := by simp [h2]
  have hm : i < min its.size its2.size := by omega
  have hd : (List.range (min its.size its2.size)).drop i = i :: (List.range (min its.size its2.size)).drop (i + 1) := by simp [List.drop_eq_getElem_cons, hm]
  have hc : ((i : Int) + 1) = ((i + 1 : Nat) : Int) := by push_cast; rfl
  rw [hd] at fin;rw [e1, e2];refine wpAny_bind (he i h1 h2 prog w _ _ ?_)
  cases hq : e i with
  | true =>
   have fin' : R (.ok (.ret (.bool (aM e r (decide (its.size < its2.size)) ((List.range (min its.size its2.size)).drop (i + 1)))))) ⟨hp, g, d, tk, os⟩ := by simpa [aM, hq] using fin
   wp_walk;rw [hc];exact ⟨plainId_quiet plain_eq_loop _, codeAny_builtin entry_eq_loop (by
    rw [Around.under_plainId plain_eq_loop _];exact ih (i + 1) (by omega) prog w A R _ ⟨hl, hb, he, ho, fin'⟩)⟩
  | false =>
   have fin' : R (.ok (.ret (.bool (r i)))) ⟨hp, g, d, tk, os⟩ := by simpa [aM, hq] using fin
   wp_walk using wpAny_loadPart' hl, wpAny_loadPart' hb;rw [e1, e2];refine wpAny_bind (ho i h1 h2 hq prog w _ _ ?_);wp_walk;exact fin'
theorem zh (l b : Addr) (its its2 : HG) (n n2 : Nat) (dd dd2 : HH) (sl sl2 : HD) (e r : Nat -> Bool) :
 Meets (Builtin.«list.__lt__» ⟨[.ref l, .ref b], []⟩)
  (fun A R s => s.heap.get? l = some { cls := .type "list", dict := dd, data := .seq its n, slots := sl } /\ s.heap.get? b = some { cls := .type "list", dict := dd2, data := .seq its2 n2, slots := sl2 } /\
   (∀ j (h1 : j < its.size) (h2 : j < its2.size), EqAt A.in1 s its[j] its2[j] (e j)) /\ (∀ j (h1 : j < its.size) (h2 : j < its2.size), e j = false -> cI .Lt A.in1 s its[j] its2[j] (r j)) /\
   R (.ok (.ret (.bool (aM e r (decide (its.size < its2.size)) (List.range (min its.size its2.size)))))) s) := by
 intro prog w A R s hyp;obtain ⟨hp, g, d, tk, os⟩ := s;obtain ⟨hl, hb, he, ho, fin⟩ := hyp;have f3 := AutoSeq1.sub_list_list;wp_walk using wpAny_loadPart' hl, wpAny_loadPart' hb
 all_goals exact ⟨plainId_quiet plain_eq_loop _, codeAny_builtin entry_eq_loop (by
  rw [Around.under_plainId plain_eq_loop _];exact C4 l b its its2 n n2 dd dd2 sl sl2 e r _ 0 rfl prog w A R _ ⟨hl, hb, he, ho, by simpa using fin⟩)⟩
theorem Ak {A : Around} {s : Shared} {l b : Addr} {its its2 : HG} {e r : Nat -> Bool} (hl : s.heap.IsList l its) (hb : s.heap.IsList b its2) (hu : A.units < cLine)
 (he : ∀ j (h1 : j < its.size) (h2 : j < its2.size), EqAt A.in1 s its[j] its2[j] (e j)) (ho : ∀ j (h1 : j < its.size) (h2 : j < its2.size), e j = false -> cI .Lt A.in1 s its[j] its2[j] (r j)) :
 cI .Lt A s (.ref l) (.ref b) (aM e r (decide (its.size < its2.size)) (List.range (min its.size its2.size))) := fun prog w E Q h => by
 obtain ⟨⟨cls, dd, data, sl⟩, g1, hc, n, hd⟩ := id hl;obtain ⟨⟨cls2, dd2, data2, sl2⟩, g2, hc2, n2, hd2⟩ := id hb;simp only at hc hd hc2 hd2;subst hc hd hc2 hd2;exact richCompare_meets_room (op := .Lt) ⟨_, g1, rfl⟩ ⟨_, g2, rfl⟩ F.slot_list_lt F.entry_list_lt (F.args_list_lt_2 _ _) (zh l b its its2 n n2 dd dd2 sl sl2 e r)
  ⟨g1, g2, he, ho, (fun x => nomatch x), h⟩ hu
theorem A2 (l b : Addr) (its its2 : HG) (n n2 : Nat) (dd dd2 : HH) (sl sl2 : HD) (e r : Nat -> Bool) :
 Meets (Builtin.«tuple.__lt__» ⟨[.ref l, .ref b], []⟩)
  (fun A R s => s.heap.get? l = some { cls := .type "tuple", dict := dd, data := .seq its n, slots := sl } /\ s.heap.get? b = some { cls := .type "tuple", dict := dd2, data := .seq its2 n2, slots := sl2 } /\
   (∀ j (h1 : j < its.size) (h2 : j < its2.size), EqAt A.in1 s its[j] its2[j] (e j)) /\ (∀ j (h1 : j < its.size) (h2 : j < its2.size), e j = false -> cI .Lt A.in1 s its[j] its2[j] (r j)) /\
   R (.ok (.ret (.bool (aM e r (decide (its.size < its2.size)) (List.range (min its.size its2.size)))))) s) :=
 .of_wp fun prog w A R s hyp => by
  obtain ⟨hp, g, d, tk, os⟩ := s;obtain ⟨hl, hb, he, ho, fin⟩ := hyp;have f2 := AutoSeq1.sub_tuple_tuple;have hZ : (its.toList.zip its2.toList).length = min its.size its2.size := by simp
  wp_walk using wpAny_loadPart' hl, wpAny_loadPart' hb, wpAny_forIn_list _ (fun rest c s' => c.1 = none /\ s' = ⟨hp, g, d, tk, os⟩ /\ ∃ i, rest = (its.toList.zip its2.toList).drop i /\
   R (.ok (.ret (.bool (aM e r (decide (its.size < its2.size)) ((List.range (min its.size its2.size)).drop i))))) ⟨hp, g, d, tk, os⟩) _
  case turn =>
   rintro ⟨y, x⟩ rest c s' ⟨hc', rfl, i, hz, hR⟩;have hlt : i < (its.toList.zip its2.toList).length := by
    rcases Nat.lt_or_ge i (its.toList.zip its2.toList).length with q | q
    . exact q
    . rw [List.drop_of_length_le q] at hz; cases hz
   have hm : i < min its.size its2.size := by omega
   have h1 : i < its.size := by omega
   have h2 : i < its2.size := by omega
   rw [List.drop_eq_getElem_cons hlt] at hz;injection hz with hyx hrest;have hy : y = its[i] := by have t := congrArg Prod.fst hyx; simpa using t
   have hx : x = its2[i] := by have t := congrArg Prod.snd hyx; simpa using t
   subst hy hx;have hd : (List.range (min its.size its2.size)).drop i = i :: (List.range (min its.size its2.size)).drop (i + 1) := by simp [List.drop_eq_getElem_cons, hm]
   rw [hd] at hR;refine wpAny_bind (he i h1 h2 prog w _ _ ?_)
   cases hq : e i with
   | true =>
    have fin' : R (.ok (.ret (.bool (aM e r (decide (its.size < its2.size)) ((List.range (min its.size its2.size)).drop (i + 1)))))) ⟨hp, g, d, tk, os⟩ := by simpa [aM, hq] using hR
    wp_walk;exact ⟨rfl, rfl, i + 1, hrest, fin'⟩
   | false =>
    have fin' : R (.ok (.ret (.bool (r i)))) ⟨hp, g, d, tk, os⟩ := by simpa [aM, hq] using hR
    rw [if_pos (show (!false) = true from rfl)];refine wpAny_bind (wpAny_rule (wpAny_bind (ho i h1 h2 hq prog w _ _ ?_)));wp_walk;exact ⟨_, rfl, fin'⟩
  case fin =>
   rintro ⟨c1, c2⟩ s' ⟨hc', rfl, i, hz, hR⟩;simp only at hc';subst hc';have hge : min its.size its2.size <= i := by
    rcases Nat.lt_or_ge i (its.toList.zip its2.toList).length with q | q
    . rw [List.drop_eq_getElem_cons q] at hz; cases hz
    . omega
   rw [List.drop_of_length_le (by simpa using hge)] at hR;wp_walk;exact ⟨_, rfl, by simpa [Builtin.Tuple.tupleCompareSizes, aM] using hR⟩
  case h =>
   exact ⟨rfl, rfl, 0, rfl, by simpa using fin⟩
theorem Br {A : Around} {s : Shared} {l b : Addr} {its its2 : HG} {e r : Nat -> Bool} (hl : s.heap.IsTuple l its) (hb : s.heap.IsTuple b its2) (hu : A.units < cLine)
 (he : ∀ j (h1 : j < its.size) (h2 : j < its2.size), EqAt A.in1 s its[j] its2[j] (e j)) (ho : ∀ j (h1 : j < its.size) (h2 : j < its2.size), e j = false -> cI .Lt A.in1 s its[j] its2[j] (r j)) :
 cI .Lt A s (.ref l) (.ref b) (aM e r (decide (its.size < its2.size)) (List.range (min its.size its2.size))) := fun prog w E Q h => by
 obtain ⟨⟨cls, dd, data, sl⟩, g1, hc, n, hd⟩ := id hl;obtain ⟨⟨cls2, dd2, data2, sl2⟩, g2, hc2, n2, hd2⟩ := id hb;simp only at hc hd hc2 hd2;subst hc hd hc2 hd2;exact richCompare_meets_room (op := .Lt) ⟨_, g1, rfl⟩ ⟨_, g2, rfl⟩ F.slot_tuple_lt F.entry_tuple_lt (F.args_tuple_lt_2 _ _) (A2 l b its its2 n n2 dd dd2 sl sl2 e r)
  ⟨g1, g2, he, ho, (fun x => nomatch x), h⟩ hu
theorem Bp (l b : Addr) (its its2 : HG) (n n2 : Nat) (dd dd2 : HH) (sl sl2 : HD) (e r : Nat -> Bool) (k : Nat) :
 ∀ i : Nat, min its.size its2.size - i = k -> Meets (Builtin.«list.__eq__.loop» ⟨[.ref l, .ref b, rawInt i, rawInt 1], []⟩)
  (fun A R s => s.heap.get? l = some { cls := .type "list", dict := dd, data := .seq its n, slots := sl } /\ s.heap.get? b = some { cls := .type "list", dict := dd2, data := .seq its2 n2, slots := sl2 } /\
   (∀ j (h1 : j < its.size) (h2 : j < its2.size), EqAt A.in1 s its[j] its2[j] (e j)) /\ (∀ j (h1 : j < its.size) (h2 : j < its2.size), e j = false -> cI .LtE A.in1 s its[j] its2[j] (r j)) /\
   R (.ok (.ret (.bool (aM e r (decide (its.size <= its2.size)) ((List.range (min its.size its2.size)).drop i))))) s) := by
 induction k with
 | zero =>
  intro i hk prog w A R s hyp;obtain ⟨hp, g, d, tk, os⟩ := s;obtain ⟨hl, hb, he, ho, fin⟩ := hyp;wp_walk using wpAny_loadPart' hl, wpAny_loadPart' hb;have hd : (List.range (min its.size its2.size)).drop i = [] := by simp; omega
  rw [hd] at fin;by_cases h1 : i < its.size
  . have e1 : its[((i : Nat) : Int).toNat]? = some its[i] := by simp [h1]
    have e2 : its2[((i : Nat) : Int).toNat]? = none := by simp; omega
    rw [e1, e2];wp_walk using wpAny_loadPart' hl, wpAny_loadPart' hb;exact fin
  . have e1 : its[((i : Nat) : Int).toNat]? = none := by simp; omega
    rw [e1];cases e2 : its2[((i : Nat) : Int).toNat]?
    . wp_walk using wpAny_loadPart' hl, wpAny_loadPart' hb;exact fin
    . wp_walk using wpAny_loadPart' hl, wpAny_loadPart' hb;exact fin
 | succ k ih =>
  intro i hk prog w A R s hyp;obtain ⟨hp, g, d, tk, os⟩ := s;obtain ⟨hl, hb, he, ho, fin⟩ := hyp;wp_walk using wpAny_loadPart' hl, wpAny_loadPart' hb;have h1 : i < its.size := by omega
  have h2 : i < its2.size := by omega
  have e1 : its[((i : Nat) : Int).toNat]? = some its[i] := by simp [h1]
  have e2 : its2[((i : Nat) : Int).toNat]? = some its2[i] := by simp [h2]
  have hm : i < min its.size its2.size := by omega
  have hd : (List.range (min its.size its2.size)).drop i = i :: (List.range (min its.size its2.size)).drop (i + 1) := by simp [List.drop_eq_getElem_cons, hm]
  have hc : ((i : Int) + 1) = ((i + 1 : Nat) : Int) := by push_cast; rfl
  rw [hd] at fin;rw [e1, e2];refine wpAny_bind (he i h1 h2 prog w _ _ ?_)
  cases hq : e i with
  | true =>
   have fin' : R (.ok (.ret (.bool (aM e r (decide (its.size <= its2.size)) ((List.range (min its.size its2.size)).drop (i + 1)))))) ⟨hp, g, d, tk, os⟩ := by simpa [aM, hq] using fin
   wp_walk;rw [hc];exact ⟨plainId_quiet plain_eq_loop _, codeAny_builtin entry_eq_loop (by
    rw [Around.under_plainId plain_eq_loop _];exact ih (i + 1) (by omega) prog w A R _ ⟨hl, hb, he, ho, fin'⟩)⟩
  | false =>
   have fin' : R (.ok (.ret (.bool (r i)))) ⟨hp, g, d, tk, os⟩ := by simpa [aM, hq] using fin
   wp_walk using wpAny_loadPart' hl, wpAny_loadPart' hb;rw [e1, e2];refine wpAny_bind (ho i h1 h2 hq prog w _ _ ?_);wp_walk;exact fin'
theorem B4 (l b : Addr) (its its2 : HG) (n n2 : Nat) (dd dd2 : HH) (sl sl2 : HD) (e r : Nat -> Bool) :
 Meets (Builtin.«list.__le__» ⟨[.ref l, .ref b], []⟩)
  (fun A R s => s.heap.get? l = some { cls := .type "list", dict := dd, data := .seq its n, slots := sl } /\ s.heap.get? b = some { cls := .type "list", dict := dd2, data := .seq its2 n2, slots := sl2 } /\
   (∀ j (h1 : j < its.size) (h2 : j < its2.size), EqAt A.in1 s its[j] its2[j] (e j)) /\ (∀ j (h1 : j < its.size) (h2 : j < its2.size), e j = false -> cI .LtE A.in1 s its[j] its2[j] (r j)) /\
   R (.ok (.ret (.bool (aM e r (decide (its.size <= its2.size)) (List.range (min its.size its2.size)))))) s) := by
 intro prog w A R s hyp;obtain ⟨hp, g, d, tk, os⟩ := s;obtain ⟨hl, hb, he, ho, fin⟩ := hyp;have f3 := AutoSeq1.sub_list_list;wp_walk using wpAny_loadPart' hl, wpAny_loadPart' hb
 all_goals exact ⟨plainId_quiet plain_eq_loop _, codeAny_builtin entry_eq_loop (by
  rw [Around.under_plainId plain_eq_loop _];exact Bp l b its its2 n n2 dd dd2 sl sl2 e r _ 0 rfl prog w A R _ ⟨hl, hb, he, ho, by simpa using fin⟩)⟩
theorem xG {A : Around} {s : Shared} {l b : Addr} {its its2 : HG} {e r : Nat -> Bool} (hl : s.heap.IsList l its) (hb : s.heap.IsList b its2) (hu : A.units < cLine)
 (he : ∀ j (h1 : j < its.size) (h2 : j < its2.size), EqAt A.in1 s its[j] its2[j] (e j)) (ho : ∀ j (h1 : j < its.size) (h2 : j < its2.size), e j = false -> cI .LtE A.in1 s its[j] its2[j] (r j)) :
 cI .LtE A s (.ref l) (.ref b) (aM e r (decide (its.size <= its2.size)) (List.range (min its.size its2.size))) := fun prog w E Q h => by
 obtain ⟨⟨cls, dd, data, sl⟩, g1, hc, n, hd⟩ := id hl;obtain ⟨⟨cls2, dd2, data2, sl2⟩, g2, hc2, n2, hd2⟩ := id hb;simp only at hc hd hc2 hd2;subst hc hd hc2 hd2;exact richCompare_meets_room (op := .LtE) ⟨_, g1, rfl⟩ ⟨_, g2, rfl⟩ F.slot_list_le F.entry_list_le (F.args_list_le_2 _ _) (B4 l b its its2 n n2 dd dd2 sl sl2 e r)
  ⟨g1, g2, he, ho, (fun x => nomatch x), h⟩ hu
theorem AA (l b : Addr) (its its2 : HG) (n n2 : Nat) (dd dd2 : HH) (sl sl2 : HD) (e r : Nat -> Bool) :
 Meets (Builtin.«tuple.__le__» ⟨[.ref l, .ref b], []⟩)
  (fun A R s => s.heap.get? l = some { cls := .type "tuple", dict := dd, data := .seq its n, slots := sl } /\ s.heap.get? b = some { cls := .type "tuple", dict := dd2, data := .seq its2 n2, slots := sl2 } /\
   (∀ j (h1 : j < its.size) (h2 : j < its2.size), EqAt A.in1 s its[j] its2[j] (e j)) /\ (∀ j (h1 : j < its.size) (h2 : j < its2.size), e j = false -> cI .LtE A.in1 s its[j] its2[j] (r j)) /\
   R (.ok (.ret (.bool (aM e r (decide (its.size <= its2.size)) (List.range (min its.size its2.size)))))) s) :=
 .of_wp fun prog w A R s hyp => by
  obtain ⟨hp, g, d, tk, os⟩ := s;obtain ⟨hl, hb, he, ho, fin⟩ := hyp;have f2 := AutoSeq1.sub_tuple_tuple;have hZ : (its.toList.zip its2.toList).length = min its.size its2.size := by simp
  wp_walk using wpAny_loadPart' hl, wpAny_loadPart' hb, wpAny_forIn_list _ (fun rest c s' => c.1 = none /\ s' = ⟨hp, g, d, tk, os⟩ /\ ∃ i, rest = (its.toList.zip its2.toList).drop i /\
   R (.ok (.ret (.bool (aM e r (decide (its.size <= its2.size)) ((List.range (min its.size its2.size)).drop i))))) ⟨hp, g, d, tk, os⟩) _
  case turn =>
   rintro ⟨y, x⟩ rest c s' ⟨hc', rfl, i, hz, hR⟩;have hlt : i < (its.toList.zip its2.toList).length := by
    rcases Nat.lt_or_ge i (its.toList.zip its2.toList).length with q | q
    . exact q
    . rw [List.drop_of_length_le q] at hz; cases hz
   have hm : i < min its.size its2.size := by omega
   have h1 : i < its.size := by omega
   have h2 : i < its2.size := by omega
   rw [List.drop_eq_getElem_cons hlt] at hz;injection hz with hyx hrest;have hy : y = its[i] := by have t := congrArg Prod.fst hyx; simpa using t
   have hx : x = its2[i] := by have t := congrArg Prod.snd hyx; simpa using t
   subst hy hx;have hd : (List.range (min its.size its2.size)).drop i = i :: (List.range (min its.size its2.size)).drop (i + 1) := by simp [List.drop_eq_getElem_cons, hm]
   rw [hd] at hR;refine wpAny_bind (he i h1 h2 prog w _ _ ?_)
   cases hq : e i with
   | true =>
    have fin' : R (.ok (.ret (.bool (aM e r (decide (its.size <= its2.size)) ((List.range (min its.size its2.size)).drop (i + 1)))))) ⟨hp, g, d, tk, os⟩ := by simpa [aM, hq] using hR
    wp_walk;exact ⟨rfl, rfl, i + 1, hrest, fin'⟩
   | false =>
    have fin' : R (.ok (.ret (.bool (r i)))) ⟨hp, g, d, tk, os⟩ := by simpa [aM, hq] using hR
    rw [if_pos (show (!false) = true from rfl)];refine wpAny_bind (wpAny_rule (wpAny_bind (ho i h1 h2 hq prog w _ _ ?_)));wp_walk;exact ⟨_, rfl, fin'⟩
  case fin =>
   rintro ⟨c1, c2⟩ s' ⟨hc', rfl, i, hz, hR⟩;simp only at hc';subst hc';have hge : min its.size its2.size <= i := by
    rcases Nat.lt_or_ge i (its.toList.zip its2.toList).length with q | q
    . rw [List.drop_eq_getElem_cons q] at hz; cases hz
    . omega
   rw [List.drop_of_length_le (by simpa using hge)] at hR;wp_walk;exact ⟨_, rfl, by simpa [Builtin.Tuple.tupleCompareSizes, aM] using hR⟩
  case h =>
   exact ⟨rfl, rfl, 0, rfl, by simpa using fin⟩
theorem AK {A : Around} {s : Shared} {l b : Addr} {its its2 : HG} {e r : Nat -> Bool} (hl : s.heap.IsTuple l its) (hb : s.heap.IsTuple b its2) (hu : A.units < cLine)
 (he : ∀ j (h1 : j < its.size) (h2 : j < its2.size), EqAt A.in1 s its[j] its2[j] (e j)) (ho : ∀ j (h1 : j < its.size) (h2 : j < its2.size), e j = false -> cI .LtE A.in1 s its[j] its2[j] (r j)) :
 cI .LtE A s (.ref l) (.ref b) (aM e r (decide (its.size <= its2.size)) (List.range (min its.size its2.size))) := fun prog w E Q h => by
 obtain ⟨⟨cls, dd, data, sl⟩, g1, hc, n, hd⟩ := id hl;obtain ⟨⟨cls2, dd2, data2, sl2⟩, g2, hc2, n2, hd2⟩ := id hb;simp only at hc hd hc2 hd2;subst hc hd hc2 hd2;exact richCompare_meets_room (op := .LtE) ⟨_, g1, rfl⟩ ⟨_, g2, rfl⟩ F.slot_tuple_le F.entry_tuple_le (F.args_tuple_le_2 _ _) (AA l b its its2 n n2 dd dd2 sl sl2 e r)
  ⟨g1, g2, he, ho, (fun x => nomatch x), h⟩ hu
theorem Ce (l b : Addr) (its its2 : HG) (n n2 : Nat) (dd dd2 : HH) (sl sl2 : HD) (e r : Nat -> Bool) (k : Nat) :
 ∀ i : Nat, min its.size its2.size - i = k -> Meets (Builtin.«list.__eq__.loop» ⟨[.ref l, .ref b, rawInt i, rawInt 5], []⟩)
  (fun A R s => s.heap.get? l = some { cls := .type "list", dict := dd, data := .seq its n, slots := sl } /\ s.heap.get? b = some { cls := .type "list", dict := dd2, data := .seq its2 n2, slots := sl2 } /\
   (∀ j (h1 : j < its.size) (h2 : j < its2.size), EqAt A.in1 s its[j] its2[j] (e j)) /\ (∀ j (h1 : j < its.size) (h2 : j < its2.size), e j = false -> cI .GtE A.in1 s its[j] its2[j] (r j)) /\
   R (.ok (.ret (.bool (aM e r (decide (its.size ≥ its2.size)) ((List.range (min its.size its2.size)).drop i))))) s) := by
 induction k with
 | zero =>
  intro i hk prog w A R s hyp;obtain ⟨hp, g, d, tk, os⟩ := s;obtain ⟨hl, hb, he, ho, fin⟩ := hyp;wp_walk using wpAny_loadPart' hl, wpAny_loadPart' hb;have hd : (List.range (min its.size its2.size)).drop i = [] := by simp; omega
  rw [hd] at fin;by_cases h1 : i < its.size
  . have e1 : its[((i : Nat) : Int).toNat]? = some its[i] := by simp [h1]
    have e2 : its2[((i : Nat) : Int).toNat]? = none := by simp; omega
    rw [e1, e2];wp_walk using wpAny_loadPart' hl, wpAny_loadPart' hb;exact fin
  . have e1 : its[((i : Nat) : Int).toNat]? = none := by simp; omega
    rw [e1];cases e2 : its2[((i : Nat) : Int).toNat]?
    . wp_walk using wpAny_loadPart' hl, wpAny_loadPart' hb;exact fin
    . wp_walk using wpAny_loadPart' hl, wpAny_loadPart' hb;exact fin
 | succ k ih =>
  intro i hk prog w A R s hyp;obtain ⟨hp, g, d, tk, os⟩ := s;obtain ⟨hl, hb, he, ho, fin⟩ := hyp;wp_walk using wpAny_loadPart' hl, wpAny_loadPart' hb;have h1 : i < its.size := by omega
  have h2 : i < its2.size := by omega
  have e1 : its[((i : Nat) : Int).toNat]? = some its[i] := by simp [h1]
  have e2 : its2[((i : Nat) : Int).toNat]? = some its2[i] := by simp [h2]
  have hm : i < min its.size its2.size := by omega
  have hd : (List.range (min its.size its2.size)).drop i = i :: (List.range (min its.size its2.size)).drop (i + 1) := by simp [List.drop_eq_getElem_cons, hm]
  have hc : ((i : Int) + 1) = ((i + 1 : Nat) : Int) := by push_cast; rfl
  rw [hd] at fin;rw [e1, e2];refine wpAny_bind (he i h1 h2 prog w _ _ ?_)
  cases hq : e i with
  | true =>
   have fin' : R (.ok (.ret (.bool (aM e r (decide (its.size ≥ its2.size)) ((List.range (min its.size its2.size)).drop (i + 1)))))) ⟨hp, g, d, tk, os⟩ := by simpa [aM, hq] using fin
   wp_walk;rw [hc];exact ⟨plainId_quiet plain_eq_loop _, codeAny_builtin entry_eq_loop (by
    rw [Around.under_plainId plain_eq_loop _];exact ih (i + 1) (by omega) prog w A R _ ⟨hl, hb, he, ho, fin'⟩)⟩
  | false =>
   have fin' : R (.ok (.ret (.bool (r i)))) ⟨hp, g, d, tk, os⟩ := by simpa [aM, hq] using fin
   wp_walk using wpAny_loadPart' hl, wpAny_loadPart' hb;rw [e1, e2];refine wpAny_bind (ho i h1 h2 hq prog w _ _ ?_);wp_walk;exact fin'
theorem A0 (l b : Addr) (its its2 : HG) (n n2 : Nat) (dd dd2 : HH) (sl sl2 : HD) (e r : Nat -> Bool) :
 Meets (Builtin.«list.__ge__» ⟨[.ref l, .ref b], []⟩)
  (fun A R s => s.heap.get? l = some { cls := .type "list", dict := dd, data := .seq its n, slots := sl } /\ s.heap.get? b = some { cls := .type "list", dict := dd2, data := .seq its2 n2, slots := sl2 } /\
   (∀ j (h1 : j < its.size) (h2 : j < its2.size), EqAt A.in1 s its[j] its2[j] (e j)) /\ (∀ j (h1 : j < its.size) (h2 : j < its2.size), e j = false -> cI .GtE A.in1 s its[j] its2[j] (r j)) /\
   R (.ok (.ret (.bool (aM e r (decide (its.size ≥ its2.size)) (List.range (min its.size its2.size)))))) s) := by
 intro prog w A R s hyp;obtain ⟨hp, g, d, tk, os⟩ := s;obtain ⟨hl, hb, he, ho, fin⟩ := hyp;have f3 := AutoSeq1.sub_list_list;wp_walk using wpAny_loadPart' hl, wpAny_loadPart' hb
 all_goals exact ⟨plainId_quiet plain_eq_loop _, codeAny_builtin entry_eq_loop (by
  rw [Around.under_plainId plain_eq_loop _];exact Ce l b its its2 n n2 dd dd2 sl sl2 e r _ 0 rfl prog w A R _ ⟨hl, hb, he, ho, by simpa using fin⟩)⟩
theorem xr {A : Around} {s : Shared} {l b : Addr} {its its2 : HG} {e r : Nat -> Bool} (hl : s.heap.IsList l its) (hb : s.heap.IsList b its2) (hu : A.units < cLine)
 (he : ∀ j (h1 : j < its.size) (h2 : j < its2.size), EqAt A.in1 s its[j] its2[j] (e j)) (ho : ∀ j (h1 : j < its.size) (h2 : j < its2.size), e j = false -> cI .GtE A.in1 s its[j] its2[j] (r j)) :
 cI .GtE A s (.ref l) (.ref b) (aM e r (decide (its.size ≥ its2.size)) (List.range (min its.size its2.size))) := fun prog w E Q h => by
 obtain ⟨⟨cls, dd, data, sl⟩, g1, hc, n, hd⟩ := id hl;obtain ⟨⟨cls2, dd2, data2, sl2⟩, g2, hc2, n2, hd2⟩ := id hb;simp only at hc hd hc2 hd2;subst hc hd hc2 hd2;exact richCompare_meets_room (op := .GtE) ⟨_, g1, rfl⟩ ⟨_, g2, rfl⟩ F.slot_list_ge F.entry_list_ge (F.args_list_ge_2 _ _) (A0 l b its its2 n n2 dd dd2 sl sl2 e r)
  ⟨g1, g2, he, ho, (fun x => nomatch x), h⟩ hu
theorem Aj (l b : Addr) (its its2 : HG) (n n2 : Nat) (dd dd2 : HH) (sl sl2 : HD) (e r : Nat -> Bool) :
 Meets (Builtin.«tuple.__ge__» ⟨[.ref l, .ref b], []⟩)
  (fun A R s => s.heap.get? l = some { cls := .type "tuple", dict := dd, data := .seq its n, slots := sl } /\ s.heap.get? b = some { cls := .type "tuple", dict := dd2, data := .seq its2 n2, slots := sl2 } /\
   (∀ j (h1 : j < its.size) (h2 : j < its2.size), EqAt A.in1 s its[j] its2[j] (e j)) /\ (∀ j (h1 : j < its.size) (h2 : j < its2.size), e j = false -> cI .GtE A.in1 s its[j] its2[j] (r j)) /\
   R (.ok (.ret (.bool (aM e r (decide (its.size ≥ its2.size)) (List.range (min its.size its2.size)))))) s) :=
 .of_wp fun prog w A R s hyp => by
  obtain ⟨hp, g, d, tk, os⟩ := s;obtain ⟨hl, hb, he, ho, fin⟩ := hyp;have f2 := AutoSeq1.sub_tuple_tuple;have hZ : (its.toList.zip its2.toList).length = min its.size its2.size := by simp
  wp_walk using wpAny_loadPart' hl, wpAny_loadPart' hb, wpAny_forIn_list _ (fun rest c s' => c.1 = none /\ s' = ⟨hp, g, d, tk, os⟩ /\ ∃ i, rest = (its.toList.zip its2.toList).drop i /\
   R (.ok (.ret (.bool (aM e r (decide (its.size ≥ its2.size)) ((List.range (min its.size its2.size)).drop i))))) ⟨hp, g, d, tk, os⟩) _
  case turn =>
   rintro ⟨y, x⟩ rest c s' ⟨hc', rfl, i, hz, hR⟩;have hlt : i < (its.toList.zip its2.toList).length := by
    rcases Nat.lt_or_ge i (its.toList.zip its2.toList).length with q | q
    . exact q
    . rw [List.drop_of_length_le q] at hz; cases hz
   have hm : i < min its.size its2.size := by omega
   have h1 : i < its.size := by omega
   have h2 : i < its2.size := by omega
   rw [List.drop_eq_getElem_cons hlt] at hz;injection hz with hyx hrest;have hy : y = its[i] := by have t := congrArg Prod.fst hyx; simpa using t
   have hx : x = its2[i] := by have t := congrArg Prod.snd hyx; simpa using t
   subst hy hx;have hd : (List.range (min its.size its2.size)).drop i = i :: (List.range (min its.size its2.size)).drop (i + 1) := by simp [List.drop_eq_getElem_cons, hm]
   rw [hd] at hR;refine wpAny_bind (he i h1 h2 prog w _ _ ?_)
   cases hq : e i with
   | true =>
    have fin' : R (.ok (.ret (.bool (aM e r (decide (its.size ≥ its2.size)) ((List.range (min its.size its2.size)).drop (i + 1)))))) ⟨hp, g, d, tk, os⟩ := by simpa [aM, hq] using hR
    wp_walk;exact ⟨rfl, rfl, i + 1, hrest, fin'⟩
   | false =>
    have fin' : R (.ok (.ret (.bool (r i)))) ⟨hp, g, d, tk, os⟩ := by simpa [aM, hq] using hR
    rw [if_pos (show (!false) = true from rfl)];refine wpAny_bind (wpAny_rule (wpAny_bind (ho i h1 h2 hq prog w _ _ ?_)));wp_walk;exact ⟨_, rfl, fin'⟩
  case fin =>
   rintro ⟨c1, c2⟩ s' ⟨hc', rfl, i, hz, hR⟩;simp only at hc';subst hc';have hge : min its.size its2.size <= i := by
    rcases Nat.lt_or_ge i (its.toList.zip its2.toList).length with q | q
    . rw [List.drop_eq_getElem_cons q] at hz; cases hz
    . omega
   rw [List.drop_of_length_le (by simpa using hge)] at hR;wp_walk;exact ⟨_, rfl, by simpa [Builtin.Tuple.tupleCompareSizes, aM] using hR⟩
  case h =>
   exact ⟨rfl, rfl, 0, rfl, by simpa using fin⟩
theorem AJ {A : Around} {s : Shared} {l b : Addr} {its its2 : HG} {e r : Nat -> Bool} (hl : s.heap.IsTuple l its) (hb : s.heap.IsTuple b its2) (hu : A.units < cLine)
 (he : ∀ j (h1 : j < its.size) (h2 : j < its2.size), EqAt A.in1 s its[j] its2[j] (e j)) (ho : ∀ j (h1 : j < its.size) (h2 : j < its2.size), e j = false -> cI .GtE A.in1 s its[j] its2[j] (r j)) :
 cI .GtE A s (.ref l) (.ref b) (aM e r (decide (its.size ≥ its2.size)) (List.range (min its.size its2.size))) := fun prog w E Q h => by
 obtain ⟨⟨cls, dd, data, sl⟩, g1, hc, n, hd⟩ := id hl;obtain ⟨⟨cls2, dd2, data2, sl2⟩, g2, hc2, n2, hd2⟩ := id hb;simp only at hc hd hc2 hd2;subst hc hd hc2 hd2;exact richCompare_meets_room (op := .GtE) ⟨_, g1, rfl⟩ ⟨_, g2, rfl⟩ F.slot_tuple_ge F.entry_tuple_ge (F.args_tuple_ge_2 _ _) (Aj l b its its2 n n2 dd dd2 sl sl2 e r)
  ⟨g1, g2, he, ho, (fun x => nomatch x), h⟩ hu
end Y
namespace Y
open PySem PySem.Spec PyProof.Rows L2 PySem.SeqAt
variable [cq]
inductive Od where
 | lt | le | ge
def Od.op : Od -> CmpOp
 | .lt => .Lt
 | .le => .LtE
 | .ge => .GtE
def Od.sz : Od -> Nat -> Nat -> Bool
 | .lt, m, n => decide (m < n)
 | .le, m, n => decide (m <= n)
 | .ge, m, n => decide (m ≥ n)
def Od.int : Od -> Int -> Int -> Bool
 | .lt, m, n => decide (m < n)
 | .le, m, n => decide (m <= n)
 | .ge, m, n => decide (n <= m)
def Od.str : Od -> Str -> Str -> Bool
 | .lt, a, b => decide (cl a < cl b)
 | .le, a, b => !decide (cl b < cl a)
 | .ge, a, b => !decide (cl a < cl b)
mutual
def bD (o : Od) : D -> D -> Bool
 | .int a, .int b => o.int a b
 | .str a, .str b => o.str a b
 | .lst a, .lst b => bQ o a b
 | .tup a, .tup b => bQ o a b
 | _, _ => false
def bQ (o : Od) : List D -> List D -> Bool
 | [], bs => o.sz 0 bs.length
 | a :: as, [] => o.sz (as.length + 1) 0
 | a :: as, b :: bs => if aV a b then bQ o as bs else bD o a b
end
mutual
def cD : D -> D -> Bool
 | .int _, .int _ => true
 | .str _, .str _ => true
 | .lst a, .lst b => fe a b
 | .tup a, .tup b => fe a b
 | _, _ => false
def fe : List D -> List D -> Bool
 | [], _ => true
 | _ :: _, [] => true
 | a :: as, b :: bs => cD a b && fe as bs
end
theorem Od.BP (o : Od) (m n : Nat) : o.sz (m + 1) (n + 1) = o.sz m n := by cases o <;> simp [Od.sz]
theorem rM (e r : Nat -> Bool) (z : Bool) : ∀ l : List Nat, aM e r z (l.map Nat.succ) = aM (fun j => e (j + 1)) (fun j => r (j + 1)) z l
 | [] => rfl
 | j :: l => by
  rw [map_cons, aM, aM, rM e r z l]
theorem iF (o : Od) : ∀ (ds es : List D), aM (fun j => aV (ds.getD j .non) (es.getD j .non)) (fun j => bD o (ds.getD j .non) (es.getD j .non)) (o.sz ds.length es.length) (List.range (min ds.length es.length)) = bQ o ds es
 | [], es => by simp [aM, bQ]
 | a :: as, [] => by simp [aM, bQ]
 | a :: as, b :: bs => by
  have ih := iF o as bs;have hm : min (a :: as).length (b :: bs).length = min as.length bs.length + 1 := by simp <;> omega
  rw [hm, List.range_succ_eq_map, aM, rM, bQ];simp only [List.getD_cons_zero, List.getD_cons_succ, length_cons, Od.BP];rw [ih]
theorem nC : ∀ (ds es : List D), fe ds es = true -> ∀ j, j < ds.length -> j < es.length -> cD (ds.getD j .non) (es.getD j .non) = true
 | [], es, _, j, h, _ => by simp at h
 | a :: as, [], _, j, _, h => by simp at h
 | a :: as, b :: bs, hc, j, h1, h2 => by
  unfold fe at hc;rw [Bool.and_eq_true] at hc
  cases j with
  | zero => exact hc.1
  | succ j => exact nC as bs hc.2 j (by simpa using h1) (by simpa using h2)
section
variable {X : Cx} {pins : HI} {σ : St} {H : Hp} {s : Shared} {Z Z' : aE}
theorem DI (o : Od) {A : Around} (a b : Int) (t u : Tok) : cI o.op A s (.int a t) (.int b u) (o.int a b) := fun prog w E Q h => by
 cases o
 . exact PyProof.Rows.lt_int h
 . exact PyProof.Rows.le_int h
 . exact PyProof.Rows.ge_int h
theorem C7 (o : Od) {A : Around} (a b : Str) (t u : Tok) : cI o.op A s (.str a t) (.str b u) (o.str a b) := fun prog w E Q h => by
 cases o
 . exact PyProof.Rows.lt_str h
 . exact PySem.P.le_str h
 . exact PySem.P.ge_str h
theorem Hl (o : Od) {A : Around} {l b : Addr} {its its2 : HG} {e r : Nat -> Bool} (hl : s.heap.IsList l its) (hb : s.heap.IsList b its2) (hu : A.units < cLine)
 (he : ∀ j (h1 : j < its.size) (h2 : j < its2.size), EqAt A.in1 s its[j] its2[j] (e j)) (ho : ∀ j (h1 : j < its.size) (h2 : j < its2.size), e j = false -> cI o.op A.in1 s its[j] its2[j] (r j)) :
 cI o.op A s (.ref l) (.ref b) (aM e r (o.sz its.size its2.size) (List.range (min its.size its2.size))) := by
 cases o
 . exact Ak hl hb hu he ho
 . exact xG hl hb hu he ho
 . exact xr hl hb hu he ho
theorem Ho (o : Od) {A : Around} {l b : Addr} {its its2 : HG} {e r : Nat -> Bool} (hl : s.heap.IsTuple l its) (hb : s.heap.IsTuple b its2) (hu : A.units < cLine)
 (he : ∀ j (h1 : j < its.size) (h2 : j < its2.size), EqAt A.in1 s its[j] its2[j] (e j)) (ho : ∀ j (h1 : j < its.size) (h2 : j < its2.size), e j = false -> cI o.op A.in1 s its[j] its2[j] (r j)) :
 cI o.op A s (.ref l) (.ref b) (aM e r (o.sz its.size its2.size) (List.range (min its.size its2.size))) := by
 cases o
 . exact Br hl hb hu he ho
 . exact AK hl hb hu he ho
 . exact AJ hl hb hu he ho
theorem m5 (o : Od) (I : Inv X pins σ H s) : ∀ (n : Nat) {A : Around} {d d' : D} {v v' : V} {u u' : Value}, In X.K H Z d v -> In X.K H Z' d' v' -> RelV v u -> RelV v' u' -> cD d d' = true -> d.dep <= n -> A.units + n < cLine -> cI o.op A s u u' (bD o d d') := by
 intro n
 induction n with
 | zero =>
  intro A d d' v v' u u' i i' r r' hc hd hu
  cases d with
  | non => cases d' <;> simp [cD] at hc
  | bl x => cases d' <;> simp [cD] at hc
  | dct x => cases d' <;> simp [cD] at hc
  | ktup x => cases d' <;> simp [cD] at hc
  | agg s x => cases d' <;> simp [cD] at hc
  | lst ds => unfold D.dep at hd; omega
  | tup ds => unfold D.dep at hd; omega
  | int x =>
   cases d' <;> simp [cD] at hc;cases ao.mp i;cases ao.mp i';obtain ⟨t, rfl⟩ := r;obtain ⟨t', rfl⟩ := r';simp only [bD];exact DI o _ _ _ _
  | str x =>
   cases d' <;> simp [cD] at hc;cases in_str.mp i;cases in_str.mp i';obtain ⟨t, rfl⟩ := r;obtain ⟨t', rfl⟩ := r';simp only [bD];exact C7 o _ _ _ _
 | succ n ih =>
  intro A d d' v v' u u' i i' r r' hc hd hu;have hu0 : A.units < cLine := by omega
  have hu1 : A.in1.units + n < cLine := by show A.units + 1 + n < cLine; omega
  have both : ∀ {ds es : List D} {xs ys : List V} {its its2 : HF}, cu ds <= n -> fe ds es = true -> aH X.K H Z ds xs -> aH X.K H Z' es ys -> Vals xs its -> Vals ys its2 -> ∀ j (h1 : j < its.toArray.size) (h2 : j < its2.toArray.size),
   EqAt A.in1 s its.toArray[j] its2.toArray[j] (aV (ds.getD j .non) (es.getD j .non)) /\ cI o.op A.in1 s its.toArray[j] its2.toArray[j] (bD o (ds.getD j .non) (es.getD j .non)) := fun {ds es xs ys its its2} hdn hcs jx jy rx ry j h1 h2 => by
   have z1 := jx.length; have z2 := jy.length; have z3 := rx.length; have z4 := ry.length;simp at h1 h2;have k1 : j < ds.length := by omega
   have k2 : j < es.length := by omega
   obtain ⟨x, ex, ix⟩ := jx.get (i := j) (d := ds[j]) (by simp [k1]);obtain ⟨y, ey, iy⟩ := jy.get (i := j) (d := es[j]) (by simp [k2]);obtain ⟨w1, f1, q1⟩ := rx.get ex;obtain ⟨w2, f2, q2⟩ := ry.get ey;have g1 : its.toArray[j] = w1 := by
    have t := (List.getElem?_eq_some_iff.mp f1).2;simpa using t
   have g2 : its2.toArray[j] = w2 := by
    have t := (List.getElem?_eq_some_iff.mp f2).2;simpa using t
   have hcj := nC ds es hcs j k1 k2;have e1 : ds.getD j .non = ds[j] := by simp [k1]
   have e2 : es.getD j .non = es[j] := by simp [k2]
   rw [e1, e2] at hcj ⊢;rw [g1, g2];have hdj := Nat.le_trans (fL (getElem_mem k1)) hdn;exact ⟨nr I n ix iy q1 q2 hdj hu1, ih ix iy q1 q2 hcj hdj hu1⟩
  cases d with
  | non => cases d' <;> simp [cD] at hc
  | bl x => cases d' <;> simp [cD] at hc
  | dct x => cases d' <;> simp [cD] at hc
  | ktup x => cases d' <;> simp [cD] at hc
  | agg s x => cases d' <;> simp [cD] at hc
  | int x => exact ih i i' r r' hc (by simp [D.dep]) (by omega)
  | str x => exact ih i i' r r' hc (by simp [D.dep]) (by omega)
  | lst ds =>
   have hdn : cu ds <= n := by unfold D.dep at hd; omega
   cases d' with
   | lst es =>
    have hcs : fe ds es = true := by simpa [cD] using hc
    obtain ⟨a, xs, rfl, l, j⟩ := av.mp i;obtain ⟨a', ys, rfl, l', j'⟩ := av.mp i';cases r;cases r';obtain ⟨its, rx, pl, _⟩ := I.list l.sq;obtain ⟨its2, ry, pl2, _⟩ := I.list l'.sq;have z1 := j.length; have z2 := j'.length; have z3 := rx.length; have z4 := ry.length;have key := Hl o (e := fun k => aV (ds.getD k .non) (es.getD k .non)) (r := fun k => bD o (ds.getD k .non) (es.getD k .non)) pl.isList pl2.isList hu0 (fun k h1 h2 => (both hdn hcs j j' rx ry k h1 h2).1) (fun k h1 h2 _ => (both hdn hcs j j' rx ry k h1 h2).2);have e1 : its.toArray.size = ds.length := by simp; omega
    have e2 : its2.toArray.size = es.length := by simp; omega
    rw [e1, e2, iF] at key;simpa only [bD] using key
   | _ => simp [cD] at hc
  | tup ds =>
   have hdn : cu ds <= n := by unfold D.dep at hd; omega
   cases d' with
   | tup es =>
    have hcs : fe ds es = true := by simpa [cD] using hc
    obtain ⟨a, xs, rfl, l, j⟩ := aN i;obtain ⟨a', ys, rfl, l', j'⟩ := aN i';cases r;cases r';obtain ⟨its, rx, pl, _⟩ := I.tuple l;obtain ⟨its2, ry, pl2, _⟩ := I.tuple l';have z1 := j.length; have z2 := j'.length; have z3 := rx.length; have z4 := ry.length;have key := Ho o (e := fun k => aV (ds.getD k .non) (es.getD k .non)) (r := fun k => bD o (ds.getD k .non) (es.getD k .non)) pl pl2 hu0 (fun k h1 h2 => (both hdn hcs j j' rx ry k h1 h2).1) (fun k h1 h2 _ => (both hdn hcs j j' rx ry k h1 h2).2);have e1 : its.toArray.size = ds.length := by simp; omega
    have e2 : its2.toArray.size = es.length := by simp; omega
    rw [e1, e2, iF] at key;simpa only [bD] using key
   | _ => simp [cD] at hc
end
section
variable {X : Cx}
theorem zx (o : Od) : iV X (compareOp o.op) (fun x y H Q => ∃ d d' Z Z', In X.K H Z d x /\ In X.K H Z' d' y /\ cD d d' = true /\ X.A.units + d.dep < cLine /\ Q (.bl (bD o d d')) H) := by
 intro pins s σ H x y v u Q I rx ry h;obtain ⟨d, d', Z, Z', i, i', hc, hu, q⟩ := h;have key := m5 o I d.dep i i' rx ry hc (Nat.le_refl _) hu X.prog X.w X.xe (EP X pins σ Q) ⟨.bl (bD o d d'), H, I, rfl, q⟩;cases o <;> exact key
variable {ρ : List (Option D)} {m1 m2 : Bool} {a b : Expr} {d d' : D} {pos : Pos}
theorem Fe (ha : E X m1 ρ a d) (hb : E X m2 ρ b d') (hp : cD d d' = true) (hu : X.A.units + d.dep < cLine) : E X true ρ (.Compare a [.Lt] [b] pos) (.bl (bD .lt d d')) :=
 r8 (zx .lt) ha hb (fun x y H Z Q _ i1 i2 k => ⟨d, d', Z, Z, i1, i2, hp, hu, k _ _ (au.refl H) (aR.mpr rfl)⟩) (fc _)
theorem EF (ha : E X m1 ρ a d) (hb : E X m2 ρ b d') (hp : cD d d' = true) (hu : X.A.units + d.dep < cLine) : E X true ρ (.Compare a [.LtE] [b] pos) (.bl (bD .le d d')) :=
 r8 (zx .le) ha hb (fun x y H Z Q _ i1 i2 k => ⟨d, d', Z, Z, i1, i2, hp, hu, k _ _ (au.refl H) (aR.mpr rfl)⟩) (fc _)
end
end Y
namespace Y
open PySem PySem.Spec PyProof.Rows L2
structure SB (kd : SortKind) (a0 : Array Keyed) (st : SortSt) : Prop where
 pm : (arrOf st).Perm a0
 kd : kindOf st = kd
 ok : failedOf st = none
 pd : pendingOf st = #[]
section
variable {kd : SortKind} {a0 : Array Keyed} {κ : PyProof.Rows.KeyKind} {st : SortSt}
theorem SB.sz (h : SB kd a0 st) : (arrOf st).size = a0.size := h.pm.size_eq
theorem SB.arr (h : SB kd a0 st) {xs : Array Keyed} (p : xs.Perm (arrOf st)) : SB kd a0 (setArr st xs) := ⟨p.trans h.pm, h.kd, h.ok, h.pd⟩
abbrev ky (κ : PyProof.Rows.KeyKind) (st : SortSt) (i : Nat) : κ.α := KK κ (arrOf st) i
abbrev Up (κ : PyProof.Rows.KeyKind) (st : SortSt) (n : Nat) : Prop := SortedToK κ (arrOf st) n
abbrev Down (κ : PyProof.Rows.KeyKind) (st : SortSt) (n : Nat) : Prop := NonIncK κ (arrOf st) n
theorem AX {xs : Array Keyed} {n : Nat} (h : SortedToK κ xs n) (h1 : n = 0 \/ κ.kle (KK κ xs (n - 1)) (KK κ xs n)) : SortedToK κ xs (n + 1) := fun i j le lt => by
 rcases Nat.lt_or_ge j n with a | a
 . exact h i j le a
 . obtain rfl : j = n := by omega
   rcases Nat.lt_or_ge i j with b | b
   . rcases h1 with z | z
     . omega
     . exact KeyOrd.kle_trans (h i (j - 1) (by omega) (by omega)) z
   . obtain rfl : i = j := by omega
     exact KeyOrd.kle_refl _
theorem iR {xs : Array Keyed} {n : Nat} (h : NonIncK κ xs n) (h1 : n = 0 \/ κ.kle (KK κ xs n) (KK κ xs (n - 1))) : NonIncK κ xs (n + 1) := fun i j le lt => by
 rcases Nat.lt_or_ge j n with a | a
 . exact h i j le a
 . obtain rfl : j = n := by omega
   rcases Nat.lt_or_ge i j with b | b
   . rcases h1 with z | z
     . omega
     . exact KeyOrd.kle_trans z (h i (j - 1) (by omega) (by omega))
   . obtain rfl : i = j := by omega
     exact KeyOrd.kle_refl _
theorem DW {xs : Array Keyed} : SortedToK κ xs 1 := fun i j le lt => by
 obtain rfl : i = j := by omega
 exact KeyOrd.kle_refl _
theorem gf {xs ys : Array Keyed} {n : Nat} (h : NonIncK κ xs n) (e : ∀ k, KK κ ys k = KK κ xs k) : NonIncK κ ys n := fun i j le lt => by
 rw [e, e]; exact h i j le lt
variable {prog : Program} {w : World} {A : Around} {E : HB} {s : Shared}
def pU (κ : PyProof.Rows.KeyKind) (kd : SortKind) (a0 : Array Keyed) (prog : Program) (w : World) (A : Around) (E : HB) (s : Shared) : Prop :=
 ∀ (st : SortSt) (i j : Nat) (Q : Option Bool -> SortSt -> Prop), SB kd a0 st -> i < a0.size -> j < a0.size -> Q (some (κ.blt (ky κ st i) (ky κ st j))) st -> wpS (model prog w) A E s (ltAt' i j) Q st
theorem zf (hA : pU κ kd a0 prog w A E s) {a n : Nat} {Q : AscSt -> SortSt -> Prop} (hn : n <= a0.size) (ha : 1 <= a) (han : a <= n) (hB : SB kd a0 st) (hs : Up κ st a)
 (fin : ∀ m, a <= m -> m <= n -> Up κ st m -> (m = n \/ κ.klt (ky κ st m) (ky κ st (m - 1))) -> Q (none, m) st) : wpS (model prog w) A E s (ascLoop a n) Q st := by
 unfold ascLoop;refine wpS_forRange (I := fun m c t => (t = st /\ c = (none, m)) /\ Up κ st m) (fun m c t g1 g2 ⟨⟨e1, e2⟩, up⟩ => ?_) (fun c t ⟨⟨e1, e2⟩, up⟩ => ?_) ⟨⟨rfl, rfl⟩, hs⟩
 . subst e1 e2;dsimp only;refine wpS_bind (hA t m (m - 1) _ hB (by omega) (by omega) ?_)
   cases q : κ.blt (ky κ t m) (ky κ t (m - 1)) with
   | true => dsimp only; rw [if_pos rfl]; exact wpS_pure (fin m g1 (by omega) up (.inr q))
   | false => dsimp only; rw [if_neg Bool.false_ne_true]; exact wpS_pure ⟨⟨rfl, rfl⟩, AX up (.inr q)⟩
 . subst e1 e2;have e : max a n = n := by omega
   rw [e] at up ⊢;exact fin n han (Nat.le_refl n) up (.inl rfl)
theorem rJ (hA : pU κ kd a0 prog w A E s) {m n : Nat} {Q : Option Nat -> SortSt -> Prop} (hn : n <= a0.size) (h1 : 1 <= m) (hm : m <= n) (hB : SB kd a0 st) (hs : Down κ st m)
 (fin : ∀ k t, SB kd a0 t -> 1 <= k -> k <= n -> Up κ t k -> Q (some k) t) : wpS (model prog w) A E s (tail3 m n) Q st := by
 unfold tail3;have hz : m <= (arrOf st).size := by rw [hB.sz]; omega
 have hB2 := hB.arr (mirror_perm (arrOf st) 0 m ((m - 0) / 2));have up : Up κ (setArr st (mirror (arrOf st) 0 m ((m - 0) / 2))) m := fun i j le lt => by
  have e : ∀ k, k < m -> KK κ (mirror (arrOf st) 0 m ((m - 0) / 2)) k = KK κ (arrOf st) (0 + m - 1 - k) := fun k hk => by rw [KK_mirror hz, if_pos ⟨Nat.zero_le k, hk⟩]
  show κ.kle (KK κ (mirror (arrOf st) 0 m ((m - 0) / 2)) i) (KK κ (mirror (arrOf st) 0 m ((m - 0) / 2)) j);rw [e i (by omega), e j lt];exact hs _ _ (by omega) (by omega)
 exact wpS_bind (wpS_reverse (wpS_bind (zf hA hn h1 hm hB2 up fun k a b c _ => wpS_pure (fin k _ hB2 (by omega) b c))))
theorem AD (hA : pU κ kd a0 prog w A E s) {m n : Nat} {Q : DescSt -> SortSt -> Prop} (hn : n <= a0.size) (h1 : 1 <= m) (hm : m <= n) (hB : SB kd a0 st) (hs : Down κ st m)
 (fin : ∀ k q t, SB kd a0 t -> m <= k -> k <= n -> Down κ t k -> q + 1 <= k -> (∀ i, k - (q + 1) <= i -> i < k -> ky κ t i = ky κ t (k - 1)) -> Q (none, k, q) t) : wpS (model prog w) A E s (descLoop m n) Q st := by
 unfold descLoop;refine wpS_forRange (I := fun k c t => ∃ q, c = (none, k, q) /\ SB kd a0 t /\ Down κ t k /\ q + 1 <= k /\ ∀ i, k - (q + 1) <= i -> i < k -> ky κ t i = ky κ t (k - 1)) (fun k c t g1 g2 ⟨q, e, hb, dn, hq, same⟩ => ?_) (fun c t ⟨q, e, hb, dn, hq, same⟩ => ?_) ⟨0, rfl, hB, hs, by omega, fun i a b => by rw [show i = m - 1 by omega]⟩
 . subst e;dsimp only;have hz : k <= (arrOf t).size := by rw [hb.sz]; omega
   refine wpS_bind (hA t k (k - 1) _ hb (by omega) (by omega) ?_)
   cases lo : κ.blt (ky κ t k) (ky κ t (k - 1)) with
   | true =>
    dsimp only;rw [if_pos rfl];have dn2 : Down κ t (k + 1) := iR dn (.inr (KeyOrd.kle_of_klt lo));by_cases q0 : q > 0
    . rw [if_pos q0];exact wpS_bind (wpS_reverse (wpS_pure ⟨0, rfl, hb.arr (mirror_perm _ _ _ _), gf dn2 (KK_mirror_equal hz same), by omega, fun i a b => by rw [show i = k + 1 - 1 by omega]⟩))
    . rw [if_neg q0];exact wpS_pure ⟨0, rfl, hb, dn2, by omega, fun i a b => by rw [show i = k + 1 - 1 by omega]⟩
   | false =>
    dsimp only;rw [if_neg Bool.false_ne_true];refine wpS_bind (hA t (k - 1) k _ hb (by omega) (by omega) ?_)
    cases hi : κ.blt (ky κ t (k - 1)) (ky κ t k) with
    | true => dsimp only; rw [if_pos rfl]; exact wpS_pure (fin k q t hb g1 (by omega) dn hq same)
    | false =>
     dsimp only;rw [if_neg Bool.false_ne_true];have eq : ky κ t k = ky κ t (k - 1) := KeyOrd.kle_antisymm hi lo;refine wpS_pure ⟨q + 1, rfl, hb, iR dn (.inr (by show κ.kle (ky κ t k) (ky κ t (k - 1)); rw [eq]; exact KeyOrd.kle_refl _)), by omega, fun i a b => ?_⟩;have ek : k + 1 - 1 = k := by omega
     rw [ek];rcases Nat.lt_or_ge i k with z | z
     . rw [same i (by omega) z, eq]
     . rw [show i = k by omega]
 . subst e;have e : max m n = n := by omega
   rw [e] at dn hq same ⊢;exact fin n q t hb hm (Nat.le_refl n) dn hq same
theorem rZ (hA : pU κ kd a0 prog w A E s) {m n : Nat} {Q : Option Nat -> SortSt -> Prop} (hn : n <= a0.size) (hm : m + 1 <= n) (hB : SB kd a0 st) (hs : Down κ st (m + 1))
 (fin : ∀ k t, SB kd a0 t -> 1 <= k -> k <= n -> Up κ t k -> Q (some k) t) : wpS (model prog w) A E s (descPart m n) Q st := by
 unfold descPart;refine wpS_bind (wpS_lift (wpAny_rule ⟨rfl, wpS_bind (AD hA hn (by omega) hm hB hs fun k q t hb a b dn hq same => ?_)⟩));dsimp only;have hz : k <= (arrOf t).size := by rw [hb.sz]; omega
 by_cases q0 : q > 0
 . rw [if_pos q0];exact wpS_bind (wpS_reverse (rJ hA hn (by omega) b (hb.arr (mirror_perm _ _ _ _)) (gf dn (KK_mirror_equal hz same)) fin))
 . rw [if_neg q0];exact rJ hA hn (by omega) b hb dn fin
theorem xK (hA : pU κ kd a0 prog w A E s) {n : Nat} {Q : Option Nat -> SortSt -> Prop} (hn : n <= a0.size) (h1 : 1 <= n) (hB : SB kd a0 st)
 (fin : ∀ k t, SB kd a0 t -> 1 <= k -> k <= n -> Up κ t k -> Q (some k) t) : wpS (model prog w) A E s (countRun' 0 n) Q st := by
 rw [countRun0_eq];refine wpS_bind (zf hA hn (Nat.le_refl 1) h1 hB DW fun m a b up why => ?_);dsimp only;by_cases all : m = n
 . rw [if_pos (by simpa using all)];exact wpS_pure (fin m st hB a b up)
 . rw [if_neg (by simpa using all)];have lo : κ.klt (ky κ st m) (ky κ st (m - 1)) := why.resolve_left all;by_cases m1 : m > 1
   . rw [if_pos m1];refine wpS_bind (hA st 0 (m - 1) _ hB (by omega) (by omega) ?_)
     cases rose : κ.blt (ky κ st 0) (ky κ st (m - 1)) with
     | true => dsimp only; rw [if_pos rfl]; exact wpS_pure (fin m st hB a b up)
     | false =>
      dsimp only;rw [if_neg Bool.false_ne_true];have hz : m <= (arrOf st).size := by rw [hB.sz]; omega
      have same : ∀ i, 0 <= i -> i < m -> KK κ (arrOf st) i = KK κ (arrOf st) (m - 1) := fun i _ im => KeyOrd.kle_antisymm (up i (m - 1) (by omega) (by omega)) (KeyOrd.kle_trans rose (up 0 i (by omega) im));have dn : Down κ st m := fun i j le lt => by rw [same i (by omega) (by omega), same j (by omega) lt]; exact KeyOrd.kle_refl _
      exact wpS_bind (wpS_reverse (rZ hA hn (by omega) (hB.arr (mirror_perm _ _ _ _)) (gf (iR dn (.inr (KeyOrd.kle_of_klt lo))) (KK_mirror_equal hz same)) fin))
   . rw [if_neg m1];obtain rfl : m = 1 := by omega
     exact rZ hA hn (by omega) hB (iR (fun i j le lt => by rw [show i = j by omega]; exact KeyOrd.kle_refl _) (.inr (KeyOrd.kle_of_klt lo))) fin
theorem BF {xs : Array Keyed} {k l : Nat} (hk : k < xs.size) (hl : l <= k) (up : SortedToK κ xs k) (below : ∀ i, i < l -> κ.kle (KK κ xs i) (KK κ xs k)) (above : ∀ i, l <= i -> i < k -> κ.klt (KK κ xs k) (KK κ xs i)) : SortedToK κ (bubble xs k (k - l)) (k + 1) := by
 have e : ∀ i, KK κ (bubble xs k (k - l)) i = if i = l then KK κ xs k else if l < i /\ i <= k then KK κ xs (i - 1) else KK κ xs i := fun i => by
  rw [KK_bubble hk (by omega), show k - (k - l) = l by omega]
 intro i j le lt;rw [e, e];by_cases ji : j = l
 . rw [if_pos ji];by_cases ii : i = l
   . rw [if_pos ii]; exact KeyOrd.kle_refl _
   . rw [if_neg ii, if_neg (by omega)]; exact below i (by omega)
 . rw [if_neg ji];by_cases jl : l < j /\ j <= k
   . rw [if_pos jl];by_cases ii : i = l
     . rw [if_pos ii]; exact KeyOrd.kle_of_klt (above (j - 1) (by omega) (by omega))
     . rw [if_neg ii];by_cases il : l < i /\ i <= k
       . rw [if_pos il]; exact up _ _ (by omega) (by omega)
       . rw [if_neg il]; exact up _ _ (by omega) (by omega)
   . rw [if_neg jl, if_neg (by omega), if_neg (by omega)]; exact up _ _ le (by omega)
theorem BB (hA : pU κ kd a0 prog w A E s) {n ok : Nat} {Q : Bool -> SortSt -> Prop} (hn : n <= a0.size) (hok : ok <= n) (hB : SB kd a0 st) (up0 : Up κ st ok) (fin : ∀ t, SB kd a0 t -> Up κ t n -> Q true t) : wpS (model prog w) A E s (binarySort' 0 n ok) Q st := by
 rw [binarySort'_eq];simp only [Nat.zero_add];have seek : ∀ (t : SortSt) (k : Nat), SB kd a0 t -> k < a0.size -> Up κ t k -> ∀ (R : Option Bool × Nat × Nat -> SortSt -> Prop), (∀ l r, l <= k -> (∀ i, i < l -> κ.kle (ky κ t i) (ky κ t k)) -> (∀ i, l <= i -> i < k -> κ.klt (ky κ t k) (ky κ t i)) -> R (none, l, r) t) ->
  wpS (model prog w) A E s (forIn [0:k] ((none, 0, k) : Option Bool × Nat × Nat) fun _ c => if c.2.1 ≥ c.2.2 then pure (ForInStep.done (none, c.2.1, c.2.2)) else do
   let x <- ltAt' k ((c.2.1 + c.2.2) / 2)
   match x with
   | some less => if less = true then pure (ForInStep.yield (none, c.2.1, (c.2.1 + c.2.2) / 2)) else pure (ForInStep.yield (none, (c.2.1 + c.2.2) / 2 + 1, c.2.2))
   | _ => pure (ForInStep.done (some false, c.2.1, c.2.2))) R t := by
  intro t k hb hk up R put;refine wpS_forRange (I := fun x c t' => t' = t /\ ∃ l r, c = (none, l, r) /\ (l <= r /\ r <= k /\ r - l <= k - x) /\ (∀ i, i < l -> κ.kle (ky κ t i) (ky κ t k)) /\ ∀ i, r <= i -> i < k -> κ.klt (ky κ t k) (ky κ t i)) ?turn ?over ⟨rfl, 0, k, rfl, ⟨by omega, by omega, by omega⟩, fun i z => by omega, fun i z1 z2 => by omega⟩
  case turn =>
   rintro x c t' q1 q2 ⟨e1, l, r, e2, ⟨b1, b2, b3⟩, below, above⟩;subst e1 e2;dsimp only;by_cases over : l ≥ r
   . rw [if_pos over];obtain rfl : l = r := by omega
     exact wpS_pure (put l l b2 below above)
   . rw [if_neg over];refine wpS_bind (hA t' k ((l + r) / 2) _ hb hk (by omega) ?_)
     cases less : κ.blt (ky κ t' k) (ky κ t' ((l + r) / 2)) with
     | true =>
      dsimp only;rw [if_pos rfl];exact wpS_pure ⟨rfl, l, (l + r) / 2, rfl, ⟨by omega, by omega, by omega⟩, below, fun i z1 z2 => KeyOrd.klt_of_klt_of_kle less (up _ _ z1 z2)⟩
     | false =>
      dsimp only;rw [if_neg Bool.false_ne_true];exact wpS_pure ⟨rfl, (l + r) / 2 + 1, r, rfl, ⟨by omega, by omega, by omega⟩, fun i z => KeyOrd.kle_trans (up i ((l + r) / 2) (by omega) (by omega)) less, above⟩
  case over =>
   rintro c t' ⟨e1, l, r, e2, ⟨b1, b2, b3⟩, below, above⟩;subst e1 e2;obtain rfl : l = r := by omega
   exact put l l b2 below above
 refine wpS_bind (wpS_mono (wpS_forRange (I := fun k c t => c = (none, ()) /\ SB kd a0 t /\ Up κ t (min k n)) (Q := fun c t => c = (none, ()) /\ SB kd a0 t /\ Up κ t n) ?turn ?over ?start) ?last)
 case last =>
  rintro c t ⟨e, hb, up⟩;subst e;exact wpS_pure (fin t hb up)
 case start =>
  refine ⟨rfl, hB, fun i j le lt => ?_⟩;rcases Nat.eq_zero_or_pos ok with z | z
  . rw [show i = j by omega]; exact KeyOrd.kle_refl _
  . exact up0 i j le (by omega)
 case over =>
  rintro c t ⟨e, hb, up⟩;rw [show min (max (max ok 1) n) n = n by omega] at up;exact ⟨e, hb, up⟩
 case turn =>
  rintro k c t g1 g2 ⟨e, hb, up⟩;subst e;rw [show min k n = k by omega] at up;refine wpS_bind (seek t k hb (by omega) up _ fun l r lk below above => ?_);show wpS _ _ _ _ (do moveDown' k l; pure (ForInStep.yield (none, ()))) _ _;rw [moveDown'_eq];refine wpS_bind (wpS_modify (wpS_pure ⟨rfl, hb.arr (bubble_perm _ _ _), ?_⟩));rw [show min (k + 1) n = k + 1 by omega];exact BF (by rw [hb.sz]; omega) lk up below above
theorem sX (hA : pU κ kd a0 prog w A E s) {Q : Unit -> SortSt -> Prop} (h2 : 2 <= a0.size) (h64 : a0.size < 64) (hB : SB kd a0 st)
 (fin : ∀ t, (arrOf t).Perm a0 -> failedOf t = none -> Up κ t a0.size -> Q () t) : wpS (model prog w) A E s sortRuns' Q st := by
 rw [sortRuns'_eq];refine wpS_bind (wpS_get ?_);dsimp only;have hmr : minRun' a0.size a0.size 0 = a0.size := by
  match hq : a0.size, h2 with
  | f + 1, _ => rw [minRun'_succ, if_pos (by omega)]
 simp only [hB.sz, hmr];refine wpS_bind (wpS_mono (wpS_forRange (I := fun x c t => (x = 0 /\ c = (none, 0) /\ SB kd a0 t) \/ (0 < x /\ c = (none, a0.size) /\ (arrOf t).Perm a0 /\ failedOf t = none /\ pendingOf t = #[(0, a0.size, 0)] /\ Up κ t a0.size))
  (Q := fun c t => c = (none, a0.size) /\ (arrOf t).Perm a0 /\ failedOf t = none /\ pendingOf t = #[(0, a0.size, 0)] /\ Up κ t a0.size) ?turn ?over (.inl ⟨rfl, rfl, hB⟩)) ?last)
 case turn =>
  rintro x c t g1 g2 (⟨rfl, rfl, hb⟩ | ⟨x0, rfl, rest⟩)
  . dsimp only;rw [if_neg (by omega)];simp only [Nat.sub_zero, Nat.min_self, Nat.zero_add];have push : ∀ t' : SortSt, SB kd a0 t' -> Up κ t' a0.size -> (arrOf (setPending t' ((pendingOf t').push (0, a0.size, 0)))).Perm a0 /\ failedOf (setPending t' ((pendingOf t').push (0, a0.size, 0))) = none /\ pendingOf (setPending t' ((pendingOf t').push (0, a0.size, 0))) = #[(0, a0.size, 0)] /\ Up κ (setPending t' ((pendingOf t').push (0, a0.size, 0))) a0.size := fun t' b u =>
     ⟨b.pm, b.ok, by show (pendingOf t').push _ = _; rw [b.pd]; rfl, u⟩
    refine wpS_bind (xK hA (Nat.le_refl _) (by omega) hb fun m t2 hb2 m1 m2 tp => ?_);dsimp only;by_cases few : m < a0.size
    . rw [if_pos few];refine wpS_bind (wpS_lift (wpAny_rule ⟨rfl, wpS_bind (BB hA (Nat.le_refl _) m2 hb2 tp fun t3 hb3 up3 => ?_)⟩));simp only [Bool.not_true, Bool.false_eq_true, if_false];refine wpS_bind (wpS_get ?_);rw [show (pendingOf t3).back? = none by rw [hb3.pd]; rfl];dsimp only;exact wpS_bind (wpS_modify (wpS_pure (.inr ⟨by omega, rfl, push t3 hb3 up3⟩)))
    . rw [if_neg few];obtain rfl : m = a0.size := by omega
      refine wpS_bind (wpS_get ?_);rw [show (pendingOf t2).back? = none by rw [hb2.pd]; rfl];dsimp only;exact wpS_bind (wpS_modify (wpS_pure (.inr ⟨by omega, rfl, push t2 hb2 tp⟩)))
  . dsimp only;rw [if_pos (Nat.le_refl _)];exact wpS_pure ⟨rfl, rest⟩
 case over =>
  rintro c t (⟨z, _⟩ | ⟨_, z⟩)
  . omega
  . exact z
 case last =>
  rintro c t ⟨e, p1, p2, p3, p4⟩;subst e;dsimp only;refine wpS_bind (wpS_mono (wpS_forRange (I := fun _ c t' => t' = t /\ c = (none, ())) (Q := fun c t' => t' = t /\ c = (none, ())) ?one (fun _ _ q => q) ⟨rfl, rfl⟩) ?two)
  case one =>
   rintro x c t' _ _ ⟨e1, e2⟩;subst e1 e2;refine wpS_bind (wpS_get ?_);rw [if_pos (by rw [p3]; exact Nat.le_refl 1)];exact wpS_pure ⟨rfl, rfl⟩
  case two =>
   rintro c t' ⟨e1, e2⟩;subst e1 e2;exact wpS_pure (fin _ p1 p2 p4)
end
end Y
namespace Y
open PySem PySem.Spec PyProof.Rows L2 PySem.SeqAt
variable [cq]
structure i4 (P : D -> Prop) : Prop where
 ir : ∀ a, P a -> bD .lt a a = false
 tr : ∀ a b c, P a -> P b -> P c -> bD .lt a b = true -> bD .lt b c = true -> bD .lt a c = true
 tt : ∀ a b, P a -> P b -> bD .lt a b = false -> bD .lt b a = false -> a = b
 cm : ∀ a b, P a -> P b -> cD a b = true
 eq : ∀ a b, P a -> P b -> aV a b = true -> a = b
def tG : (Nat -> D -> Prop) -> List D -> Prop
 | _, [] => True
 | P, d :: ds => P 0 d /\ tG (fun i => P (i + 1)) ds
theorem mr {P : D -> Prop} : ∀ {ds : List D}, (∀ d ∈ ds, P d) -> tG (fun _ => P) ds
 | [], _ => trivial
 | d :: ds, h => ⟨h d (by simp), mr fun x hx => h x (by simp [hx])⟩
theorem qp : ∀ {P : Nat -> D -> Prop}, (∀ i, i4 (P i)) -> ∀ ds, tG P ds -> bQ .lt ds ds = false
 | P, L, [], _ => by simp [bQ, Od.sz]
 | P, L, d :: ds, h => by
  unfold bQ;rw [bO, if_pos rfl];exact qp (fun i => L (i + 1)) ds h.2
theorem qu : ∀ {P : Nat -> D -> Prop}, (∀ i, i4 (P i)) -> ∀ ds es, tG P ds -> tG P es -> cV ds es = true -> ds = es
 | P, L, [], [], _, _, _ => rfl
 | P, L, [], e :: es, _, _, h => by simp [cV] at h
 | P, L, d :: ds, [], _, _, h => by simp [cV] at h
 | P, L, d :: ds, e :: es, h1, h2, h => by
  rw [cV, Bool.and_eq_true] at h;rw [(L 0).eq d e h1.1 h2.1 h.1, qu (fun i => L (i + 1)) ds es h1.2 h2.2 h.2]
theorem pZ : ∀ {P : Nat -> D -> Prop}, (∀ i, i4 (P i)) -> ∀ ds es, tG P ds -> tG P es -> fe ds es = true
 | P, L, [], es, _, _ => by simp [fe]
 | P, L, d :: ds, [], _, _ => by simp [fe]
 | P, L, d :: ds, e :: es, h1, h2 => by
  rw [fe, (L 0).cm d e h1.1 h2.1, pZ (fun i => L (i + 1)) ds es h1.2 h2.2]; rfl
theorem qG : ∀ {P : Nat -> D -> Prop}, (∀ i, i4 (P i)) -> ∀ ds es, tG P ds -> tG P es -> bQ .lt ds es = false -> bQ .lt es ds = false -> ds = es
 | P, L, [], [], _, _, _, _ => rfl
 | P, L, [], e :: es, _, _, h, _ => by simp [bQ, Od.sz] at h
 | P, L, d :: ds, [], _, _, _, h => by simp [bQ, Od.sz] at h
 | P, L, d :: ds, e :: es, h1, h2, ha, hb => by
  unfold bQ at ha hb
  cases q : aV d e with
  | true =>
   obtain rfl := (L 0).eq d e h1.1 h2.1 q;rw [bO, if_pos rfl] at ha hb;rw [qG (fun i => L (i + 1)) ds es h1.2 h2.2 ha hb]
  | false =>
   have q2 : aV e d = false := by
    cases z : aV e d with
    | false => rfl
    | true => obtain rfl := (L 0).eq e d h2.1 h1.1 z; rw [bO] at q; cases q
   rw [q] at ha; rw [q2] at hb;rw [if_neg Bool.false_ne_true] at ha hb;obtain rfl := (L 0).tt d e h1.1 h2.1 ha hb;rw [bO] at q; cases q
theorem qd : ∀ {P : Nat -> D -> Prop}, (∀ i, i4 (P i)) -> ∀ ds es fs, tG P ds -> tG P es -> tG P fs -> bQ .lt ds es = true -> bQ .lt es fs = true -> bQ .lt ds fs = true
 | P, L, ds, [], fs, _, _, _, h, _ => by cases ds <;> simp [bQ, Od.sz] at h
 | P, L, ds, e :: es, [], _, _, _, _, h => by simp [bQ, Od.sz] at h
 | P, L, [], e :: es, f :: fs, _, _, _, _, _ => by simp [bQ, Od.sz]
 | P, L, d :: ds, e :: es, f :: fs, h1, h2, h3, ha, hb => by
  unfold bQ at ha hb ⊢;have no : ∀ {x y : D}, P 0 x -> P 0 y -> bD .lt x y = true -> aV x y = false := fun {x y} px py lt => by
   cases z : aV x y with
   | false => rfl
   | true => obtain rfl := (L 0).eq x y px py z; rw [(L 0).ir x px] at lt; cases lt
  cases q : aV d e with
  | true =>
   obtain rfl := (L 0).eq d e h1.1 h2.1 q;rw [q, if_pos rfl] at ha
   cases q2 : aV d f with
   | true =>
    rw [q2, if_pos rfl] at hb;rw [if_pos rfl];exact qd (fun i => L (i + 1)) ds es fs h1.2 h2.2 h3.2 ha hb
   | false => rw [q2] at hb; exact hb
  | false =>
   rw [q, if_neg Bool.false_ne_true] at ha
   cases q2 : aV e f with
   | true =>
    obtain rfl := (L 0).eq e f h2.1 h3.1 q2;rw [q, if_neg Bool.false_ne_true];exact ha
   | false =>
    rw [q2, if_neg Bool.false_ne_true] at hb;have lt := (L 0).tr d e f h1.1 h2.1 h3.1 ha hb;rw [no h1.1 h3.1 lt, if_neg Bool.false_ne_true];exact lt
def isInt (d : D) : Prop := ∃ i, d = .int i
def isStr (d : D) : Prop := ∃ x, d = .str x
def CV (P : D -> Prop) (d : D) : Prop := ∃ ds, d = .lst ds /\ tG (fun _ => P) ds
def isTup (P : Nat -> D -> Prop) (d : D) : Prop := ∃ ds, d = .tup ds /\ tG P ds
def Hm (A B : D -> Prop) : Nat -> D -> Prop
 | 0 => A
 | _ + 1 => B
theorem lU : i4 isInt where
 ir := by rintro _ ⟨i, rfl⟩; simp [bD, Od.int]
 tr := by rintro _ _ _ ⟨i, rfl⟩ ⟨j, rfl⟩ ⟨k, rfl⟩ a b; simp [bD, Od.int] at *; omega
 tt := by rintro _ _ ⟨i, rfl⟩ ⟨j, rfl⟩ a b; simp [bD, Od.int] at *; omega
 cm := by rintro _ _ ⟨i, rfl⟩ ⟨j, rfl⟩; rfl
 eq := by rintro _ _ ⟨i, rfl⟩ ⟨j, rfl⟩ a; simpa [aV] using a
theorem iS : i4 isStr where
 ir := by
  rintro _ ⟨i, rfl⟩;have h : ¬ cl i < cl i := List.lt_irrefl _;simp [bD, Od.str, h]
 tr := by
  rintro _ _ _ ⟨i, rfl⟩ ⟨j, rfl⟩ ⟨k, rfl⟩ a b;simp only [bD, Od.str, decide_eq_true_eq] at *;exact List.lt_trans a b
 tt := by
  rintro _ _ ⟨i, rfl⟩ ⟨j, rfl⟩ a b;simp only [bD, Od.str, decide_eq_false_iff_not] at *;rw [qE (List.le_antisymm (List.not_lt.mp b) (List.not_lt.mp a))]
 cm := by rintro _ _ ⟨i, rfl⟩ ⟨j, rfl⟩; rfl
 eq := by rintro _ _ ⟨i, rfl⟩ ⟨j, rfl⟩ a; simpa [aV] using a
theorem iN {P : D -> Prop} (L : i4 P) : i4 (CV P) where
 ir := by rintro _ ⟨i, rfl, h⟩; simp only [bD]; exact qp (fun _ => L) _ h
 tr := by rintro _ _ _ ⟨i, rfl, h1⟩ ⟨j, rfl, h2⟩ ⟨k, rfl, h3⟩ a b; simp only [bD] at *; exact qd (fun _ => L) _ _ _ h1 h2 h3 a b
 tt := by rintro _ _ ⟨i, rfl, h1⟩ ⟨j, rfl, h2⟩ a b; simp only [bD] at *; rw [qG (fun _ => L) _ _ h1 h2 a b]
 cm := by rintro _ _ ⟨i, rfl, h1⟩ ⟨j, rfl, h2⟩; simp only [cD]; exact pZ (fun _ => L) _ _ h1 h2
 eq := by rintro _ _ ⟨i, rfl, h1⟩ ⟨j, rfl, h2⟩ a; simp only [aV] at a; rw [qu (fun _ => L) _ _ h1 h2 a]
theorem l0 {P : Nat -> D -> Prop} (L : ∀ i, i4 (P i)) : i4 (isTup P) where
 ir := by rintro _ ⟨i, rfl, h⟩; simp only [bD]; exact qp L _ h
 tr := by rintro _ _ _ ⟨i, rfl, h1⟩ ⟨j, rfl, h2⟩ ⟨k, rfl, h3⟩ a b; simp only [bD] at *; exact qd L _ _ _ h1 h2 h3 a b
 tt := by rintro _ _ ⟨i, rfl, h1⟩ ⟨j, rfl, h2⟩ a b; simp only [bD] at *; rw [qG L _ _ h1 h2 a b]
 cm := by rintro _ _ ⟨i, rfl, h1⟩ ⟨j, rfl, h2⟩; simp only [cD]; exact pZ L _ _ h1 h2
 eq := by rintro _ _ ⟨i, rfl, h1⟩ ⟨j, rfl, h2⟩ a; simp only [aV] at a; rw [qu L _ _ h1 h2 a]
theorem u7 {A B : D -> Prop} (a : i4 A) (b : i4 B) : ∀ i, i4 (Hm A B i)
 | 0 => a
 | _ + 1 => b
section
variable {X : Cx} {pins : HI} {σ : St} {H : Hp} {s : Shared} {Z Z' : aE}
theorem Dg (I : Inv X pins σ H s) : ∀ (n : Nat) {d d' : D} {v : V}, d.dep <= n -> In X.K H Z d v -> In X.K H Z' d' v -> d = d' := fun _ _ _ _ _ i i' => In.inj I i i'
def Tells (K : Frag) (H : Hp) (Z : aE) (u : Value) (d : D) : Prop := ∃ v, RelV v u /\ In K H Z d v
theorem Tells.one (I : Inv X pins σ H s) {u : Value} {d d' : D} (a : Tells X.K H Z u d) (b : Tells X.K H Z' u d') : d = d' := by
 obtain ⟨v, r, i⟩ := a;obtain ⟨v', r', i'⟩ := b;cases r.inj r';exact Dg I d.dep (Nat.le_refl _) i i'
end
def Be (b : Bool) (A : Around) (s : Shared) (x y : Value) (r : Bool) : Prop :=
 ∀ (prog : Program) (w : World) (E : HB) (Q : Bool -> Shared -> Prop), Q r s -> wpAny (model prog w) A (oneLt' b x y) Q E s
def A8 (kd : SortKind) (A : Around) (s : Shared) (x y : Value) (r : Bool) : Prop :=
 ∀ (prog : Program) (w : World) (E : HB) (Q : Bool -> Shared -> Prop), Q r s -> wpAny (model prog w) A (keyLt' kd x y) Q E s
section
variable {X : Cx} {pins : HI} {σ : St} {H : Hp} {s : Shared} {Z Z' : aE} {A : Around}
theorem pN {x y : Value} {r : Bool} (h : cI .Lt A s x y r) : Be false A s x y r := fun prog w E Q q => by
 rw [oneLt'_eq];simp only [Bool.false_eq_true, if_false];exact wpAny_bind (h prog w E _ (wpAny_truthy_bool q))
theorem wX {l b : Addr} {its its2 : HG} {e r : Nat -> Bool} (hl : s.heap.IsList l its) (hb : s.heap.IsList b its2) (hu : A.units < cLine)
 (he : ∀ j (h1 : j < its.size) (h2 : j < its2.size), EqAt A.in1 s its[j] its2[j] (e j)) (ho : ∀ j (h1 : j < its.size) (h2 : j < its2.size), e j = false -> cI .Lt A.in1 s its[j] its2[j] (r j)) :
 Be true A s (.ref l) (.ref b) (aM e r (decide (its.size < its2.size)) (List.range (min its.size its2.size))) := fun prog w E Q h => by
 obtain ⟨⟨cls, dd, data, sl⟩, g1, hc, n, hd⟩ := id hl;obtain ⟨⟨cls2, dd2, data2, sl2⟩, g2, hc2, n2, hd2⟩ := id hb;simp only at hc hd hc2 hd2;subst hc hd hc2 hd2;rw [oneLt'_eq];simp only [if_true];refine wpAny_bind (wpAny_cRoomFor hu ?_);refine wpAny_bind (wpAny_callSpecialIfBound?_slot (T := "list") ⟨_, g1, rfl⟩ F.slot_list_lt (call_meets F.slot_list_lt ⟨_, g1, rfl⟩ F.entry_list_lt (F.args_list_lt_2 _ _) (zh l b its its2 n n2 dd dd2 sl sl2 e r) ⟨g1, g2, he, ho, ?_⟩));exact wpAny_truthy_bool h
def eC : D -> Bool
 | .int _ => true
 | .str _ => true
 | .lst _ => true
 | _ => false
theorem AI (b : Bool) (I : Inv X pins σ H s) {d d' : D} {u u' : Value} (t : Tells X.K H Z u d) (t' : Tells X.K H Z' u' d') (hc : cD d d' = true) (hp : eC d = true) (hu : A.units + d.dep < cLine) : Be b A s u u' (bD .lt d d') := by
 obtain ⟨v, r, i⟩ := t;obtain ⟨v', r', i'⟩ := t'
 cases b with
 | false => exact pN (m5 .lt I d.dep i i' r r' hc (Nat.le_refl _) hu)
 | true =>
  cases d with
  | int x =>
   cases d' <;> simp [cD] at hc;cases ao.mp i;cases ao.mp i';obtain ⟨t, rfl⟩ := r;obtain ⟨t', rfl⟩ := r';simp only [bD];exact fun prog w E Q q => oneLt_int q
  | str x =>
   cases d' <;> simp [cD] at hc;cases in_str.mp i;cases in_str.mp i';obtain ⟨t, rfl⟩ := r;obtain ⟨t', rfl⟩ := r';simp only [bD];exact fun prog w E Q q => oneLt_str q
  | lst ds =>
   cases d' with
   | lst es =>
    have hcs : fe ds es = true := by simpa [cD] using hc
    have hu' : A.units + (cu ds + 1) < cLine := by unfold D.dep at hu; exact hu
    have hu1 : A.in1.units + cu ds < cLine := by show A.units + 1 + cu ds < cLine; omega
    obtain ⟨a, xs, rfl, l, j⟩ := av.mp i;obtain ⟨a', ys, rfl, l', j'⟩ := av.mp i';cases r;cases r';obtain ⟨its, rx, pl, _⟩ := I.list l.sq;obtain ⟨its2, ry, pl2, _⟩ := I.list l'.sq;have z1 := j.length; have z2 := j'.length; have z3 := rx.length; have z4 := ry.length;have both : ∀ k (h1 : k < its.toArray.size) (h2 : k < its2.toArray.size), EqAt A.in1 s its.toArray[k] its2.toArray[k] (aV (ds.getD k .non) (es.getD k .non)) /\ cI .Lt A.in1 s its.toArray[k] its2.toArray[k] (bD .lt (ds.getD k .non) (es.getD k .non)) := fun k h1 h2 => by
     simp at h1 h2;have k1 : k < ds.length := by omega
     have k2 : k < es.length := by omega
     obtain ⟨x, ex, ix⟩ := j.get (i := k) (d := ds[k]) (by simp [k1]);obtain ⟨y, ey, iy⟩ := j'.get (i := k) (d := es[k]) (by simp [k2]);obtain ⟨w1, f1, q1⟩ := rx.get ex;obtain ⟨w2, f2, q2⟩ := ry.get ey;have g1 : its.toArray[k] = w1 := by
      have t := (List.getElem?_eq_some_iff.mp f1).2;simpa using t
     have g2 : its2.toArray[k] = w2 := by
      have t := (List.getElem?_eq_some_iff.mp f2).2;simpa using t
     have hck := nC ds es hcs k k1 k2;have e1 : ds.getD k .non = ds[k] := by simp [k1]
     have e2 : es.getD k .non = es[k] := by simp [k2]
     rw [e1, e2] at hck ⊢;rw [g1, g2];have hdk := fL (getElem_mem k1);exact ⟨nr I _ ix iy q1 q2 hdk hu1, m5 .lt I _ ix iy q1 q2 hck hdk hu1⟩
    have key := wX (A := A) (e := fun k => aV (ds.getD k .non) (es.getD k .non)) (r := fun k => bD .lt (ds.getD k .non) (es.getD k .non)) pl.isList pl2.isList (by omega) (fun k h1 h2 => (both k h1 h2).1) (fun k h1 h2 _ => (both k h1 h2).2);have e1 : its.toArray.size = ds.length := by simp; omega
    have e2 : its2.toArray.size = es.length := by simp; omega
    rw [e1, e2] at key;have key2 := iF .lt ds es;simp only [Od.sz] at key2;rw [key2] at key;simpa only [bD] using key
   | _ => simp [cD] at hc
  | _ => simp [eC] at hp
inductive xN (A : Around) (s : Shared) (b : Bool) : Nat -> List Value -> List Value -> List D -> List D -> Prop
 | nil {n : Nat} {us ws : HF} {ds es : List D} (h : us.zip ws = []) (g : us.length = ds.length) (g2 : ws.length = es.length) : xN A s b n us ws ds es
 | cons {n : Nat} {u w : Value} {us ws : HF} {d e : D} {ds es : List D} (h : EqAt A s u w (aV d e)) (o : aV d e = false -> Be (b && n == 0) A s u w (bD .lt d e)) (t : xN A s b (n + 1) us ws ds es) : xN A s b n (u :: us) (w :: ws) (d :: ds) (e :: es)
theorem xT {b : Bool} {x y : Addr} {us ws : HF} {ds es : List D} (hx : s.heap.IsTuple x us.toArray) (hy : s.heap.IsTuple y ws.toArray) (c : xN A s b 0 us ws ds es) (l1 : us.length = ds.length) (l2 : ws.length = es.length) : A8 (tuples' b) A s (.ref x) (.ref y) (bQ .lt ds es) := by
 intro prog w E Q q;obtain ⟨o, h1, h2, n1, h3⟩ := hx;obtain ⟨o', h1', h2', n1', h3'⟩ := hy;show wpAny _ _ (do
  let xs <- Builtin.List.listItems (.ref x); let ys <- Builtin.List.listItems (.ref y)
  for ((p, q), i) in (xs.toList.zip ys.toList).zipIdx do
   if !(<- eqBool p q) then return <- oneLt' (b && i == 0) p q
  return decide (xs.size < ys.size)) _ _ _
 refine wpAny_bind (listItems_at h1 h3 ?_);refine wpAny_bind (listItems_at h1' h3' ?_);have walk : ∀ {n : Nat} {us' ws' : HF} {ds' es' : List D}, xN A s b n us' ws' ds' es' -> ∀ (R : Option Bool × PUnit -> Shared -> Prop),
  (∀ r, (r = none -> bQ .lt ds' es' = decide (us'.length < ws'.length)) -> (∀ v, r = some v -> v = bQ .lt ds' es') -> R (r, ⟨⟩) s) ->
  wpAny (model prog w) A (forIn ((us'.zip ws').zipIdx n) ((none, ⟨⟩) : Option Bool × PUnit) fun x c => do
   let r <- eqBool x.1.1 x.1.2
   if (!r) = true then do let z <- oneLt' (b && x.2 == 0) x.1.1 x.1.2; pure (ForInStep.done (some z, ⟨⟩)) else pure (ForInStep.yield (none, ⟨⟩))) R E s := by
  intro n us' ws' ds' es' c
  induction c with
  | nil h g g2 =>
   intro R k;rw [h];refine wpAny_pure (k none (fun z0 => ?_) (fun v e => nomatch e));rename_i us' ws' ds' es'
   cases us' with
   | nil =>
    cases ds' with
    | nil => simp [bQ, Od.sz, g2]
    | cons _ _ => simp at g
   | cons _ _ =>
    cases ws' with
    | cons _ _ => simp at h
    | nil =>
     cases es' with
     | cons _ _ => simp at g2
     | nil =>
      cases ds' with
      | nil => simp [bQ, Od.sz]
      | cons _ _ => simp [bQ, Od.sz]
  | cons h o t ih =>
   intro R k;rename_i n' u w' us2 ws2 d e ds2 es2;simp only [List.zip_cons_cons, List.zipIdx_cons, List.forIn_cons];refine wpAny_bind (wpAny_bind (h prog w E _ ?_))
   cases hq : aV d e with
   | true =>
    simp only [Bool.not_true, Bool.false_eq_true, if_false];refine wpAny_pure ?_;dsimp only;refine ih R fun r a1 a2 => k r (fun z => ?_) (fun v z => ?_)
    . rw [bQ, hq, if_pos rfl, a1 z]; simp
    . rw [bQ, hq, if_pos rfl]; exact a2 v z
   | false =>
    simp only [Bool.not_false, if_true];refine wpAny_bind (o hq prog w E _ (wpAny_pure ?_));dsimp only;refine wpAny_pure (k _ (fun z => nomatch z) fun v z => ?_);cases z;rw [bQ, hq, if_neg Bool.false_ne_true]
 refine wpAny_bind (walk c _ fun r a1 a2 => ?_)
 cases r with
 | none =>
  dsimp only;refine wpAny_pure ?_;rw [a1 rfl] at q;simpa using q
 | some v =>
  dsimp only;refine wpAny_pure ?_;rw [a2 v rfl]; exact q
end
section
variable {X : Cx} {pins : HI} {σ : St} {H : Hp} {s : Shared} {Z Z' : aE} {A : Around}
theorem wF (I : Inv X pins σ H s) {b : Bool} : ∀ {ds es : List D} {xs ys : List V} {us ws : HF} (n : Nat), aH X.K H Z ds xs -> aH X.K H Z' es ys -> Vals xs us -> Vals ys ws -> fe ds es = true -> (n = 0 -> b = true -> ∀ d r, ds = d :: r -> eC d = true) -> A.units + cu ds < cLine -> xN A s b n us ws ds es := by
 intro ds
 induction ds with
 | nil =>
  intro es xs ys us ws n j j' r r' _ _ _;have z1 := j.length; have z2 := j'.length; have z3 := r.length; have z4 := r'.length;have u0 : us = [] := List.length_eq_zero_iff.mp (by simp at z1; omega);subst u0;exact .nil rfl rfl (by omega)
 | cons d ds ih =>
  intro es xs ys us ws n j j' r r' hc hp hu
  cases es with
  | nil =>
   have z1 := j.length; have z2 := j'.length; have z3 := r.length; have z4 := r'.length;have u0 : ws = [] := List.length_eq_zero_iff.mp (by simp at z2; omega);subst u0;exact .nil (by simp) (by omega) rfl
  | cons e es =>
   obtain ⟨x, xs', rfl, i, j⟩ := ar.mp j;obtain ⟨y, ys', rfl, i', j'⟩ := ar.mp j'
   cases r with
   | cons q r =>
   cases r' with
   | cons q' r' =>
   rw [fe, Bool.and_eq_true] at hc;have hm : A.units + max d.dep (cu ds) < cLine := by unfold cu at hu; exact hu
   refine .cons (nr I _ i i' q q' (Nat.le_refl _) (by omega)) (fun _ => ?_) (ih (n + 1) j j' r r' hc.2 (fun z => by omega) (by omega))
   cases n with
   | succ n =>
    have e : (b && n + 1 == 0) = false := by cases b <;> simp
    rw [e];exact pN (m5 .lt I _ i i' q q' hc.1 (Nat.le_refl _) (by omega))
   | zero =>
    cases b with
    | false => exact pN (m5 .lt I _ i i' q q' hc.1 (Nat.le_refl _) (by omega))
    | true => exact AI true I ⟨_, q, i⟩ ⟨_, q', i'⟩ hc.1 (hp rfl rfl d ds rfl) (by omega)
theorem Es {b : Bool} (I : Inv X pins σ H s) {ds es : List D} {u u' : Value} (t : Tells X.K H Z u (.tup ds)) (t' : Tells X.K H Z' u' (.tup es)) (hc : cD (.tup ds) (.tup es) = true) (hp : b = true -> ∀ d r, ds = d :: r -> eC d = true) (hu : A.units + cu ds < cLine) : A8 (tuples' b) A s u u' (bD .lt (.tup ds) (.tup es)) := by
 obtain ⟨v, r, i⟩ := t;obtain ⟨v', r', i'⟩ := t';obtain ⟨a, xs, rfl, l, j⟩ := aN i;obtain ⟨a', ys, rfl, l', j'⟩ := aN i';cases r;cases r';obtain ⟨its, rx, pl, _⟩ := I.tuple l;obtain ⟨its2, ry, pl2, _⟩ := I.tuple l';have z1 := j.length; have z2 := j'.length; have z3 := rx.length; have z4 := ry.length;simp only [bD];exact xT pl pl2 (wF I 0 j j' rx ry (by simpa [cD] using hc) (fun _ => hp) hu) (by omega) (by omega)
theorem yX (I : Inv X pins σ H s) {d d' : D} {u u' : Value} (t : Tells X.K H Z u d) (t' : Tells X.K H Z' u' d') (hc : cD d d' = true) (hp : eC d = true) (hu : A.units + d.dep < cLine) : A8 oneType' A s u u' (bD .lt d d') := fun prog w E Q q => by
 rw [keyLt'_oneType];exact AI true I t t' hc hp hu prog w E Q q
def Gj : D -> String
 | .int _ => "int"
 | .str _ => "str"
 | .lst _ => "list"
 | _ => "tuple"
theorem Fb (I : Inv X pins σ H s) {d : D} {u : Value} (t : Tells X.K H Z u d) (hp : eC d = true \/ ∃ ds, d = .tup ds) : s.TypeIs u (Gj d) := by
  obtain ⟨v, r, i⟩ := t
  cases d with
  | dct x => rcases hp with h | ⟨_, h⟩
             . exact absurd h (by simp [eC])
             . cases h
  | agg s x => exact absurd i bW
  | ktup x => rcases hp with h | ⟨_, h⟩
              . exact absurd h (by simp [eC])
              . cases h
  | int x => cases ao.mp i; obtain ⟨t, rfl⟩ := r; exact typeIs_int s x t
  | str x => cases in_str.mp i; obtain ⟨t, rfl⟩ := r; exact typeIs_str s x t
  | lst ds =>
    obtain ⟨a, xs, rfl, l, j⟩ := av.mp i;cases r;obtain ⟨its, rx, pl, _⟩ := I.list l.sq;obtain ⟨o, h1, h2, n1, h3⟩ := pl.isList;exact ⟨o, h1, h2⟩
  | tup ds =>
    obtain ⟨a, xs, rfl, l, j⟩ := aN i;cases r;obtain ⟨its, rx, pl, _⟩ := I.tuple l;obtain ⟨o, h1, h2, n1, h3⟩ := pl;exact ⟨o, h1, h2⟩
  | non => simp [eC] at hp
  | bl _ => simp [eC] at hp
variable {M : Model} {E : HB}
theorem lT {α β : Type} {f : α -> Sem β} {P : β -> Prop} : ∀ (l : List α) {Q : List β -> Shared -> Prop}, (∀ x ∈ l, ∃ y, P y /\ ∀ Q' : β -> Shared -> Prop, Q' y s -> wpAny M A (f x) Q' E s) -> (∀ ys : List β, ys.length = l.length -> (∀ y ∈ ys, P y) -> Q ys s) -> wpAny M A (l.mapM f) Q E s
 | [], Q, h, k => by rw [List.mapM_nil]; exact wpAny_pure (k [] rfl (by simp))
 | x :: l, Q, h, k => by
  obtain ⟨y, p, w⟩ := h x (by simp);rw [List.mapM_cons];refine wpAny_bind (w _ (wpAny_bind (lT l (fun z hz => h z (by simp [hz])) fun ys e ps => wpAny_pure (k (y :: ys) (by simp [e]) fun z hz => ?_))));rcases mem_cons.mp hz with rfl | hz
  . exact p
  . exact ps z hz
theorem nI {T : String} {vs : HF} {Q : Option Value -> Shared -> Prop} (hT : (Value.type T == Value.type T) = true) (h : ∀ v ∈ vs, s.TypeIs v T) (h0 : vs ≠ []) (q : Q (some (.type T)) s) : wpAny M A (oneTypeOnly' vs.toArray) Q E s := by
 rw [oneTypeOnly'_eq, List.mapM_toArray];refine wpAny_bind ?_;rw [map_eq_pure_bind];refine wpAny_bind (lT (P := fun y => y = Value.type T) vs (fun v hv => ⟨_, rfl, fun Q' z => wpAny_typeOf (h v hv) z⟩) fun ys e ps => wpAny_pure ?_)
 cases ys with
 | nil => exact absurd (List.length_eq_zero_iff.mp e.symm) h0
 | cons y ys =>
  obtain rfl := ps y (by simp);have all : (Value.type T :: ys).toArray.all (fun x => x == Value.type T) = true := by
   simp only [List.all_toArray, List.all_eq_true];intro z hz;rw [ps z hz]; exact hT
  have e0 : (Value.type T :: ys).toArray[0]? = some (Value.type T) := by simp
  rw [e0];dsimp only;rw [all, if_pos rfl];exact wpAny_pure q
theorem zR {T : String} {us : HF} {Q : SortKind -> Shared -> Prop} (hT : (Value.type T == Value.type T) = true) (hn : (Value.type T != Value.type "tuple") = true) (h0 : us ≠ [])
 (h : ∀ u ∈ us, ∃ a x its, u = .ref a /\ s.heap.IsTuple a (x :: its).toArray /\ s.TypeIs x T) (q : Q (tuples' true) s) : wpAny M A (keyKind' us.toArray) Q E s := by
 rw [keyKind'_eq, List.mapM_toArray];refine wpAny_bind ?_;rw [map_eq_pure_bind];refine wpAny_bind (lT (P := fun y => ∃ x, y = some x /\ s.TypeIs x T) us (fun u hu => ?_) fun ys e ps => wpAny_pure ?_)
 . obtain ⟨a, x, its, rfl, ⟨o, h1, h2, n1, h3⟩, tx⟩ := h u hu;refine ⟨some x, ⟨x, rfl, tx⟩, fun Q' z => ?_⟩;show wpAny _ _ (do
    if (<- typeOf (.ref a)) != .type "tuple" then return none
    return (<- Builtin.List.listItems (.ref a))[0]?) _ _ _
   refine wpAny_bind (wpAny_typeOf (T := "tuple") ⟨o, h1, h2⟩ ?_);have e : (Value.type "tuple" != Value.type "tuple") = false := by rfl
   rw [e, if_neg Bool.false_ne_true];refine wpAny_bind (listItems_at h1 h3 (wpAny_pure ?_));simpa using z
 . have all : ys.toArray.all (fun x => x.isSome) = true := by
    simp only [List.all_toArray, List.all_eq_true];intro z hz;obtain ⟨x, rfl, _⟩ := ps z hz; rfl
   rw [all, if_pos rfl];refine wpAny_bind (wpAny_rule ?_);have e2 : ys.toArray.filterMap id = (ys.filterMap id).toArray := by simp
   rw [e2];refine wpAny_bind (nI (T := T) hT (fun v hv => ?_) ?_ ?_)
   . obtain ⟨y, hy, e⟩ := List.mem_filterMap.mp hv;obtain ⟨x, rfl, tx⟩ := ps y hy;cases e;exact tx
   . cases ys with
     | nil => exact absurd (List.length_eq_zero_iff.mp e.symm) h0
     | cons y ys => obtain ⟨x, rfl, _⟩ := ps y (by simp); simp
   . simp only [Option.any_some, hn];exact wpAny_pure q
theorem zD {T : String} {us : HF} {Q : SortKind -> Shared -> Prop} (hT : (Value.type T == Value.type T) = true) (hn : (Value.type T != Value.type "tuple") = true) (h0 : us ≠ [])
 (h : ∀ u ∈ us, s.TypeIs u T) (q : Q oneType' s) : wpAny M A (keyKind' us.toArray) Q E s := by
 rw [keyKind'_eq, List.mapM_toArray];refine wpAny_bind ?_;rw [map_eq_pure_bind];refine wpAny_bind (lT (P := fun y => y = (none : Option Value)) us (fun u hu => ⟨none, rfl, fun Q' z => ?_⟩) fun ys e ps => wpAny_pure ?_)
 . show wpAny _ _ (do
    if (<- typeOf u) != .type "tuple" then return none
    return (<- Builtin.List.listItems u)[0]?) _ _ _
   refine wpAny_bind (wpAny_typeOf (h u hu) ?_);rw [hn, if_pos rfl];exact wpAny_pure z
 . cases ys with
   | nil => exact absurd (List.length_eq_zero_iff.mp e.symm) h0
   | cons y ys =>
    obtain rfl := ps y (by simp);rw [if_neg (by simp), if_neg (by simp)];refine wpAny_bind (nI hT h h0 ?_);exact wpAny_pure q
end
inductive eA (P : D -> Prop) : SortKind -> Prop
 | one (T : String) (hT : T = "int" \/ T = "str" \/ T = "list") (h : ∀ d, P d -> eC d = true /\ Gj d = T) : eA P oneType'
 | tup (T : String) (hT : T = "int" \/ T = "str" \/ T = "list") (h : ∀ d, P d -> ∃ x r, d = .tup (x :: r) /\ eC x = true /\ Gj x = T) : eA P (tuples' true)
theorem uZ {T : String} (hT : T = "int" \/ T = "str" \/ T = "list") : (Value.type T == Value.type T) = true /\ (Value.type T != Value.type "tuple") = true := by
 rcases hT with rfl | rfl | rfl <;> exact ⟨rfl, by decide⟩
section
variable {X : Cx} {pins : HI} {σ : St} {H : Hp} {s : Shared} {Z Z' : aE} {A : Around} {P : D -> Prop} {kd : SortKind} {M : Model} {E : HB}
theorem vE (k : eA P kd) (I : Inv X pins σ H s) {us : HF} {Q : SortKind -> Shared -> Prop} (h : ∀ u ∈ us, ∃ d, P d /\ Tells X.K H Z u d) (h0 : us ≠ []) (q : Q kd s) : wpAny M A (keyKind' us.toArray) Q E s := by
 cases k with
 | one T hT hp =>
  refine zD (uZ hT).1 (uZ hT).2 h0 (fun u hu => ?_) q;obtain ⟨d, pd, t⟩ := h u hu;rw [<- (hp d pd).2];exact Fb I t (.inl (hp d pd).1)
 | tup T hT hp =>
  refine zR (uZ hT).1 (uZ hT).2 h0 (fun u hu => ?_) q;obtain ⟨d, pd, v, r, i⟩ := h u hu;obtain ⟨x, ds, rfl, px, tx⟩ := hp d pd;obtain ⟨a, xs, rfl, l, j⟩ := aN i;cases r;obtain ⟨y, ys, rfl, iy, j⟩ := ar.mp j;obtain ⟨its, rx, pl, _⟩ := I.tuple l
  cases rx with
  | cons q rx => exact ⟨a, _, _, rfl, pl, tx ▸ Fb I ⟨_, q, iy⟩ (.inl px)⟩
theorem Bb (k : eA P kd) (L : i4 P) (I : Inv X pins σ H s) {u u' : Value} {d d' : D} (t : Tells X.K H Z u d) (t' : Tells X.K H Z' u' d') (p : P d) (p' : P d') (hu : A.units + d.dep < cLine) : A8 kd A s u u' (bD .lt d d') := by
 have hc := L.cm d d' p p'
 cases k with
 | one T hT hp => exact yX I t t' hc (hp d p).1 hu
 | tup T hT hp =>
  obtain ⟨x, ds, rfl, px, tx⟩ := hp d p;obtain ⟨x', ds', rfl, px', tx'⟩ := hp d' p';refine Es I t t' hc (fun _ y r e => by cases e; exact px) ?_;unfold D.dep at hu;omega
open Classical in
noncomputable def uV (K : Frag) (H : Hp) (Z : aE) (P : D -> Prop) (L : i4 P) (d0 : {d // P d}) : PyProof.Rows.KeyKind where
 α := {d // P d}
 blt a b := bD .lt a.1 b.1
 irrefl a := L.ir a.1 a.2
 trans a b c := L.tr a.1 b.1 c.1 a.2 b.2 c.2
 negTrans a b c h := by
  cases q : bD .lt a.1 b.1 with
  | true => exact .inl rfl
  | false =>
   refine .inr ?_
   cases q2 : bD .lt b.1 a.1 with
   | true => exact L.tr b.1 a.1 c.1 b.2 a.2 c.2 q2 h
   | false => rw [<- L.tt a.1 b.1 a.2 b.2 q q2]; exact h
 total a b h1 h2 := Subtype.ext (L.tt a.1 b.1 a.2 b.2 h1 h2)
 keyOf u := if h : ∃ d : {d // P d}, Tells K H Z u d.1 then some (Classical.choose h) else none
 dflt := d0
theorem qw (I : Inv X pins σ H s) (L : i4 P) {d0 : {d // P d}} {u : Value} {d : D} (p : P d) (t : Tells X.K H Z u d) : (uV X.K H Z P L d0).keyOf u = some ⟨d, p⟩ := by
 have h : ∃ d : {d // P d}, Tells X.K H Z u d.1 := ⟨⟨d, p⟩, t⟩
 unfold uV;dsimp only;rw [dif_pos h];exact congrArg some (Subtype.ext (Tells.one I (Classical.choose_spec h) t))
theorem vU (k : eA P kd) (L : i4 P) (I : Inv X pins σ H s) {d0 : {d // P d}} {a0 : Array Keyed} {w : World} {prog : Program} (h : ∀ p ∈ a0.toList, ∃ d, P d /\ Tells X.K H Z p.1 d /\ A.units + d.dep < cLine) : pU (uV X.K H Z P L d0) kd a0 prog w A E s := by
 intro st i j Q hB hi hj q;rw [ltAt'_eq];refine wpS_bind (wpS_get ?_);show wpS _ _ _ _ (do let x <- elem' (arrOf st) i; let y <- elem' (arrOf st) j; lt' x y) Q st;have hi' : i < (arrOf st).size := by rw [hB.sz]; exact hi
 have hj' : j < (arrOf st).size := by rw [hB.sz]; exact hj
 have mem : ∀ n (hn : n < (arrOf st).size), (arrOf st)[n] ∈ a0.toList := fun n hn => (Array.perm_iff_toList_perm.mp hB.pm).mem_iff.mp (by simp);obtain ⟨d, p, t, hu⟩ := h _ (mem i hi');obtain ⟨d', p', t', _⟩ := h _ (mem j hj');have e1 : ky (uV X.K H Z P L d0) st i = ⟨d, p⟩ := by
  show KK _ (arrOf st) i = _;unfold KK;rw [getElem?_pos (arrOf st) i hi'];show ((uV X.K H Z P L d0).keyOf (arrOf st)[i].1).getD _ = _;rw [qw I L p t]; rfl
 have e2 : ky (uV X.K H Z P L d0) st j = ⟨d', p'⟩ := by
  show KK _ (arrOf st) j = _;unfold KK;rw [getElem?_pos (arrOf st) j hj'];show ((uV X.K H Z P L d0).keyOf (arrOf st)[j].1).getD _ = _;rw [qw I L p' t']; rfl
 rw [e1, e2] at q;rw [elem'_eq, elem'_eq, getElem?_pos (arrOf st) i hi', getElem?_pos (arrOf st) j hj'];refine wpS_bind (wpS_pure (wpS_bind (wpS_pure ?_)));rw [lt'_eq];refine wpS_bind (wpS_get ?_);rw [hB.kd];refine wpS_bind (wpS_lift (wpAny_attempt (Bb k L I t t' p p' hu prog w _ _ ⟨rfl, ?_⟩)));exact wpS_pure q
theorem B9 (I : Inv X pins σ H s) (L : i4 P) {d0 : {d // P d}} {a0 xs : Array Keyed} (pm : xs.Perm a0) (up : SortedToK (uV X.K H Z P L d0) xs a0.size) {kf : Keyed -> D} (h : ∀ p ∈ a0.toList, P (kf p) /\ Tells X.K H Z p.1 (kf p)) :
 xs.toList.Pairwise fun p q => bD .lt (kf q) (kf p) = false := by
 rw [List.pairwise_iff_getElem];intro i j hi hj hij;have hi' : i < xs.size := by simpa using hi
 have hj' : j < xs.size := by simpa using hj
 have mem : ∀ n (hn : n < xs.size), xs[n] ∈ a0.toList := fun n hn => (Array.perm_iff_toList_perm.mp pm).mem_iff.mp (by simp);have e : ∀ n (hn : n < xs.size), KK (uV X.K H Z P L d0) xs n = ⟨kf xs[n], (h _ (mem n hn)).1⟩ := fun n hn => by
  unfold KK;rw [getElem?_pos xs n hn];show ((uV X.K H Z P L d0).keyOf xs[n].1).getD _ = _;rw [qw I L (h _ (mem n hn)).1 (h _ (mem n hn)).2]; rfl
 have key := up i j (by omega) (by rw [<- pm.size_eq]; exact hj');rw [e i hi', e j hj'] at key;have key2 : bD .lt (kf xs[j]) (kf xs[i]) = false := key;simpa using key2
variable {prog : Program} {w : World} {κ : PyProof.Rows.KeyKind}
theorem vc {a : Addr} {us : HF} {n : Nat} {R : Fin -> Shared -> Prop} (ho : s.heap.get? a = some (seqObj "list" us.toArray n)) (h64 : us.length < 64)
 (hk : ∀ (h' : Heap) (Q : SortKind -> Shared -> Prop), (∀ b o, b ≠ a -> s.heap.get? b = some o -> h'.get? b = some o) -> us ≠ [] -> Q kd { s with heap := h' } -> wpAny (model prog w) A (keyKind' us.toArray) Q E { s with heap := h' })
 (hA : ∀ h' : Heap, (∀ b o, b ≠ a -> s.heap.get? b = some o -> h'.get? b = some o) -> pU κ kd (pairsOf us) prog w A E { s with heap := h' })
 (h : ∀ t : Array Keyed, t.Perm (pairsOf us) -> SortedToK κ t (pairsOf us).size -> R (.done (.ret .none)) { s with heap := sortedHeap s.heap a us (t.map (·.2)) }) :
 wpAny (model prog w) A (Builtin.«list.sort» ⟨[.ref a], []⟩) R E s := by
 rw [list_sort_plain];have la : a < s.heap.objs.size := lt_size ho;obtain ⟨m, ho1⟩ : ∃ m, (s.heap.update a (Obj.mapSeq fun _ => #[])).get? a = some (seqObj "list" #[] m) := ⟨_, get?_update_seq ho (fun _ => #[])⟩
 refine wpAny_bind (listItems_at ho rfl (wpAny_bind (listUpdate_at ho rfl (wpAny_bind (seqEpoch_at ho1 rfl (wpAny_bind (wpAny_newTuple (wpAny_bind (wpAny_newList (wpAny_holding ?_))))))))));have keeps : ∀ b o, b ≠ a -> s.heap.get? b = some o -> (((s.heap.update a (Obj.mapSeq fun _ => #[])).push (seqObj "tuple" us.toArray 0)).push (seqObj "list" #[] 0)).get? b = some o := fun b o ne e => by
  have lb : b < s.heap.objs.size := lt_size e;rw [Heap.get?_push_ne _ _ _ (by rw [size_push', Heap.size_update]; exact Nat.ne_of_lt (Nat.lt_succ_of_lt lb)), Heap.get?_push_ne _ _ _ (by rw [Heap.size_update]; exact Nat.ne_of_lt lb), Heap.get?_update_ne _ _ _ _ ne];exact e
 have hoE : (((s.heap.update a (Obj.mapSeq fun _ => #[])).push (seqObj "tuple" us.toArray 0)).push (seqObj "list" #[] 0)).get? a = some (seqObj "list" #[] m) := by
  rw [Heap.get?_push_ne _ _ _ (by rw [size_push', Heap.size_update]; exact Nat.ne_of_lt (Nat.lt_succ_of_lt la)), Heap.get?_push_ne _ _ _ (by rw [Heap.size_update]; exact Nat.ne_of_lt la)];exact ho1
 show wpAny (model prog w) A _ R E { s with heap := ((s.heap.update a (Obj.mapSeq fun _ => #[])).push (seqObj "tuple" us.toArray 0)).push (seqObj "list" #[] 0) };dsimp only;have fits : ∀ t : Array Keyed, t.Perm (pairsOf us) -> (t.map (·.2)).size <= sizeLine + 1 := fun t pm => by
  rw [Array.size_map, pm.size_eq, pairsOf_size, sizeLine_eq]; omega
 by_cases few : us.toArray.size < 2
 . rw [if_pos few, if_pos few];refine wpAny_bind (wpAny_pure ?_);rw [StateT.run_pure];refine wpAny_bind (wpAny_pure ?_);dsimp only;refine wpAny_bind (seqEpoch_at hoE rfl (wpAny_bind (listUpdate_at hoE rfl ?_ (hsz2 := fits _ (Array.Perm.refl _)))));simp only [bne_self_eq_false, Bool.false_eq_true, if_false];refine wpAny_pure (h _ (Array.Perm.refl _) fun i j le lt => ?_);rw [pairsOf_size] at lt;simp at few;rw [show i = j by omega];exact KeyOrd.kle_refl _
 . rw [if_neg few, if_neg few];have l2 : 2 <= (pairsOf us).size := by rw [pairsOf_size]; simp at few; omega
   refine wpAny_bind (hk _ _ keeps (by rintro rfl; simp at few) ?_);refine wpAny_bind (wpAny_mono (sX (κ := κ) (kd := kd) (a0 := pairsOf us) (st := SortSt.mk' kd (us.toArray.zip us.toArray) #[] 7 none) (Q := fun _ t => (arrOf t).Perm (pairsOf us) /\ failedOf t = none /\ SortedToK κ (arrOf t) (pairsOf us).size)
    (hA (((s.heap.update a (Obj.mapSeq fun _ => #[])).push (seqObj "tuple" us.toArray 0)).push (seqObj "list" #[] 0)) keeps) l2 (by rw [pairsOf_size]; exact h64) ⟨Array.Perm.refl _, rfl, rfl, rfl⟩ fun t a1 a2 a3 => ⟨a1, a2, a3⟩) ?_ fun _ _ e => e)
   rintro ⟨⟨⟩, t⟩ s' ⟨rfl, pm, ok, up⟩;dsimp only;refine wpAny_bind (seqEpoch_at hoE rfl (wpAny_bind (listUpdate_at hoE rfl ?_ (hsz2 := fits _ pm))));rw [ok];simp only [bne_self_eq_false, Bool.false_eq_true, if_false];exact wpAny_pure (h _ pm up)
end
def qW (f : D -> D) (ds : List D) : List D := ds.mergeSort fun x y => !bD .lt (f y) (f x)
theorem mB (f : D -> D) (ds : List D) : (qW f ds).Perm ds := List.mergeSort_perm _ _
theorem sV {α β : Type} {R : α -> β -> Prop} {l l' : List α} (p : l'.Perm l) : ∀ {r : List β}, Paired R l r -> ∃ r', r'.Perm r /\ Paired R l' r' := by
 induction p with
 | nil => intro r h; cases h; exact ⟨[], .refl _, .nil⟩
 | cons x p ih =>
  intro r h
  cases h with
  | cons a t =>
   obtain ⟨r', p', h'⟩ := ih t;exact ⟨_ :: r', p'.cons _, .cons a h'⟩
 | swap x y l =>
  intro r h
  cases h with
  | cons a t => cases t with
   | cons b t => exact ⟨_ :: _ :: _, .swap _ _ _, .cons b (.cons a t)⟩
 | trans p q ih1 ih2 =>
  intro r h;obtain ⟨r1, p1, h1⟩ := ih2 h;obtain ⟨r2, p2, h2⟩ := ih1 h1;exact ⟨r2, p2.trans p1, h2⟩
theorem mv {α β γ δ : Type} {R : α -> β -> Prop} {S : γ -> δ -> Prop} {f : α -> γ} {g : β -> δ} : ∀ {l : List α} {r : List β}, Paired R l r -> (∀ a b, a ∈ l -> b ∈ r -> R a b -> S (f a) (g b)) -> Paired S (l.map f) (r.map g)
 | _, _, .nil, _ => .nil
 | _, _, .cons a t, h => .cons (h _ _ (by simp) (by simp) a) (mv t fun x y hx hy z => h x y (by simp [hx]) (by simp [hy]) z)
theorem pA {α : Type} : ∀ {l r : List α}, Paired (fun a b => a = b) l r -> l = r
 | _, _, .nil => rfl
 | _, _, .cons a t => by rw [a, pA t]
theorem i9 {K : Frag} {H : Hp} {Z : aE} : ∀ {prs : List (V × D)}, (∀ q ∈ prs, In K H Z q.2 q.1) -> aH K H Z (prs.map (·.2)) (prs.map (·.1))
 | [], _ => aC.mpr rfl
 | q :: prs, h => ar.mpr ⟨_, _, rfl, h q (by simp), i9 fun x hx => h x (by simp [hx])⟩
section
variable {X : Cx} {pins : HI} {σ : St} {H : Hp} {s : Shared} {Z Z' : aE} {A : Around} {P : D -> Prop} {kd : SortKind} {M : Model} {E : HB} {f : D -> D}
theorem tf (I : Inv X pins σ H s) (L : i4 P) {d0 : {d // P d}} {prs : List (V × D)} {a0 t : Array Keyed} (pr : Paired (fun (p : Keyed) (q : V × D) => RelV q.1 p.2 /\ Tells X.K H Z p.1 (f q.2)) a0.toList prs) (hP : ∀ q ∈ prs, P (f q.2))
 (pm : t.Perm a0) (up : SortedToK (uV X.K H Z P L d0) t a0.size) : ∃ prs' : List (V × D), prs'.Perm prs /\ Vals (prs'.map (·.1)) (t.map (·.2)).toList /\ (prs'.map (·.2)).Pairwise fun x y => bD .lt (f y) (f x) = false := by
 have pl := Array.perm_iff_toList_perm.mp pm;obtain ⟨prs', pp, pr'⟩ := sV pl pr;have ex : ∀ p ∈ a0.toList, ∃ q, q ∈ prs /\ Tells X.K H Z p.1 (f q.2) := by
  intro p hp;have : ∀ {l : List Keyed} {r : List (V × D)}, Paired (fun (p : Keyed) (q : V × D) => RelV q.1 p.2 /\ Tells X.K H Z p.1 (f q.2)) l r -> p ∈ l -> ∃ q, q ∈ r /\ Tells X.K H Z p.1 (f q.2) := by
   intro l r h
   induction h with
   | nil => intro z; simp at z
   | cons a t ih =>
    intro z;rcases mem_cons.mp z with rfl | z
    . exact ⟨_, by simp, a.2⟩
    . obtain ⟨q, hq, tq⟩ := ih z;exact ⟨q, by simp [hq], tq⟩
  exact this pr hp
 have hkf : ∃ kf : Keyed -> D, ∀ p ∈ a0.toList, P (kf p) /\ Tells X.K H Z p.1 (kf p) := by
  refine ⟨fun p => open Classical in if h : ∃ d, P d /\ Tells X.K H Z p.1 d then Classical.choose h else .non, fun p hp => ?_⟩;obtain ⟨q, hq, tq⟩ := ex p hp;have h : ∃ d, P d /\ Tells X.K H Z p.1 d := ⟨_, hP q hq, tq⟩
  dsimp only;rw [dif_pos h];exact Classical.choose_spec h
 obtain ⟨kf, hkf⟩ := hkf;have pw := B9 I L pm up hkf;refine ⟨prs', pp, ?_, ?_⟩
 . rw [Array.toList_map];have : ∀ {l : List Keyed} {r : List (V × D)}, Paired (fun (p : Keyed) (q : V × D) => RelV q.1 p.2 /\ Tells X.K H Z p.1 (f q.2)) l r -> Vals (r.map (·.1)) (l.map (·.2)) := by
    intro l r h
    induction h with
    | nil => exact .nil
    | cons a t ih => exact .cons a.1 ih
   exact this pr'
 . have e : t.toList.map kf = prs'.map fun q => f q.2 :=
    pA (mv pr' fun p q hp hq z => Tells.one I (hkf p (pl.mem_iff.mp hp)).2 z.2)
   have pw2 : (t.toList.map kf).Pairwise fun x y => bD .lt y x = false := by rw [List.pairwise_map]; exact pw
   rw [e, List.pairwise_map] at pw2;rw [List.pairwise_map];exact pw2
theorem qm (L : i4 P) {ds ds' : List D} (hP : ∀ d ∈ ds, P (f d)) (inj : ∀ a ∈ ds, ∀ b ∈ ds, f a = f b -> a = b) (pm : ds'.Perm ds) (pw : ds'.Pairwise fun x y => bD .lt (f y) (f x) = false) : ds' = qW f ds := by
 have P' : ∀ d ∈ ds', P (f d) := fun d hd => hP d (pm.mem_iff.mp hd);have neg : ∀ x y z, P (f x) -> P (f y) -> P (f z) -> bD .lt (f y) (f x) = false -> bD .lt (f z) (f y) = false -> bD .lt (f z) (f x) = false := fun x y z px py pz a b => by
  cases q : bD .lt (f z) (f x) with
  | false => rfl
  | true =>
   cases q2 : bD .lt (f x) (f y) with
   | true => rw [L.tr _ _ _ pz px py q q2] at b; cases b
   | false => rw [L.tt _ _ px py q2 a] at q; rw [q] at b; cases b
 have hs : (qW f ds).Pairwise fun x y => bD .lt (f y) (f x) = false := by
  let ds2 : List {d // P (f d)} := ds.attach.map fun d => ⟨d.1, hP d.1 d.2⟩
  have e : ds = ds2.map (·.1) := by simp [ds2]
  have e2 : qW f ds = (ds2.mergeSort fun x y => !bD .lt (f y.1) (f x.1)).map (·.1) := by
   unfold qW;rw [e];exact (List.map_mergeSort (f := fun z : {d // P (f d)} => z.1) (r := fun x y => !bD .lt (f y.1) (f x.1)) (s := fun x y => !bD .lt (f y) (f x)) (fun a _ b _ => rfl)).symm
  rw [e2, List.pairwise_map];have := List.pairwise_mergeSort (le := fun (x y : {d // P (f d)}) => !bD .lt (f y.1) (f x.1)) (fun a b c h1 h2 => by
   simp only [Bool.not_eq_true'] at *;exact neg a.1 b.1 c.1 a.2 b.2 c.2 h1 h2) (fun a b => by
   cases q : bD .lt (f b.1) (f a.1) with
   | false => simp
   | true =>
    have z : bD .lt (f a.1) (f b.1) = false := by
     cases q2 : bD .lt (f a.1) (f b.1) with
     | false => rfl
     | true => have w := L.tr _ _ _ a.2 b.2 a.2 q2 q; rw [L.ir _ a.2] at w; cases w
    simp [z]) ds2
  exact this.imp fun h => by simpa using h
 refine List.Perm.eq_of_pairwise (le := fun x y => bD .lt (f y) (f x) = false) ?_ pw hs (pm.trans (mB f ds).symm);intro a b ha hb h1 h2;have hb' : b ∈ ds := (mB f ds).mem_iff.mp hb;exact inj a (pm.mem_iff.mp ha) b hb' (L.tt _ _ (P' a ha) (hP b hb') h2 h1)
end
section
variable {X : Cx}
theorem mL {K : Frag} {H : Hp} {Z : aE} : ∀ {ds : List D} {ys : List V} {its : HF}, Vals ys its -> aH K H Z ds ys -> Paired (fun (p : Keyed) (q : V × D) => RelV q.1 p.2 /\ Tells K H Z p.1 (id q.2)) (its.zip its) (ys.zip ds)
 | [], ys, its, r, j => by cases aC.mp j; cases r; exact .nil
 | d :: ds, ys, its, r, j => by
  obtain ⟨v, vs, rfl, i, j⟩ := ar.mp j
  cases r with
  | cons a r => exact .cons ⟨a, v, a, i⟩ (mL r j)
theorem qa {K : Frag} {H : Hp} {Z : aE} : ∀ {ds : List D} {ys : List V}, aH K H Z ds ys -> ∀ q ∈ ys.zip ds, In K H Z q.2 q.1
 | [], ys, j, q, hq => by simp at hq
 | d :: ds, ys, j, q, hq => by
  obtain ⟨v, vs, rfl, i, j⟩ := ar.mp j;rcases mem_cons.mp hq with rfl | hq
  . exact i
  . exact qa j q hq
variable {ρ : List (Option D)} {m m1 : Bool} {a : Expr} {ds : List D} {p pos : Pos} {P : D -> Prop} {kd : SortKind}
theorem tV {ds es : List D} (p : es.Perm ds) (h : bj ds = true) : bj es = true := by
 have mem : ∀ {l : List D}, bj l = true ↔ ∀ d ∈ l, d.flat = true := by
  intro l
  induction l with
  | nil => simp [bj]
  | cons x l ih => simp [bj, ih]
 exact mem.mpr fun d hd => mem.mp h d (p.mem_iff.mp hd)
end
theorem rj (a fa : Addr) : Builtin.«list.sort» ⟨[.ref a], [(("key" : Str), .ref fa)]⟩ = (do
 let items <- Builtin.List.listItems (.ref a)
 Builtin.List.listUpdate (.ref a) fun _ => #[]
 let before <- seqEpoch a
 let held <- newTuple items.toList
 let store <- newList []
 holding [held, store] do
  rule "list.sort.key"
  for x in items do
   match <- (call (.ref fa) [x]).attempt with
   | .ok k => Builtin.List.listUpdate store (·.push k)
   | .error e =>
    rule "list.sort.key-raised"
    let made <- Builtin.List.listItems store
    Builtin.List.listUpdate store fun _ => #[]
    letGo made.toList.reverse [e]
    Builtin.List.listUpdate (.ref a) (fun _ => items); throw e
  let keys <- Builtin.List.listItems store
  let kind <- if items.size < 2 then pure general' else keyKind' keys
  let ((), st) <- (if items.size < 2 then pure () else sortRuns').run (SortSt.mk' kind (keys.zip items) #[] 7 none)
  Builtin.List.listUpdate store (fun _ => #[])
  letGo ((arrOf st).map (·.1)).toList (failedOf st).toList
  let touched := (<- seqEpoch a) != before
  Builtin.List.listUpdate (.ref a) (fun _ => (arrOf st).map (·.2))
  if let some e := failedOf st then rule "list.sort.comparison-raised"; throw e
  if touched then rule "list.sort.modified"; raiseError "ValueError" "list modified during sort"
  ret .none) := rfl
structure tQ (X : Cx) (A : Around) (σ : St) (fa : Addr) (f : D -> D) (P0 : D -> Prop) (Good : Hp -> aE -> Prop) : Prop where
 zone : ∀ {H : Hp} {Z Z' : aE}, (∀ a o, H a = some o -> Z.S a -> Z'.S a) -> (Z.m = false -> Z'.m = false) -> Good H Z -> Good H Z'
 same : ∀ {H H' : Hp} {Z : aE}, au H H' -> Good H Z -> Good H' Z
 write : ∀ {H : Hp} {Z : aE} {l : Addr} {xs ys : List V}, H l = some (.lst xs) -> ¬ Z.S l -> Good H Z -> Good (upd H l (.lst ys)) Z
 run : ∀ (E : HB) (pins : HI) (s : Shared) (H : Hp) (Z : aE) (u : Value) (d : D) (Q : HB), Inv X pins σ H s -> Z.Open H -> Good H Z -> Tells X.K H Z u d -> P0 d ->
  (∀ k H' s', Inv X pins σ H' s' -> au H H' -> Tells X.K H' Z k (f d) -> Q k s') -> wpAny (model X.prog X.w) A (call (.ref fa) [u]) Q E s
theorem TabsOk.GD {H : Hp} {a : Addr} {φ : Heap -> Prop} {o : HO} (t : TabsOk H) (ha : H a = some (.ext φ)) (no : ∀ qn : Str, (fun h : Heap => h.CodeRec (.ref a) qn) ≠ φ) : TabsOk (L2.upd H a o) := fun P hP => by
 obtain ⟨ps, e, tr, k⟩ := t P hP;refine ⟨ps, by rw [ae (eF e ha (by intro z; cases z))]; exact e, tr, fun pos cv q => ?_⟩;obtain ⟨c, rfl, hc⟩ := k pos cv q;have : c ≠ a := fun z => by
  subst z;rw [ha] at hc;have z2 := Option.some.inj hc;unfold om at z2;injection z2 with z3;exact no P.2 z3.symm
 exact ⟨c, rfl, by rw [ae this]; exact hc⟩
theorem pI {K : Frag} {H : Hp} {Z : aE} {f : D -> D} : ∀ {ds : List D} {xs : List V} {us : HF} {kvs : List V} {ks : HF}, xs.length = ds.length -> Vals xs us -> aH K H Z (ds.map f) kvs -> Vals kvs ks ->
 Paired (fun (p : Keyed) (q : V × D) => RelV q.1 p.2 /\ Tells K H Z p.1 (f q.2)) (ks.zip us) (xs.zip ds)
 | [], xs, us, kvs, ks, hl, r, j, r2 => by
  cases aC.mp j;cases r2
  cases r with
  | nil => exact .nil
  | cons _ _ => simp at hl
 | d :: ds, xs, us, kvs, ks, hl, r, j, r2 => by
  obtain ⟨v, vs, rfl, i, j⟩ := ar.mp j
  cases r2 with
  | cons a r2 =>
   cases r with
   | nil => simp at hl
   | cons b r => exact .cons ⟨b, v, a, i⟩ (pI (by simpa using hl) r j r2)
section
variable {X : Cx} {pins : HI} {σ : St} {H : Hp} {s : Shared} {Z : aE} {A : Around} {P P0 : D -> Prop} {kd : SortKind} {E : HB} {f : D -> D} {fa a : Addr} {Good : Hp -> aE -> Prop}
theorem yD (kk : tQ X A σ fa f P0 Good) (L : i4 P) (kn : eA P kd) {ds : List D} {xs : List V} {us : HF} (hP : ∀ d ∈ ds, P0 d /\ P (f d) /\ A.units + (f d).dep < cLine) (inj : ∀ x ∈ ds, ∀ y ∈ ds, f x = f y -> x = y)
 (I : Inv X pins σ H s) (oz : Z.Open H) (g : Good H Z) (ix : aH X.K H Z ds xs) (vx : Vals xs us) (h64 : us.length < 64) {h1 : Heap} {t1 n : Nat} (k1 : ∀ b o, s.heap.get? b = some o -> h1.get? b = some o) (la : s.heap.objs.size <= a)
 (ho : h1.get? a = some (seqObj "list" us.toArray n)) {R : Fin -> Shared -> Prop}
 (fin : ∀ H' s' (prs : List (V × D)), Inv X pins σ H' s' -> au H H' -> H a = none -> H' a = some (.lst (prs.map (·.1))) -> prs.Perm (xs.zip ds) -> prs.map (·.2) = qW f ds -> R (.done (.ret .none)) s') :
 wpAny (model X.prog X.w) A (Builtin.«list.sort» ⟨[.ref a], [(("key" : Str), .ref fa)]⟩) R E { s with heap := h1, toks := t1 } := by
 rw [rj];have z1 := ix.length; have z2 := vx.length;have la' : a < h1.objs.size := lt_size ho;obtain ⟨m, ho1⟩ : ∃ m, (h1.update a (Obj.mapSeq fun _ => #[])).get? a = some (seqObj "list" #[] m) := ⟨_, get?_update_seq ho (fun _ => #[])⟩
 refine wpAny_bind (listItems_at (s := { s with heap := h1, toks := t1 }) ho rfl ?_);refine wpAny_bind (listUpdate_at (s := { s with heap := h1, toks := t1 }) ho rfl ?_ (by simp only [size_toArray, sizeLine_eq]; omega) (by simp));refine wpAny_bind (seqEpoch_at (s := { s with heap := h1.update a (Obj.mapSeq fun _ => #[]), toks := t1 }) ho1 rfl ?_);refine wpAny_bind (wpAny_newTuple ?_);have k3 : ∀ b o, s.heap.get? b = some o -> ((h1.update a (Obj.mapSeq fun _ => #[])).push (seqObj "tuple" us.toArray 0)).get? b = some o := fun b o e => by
  have lb := lt_size e;have ne : b ≠ a := Nat.ne_of_lt (Nat.lt_of_lt_of_le lb la);have lb1 := lt_size (k1 b o e);rw [Heap.get?_push_ne _ _ _ (by rw [Heap.size_update]; exact Nat.ne_of_lt lb1), Heap.get?_update_ne _ _ _ _ ne];exact k1 b o e
 have ho3 : ((h1.update a (Obj.mapSeq fun _ => #[])).push (seqObj "tuple" us.toArray 0)).get? a = some (seqObj "list" #[] m) := by
  rw [Heap.get?_push_ne _ _ _ (by rw [Heap.size_update]; exact Nat.ne_of_lt la')];exact ho1
 show wpAny (model X.prog X.w) A _ R E { s with heap := (h1.update a (Obj.mapSeq fun _ => #[])).push (seqObj "tuple" us.toArray 0), toks := t1 };generalize ((h1.update a (Obj.mapSeq fun _ => #[])).push (seqObj "tuple" us.toArray 0)) = h3 at k3 ho3 ⊢;have Ha0 : H a = none := I.hok.fresh la;have Ia : Inv X pins σ (upd H a (.ext fun h => h.get? a = some (seqObj "list" #[] m))) { s with heap := h3, toks := t1 } := I.laid k3 la ⟨ho3, ⟨_, ho3⟩, fun g1 g2 z k => k _ z⟩;refine wpAny_bind (wpAny_newList ?_);have Iq := Ia.Fh (ys := []) (its := []) (t' := t1) .nil (by simp);have q0 := Ia.fresh;show wpAny (model X.prog X.w) A _ R E { s with heap := h3.push (seqObj "list" #[] 0), toks := t1 };have Hq0 : H h3.objs.size = none := by
  have z := q0;by_cases e : h3.objs.size = a
  . rw [e]; exact Ha0
  . change upd H a _ h3.objs.size = none at z;rw [ae e] at z; exact z
 have neq : a ≠ h3.objs.size := Nat.ne_of_lt (lt_size ho3);generalize hQ : h3.objs.size = q at q0 Hq0 neq ⊢;have Iq' : Inv X pins σ (upd (upd H a (.ext fun h => h.get? a = some (seqObj "list" #[] m))) q (.lst [])) { s with heap := h3.push (seqObj "list" #[] 0), toks := t1 } := by rw [<- hQ]; exact Iq
 clear Iq
 -- what every state in the loop bears
 have openQ : ∀ {H' : Hp} {kvs : List V}, au H H' -> H' q = some (.lst kvs) -> aE.Open ⟨Z.m, fun b => Z.S b /\ b ≠ q⟩ H' := fun {H' kvs} k hq => ⟨fun b e => ⟨oz.op b (k.free e), fun z => by rw [z, hq] at e; cases e⟩, k.tabs oz.tb⟩
 have carryQ : ∀ {H' : Hp}, au H H' -> Carry X.K H Z H' ⟨Z.m, fun b => Z.S b /\ b ≠ q⟩ := fun {H'} k =>
  Carry.of k (fun b ys e z => ⟨z, fun w => by rw [w, Hq0] at e; cases e⟩) fun z => z
 refine wpAny_holding (wpAny_bind (wpAny_rule ?_));refine wpAny_bind (wpAny_forIn_array' _ (fun rest _ st => ∃ (H' : Hp) (kvs : List V), Inv X pins σ H' st /\ (au H H' /\ H' a = some (.ext fun h => h.get? a = some (seqObj "list" #[] m))) /\ H' q = some (.lst kvs) /\
  Good H' ⟨Z.m, fun b => Z.S b /\ b ≠ q⟩ /\ kvs.length <= us.length /\ rest = us.drop kvs.length /\ aH X.K H' ⟨Z.m, fun b => Z.S b /\ b ≠ q⟩ ((ds.take kvs.length).map f) kvs) _ ?turn ?over _ _ ?start)
 case start =>
  have sm0 : au H (upd (upd H a (.ext fun h => h.get? a = some (seqObj "list" #[] m))) q (.lst [])) := (az Ha0).trans (az q0);exact ⟨_, [], Iq', ⟨sm0, by rw [ae neq, ak]⟩, ak, kk.same sm0 (kk.zone (Z := Z) (fun b o e z => ⟨z, fun w => by rw [w, Hq0] at e; cases e⟩) (fun z => z) g), Nat.zero_le _, by simp, aC.mpr rfl⟩
 case turn =>
  rintro x rest _ st ⟨H', kvs, I', ⟨kp, hae⟩, hq, gd, hle, hr, jn⟩;have hlt : kvs.length < us.length := by
   have := congrArg List.length hr;simp at this; omega
  have hx : us[kvs.length] = x /\ us.drop (kvs.length + 1) = rest := by
   rw [List.drop_eq_getElem_cons hlt] at hr;injection hr with e1 e2;exact ⟨e1.symm, e2.symm⟩
  have hd : kvs.length < ds.length := by omega
  obtain ⟨v, ev, iv⟩ := ix.get (i := kvs.length) (d := ds[kvs.length]) (by simp [hd]);obtain ⟨u', eu, ru⟩ := vx.get ev;have e2 : u' = x := by
   have t := (List.getElem?_eq_some_iff.mp eu).2;rw [<- t]; exact hx.1
  subst e2;refine wpAny_bind (wpAny_attempt (kk.run _ pins st H' _ u' ds[kvs.length] _ I' (openQ kp hq) gd ⟨v, ru, iv.carry (carryQ kp)⟩ (hP _ (getElem_mem hd)).1 fun k H2 s2 I2 sm ⟨kv, rk, ik⟩ => ?_));dsimp only;have hq2 : H2 q = some (.lst kvs) := sm.at hq;obtain ⟨zl, its, n2, rv, ll, ho2⟩ := I2.Aa hq2;refine wpAny_bind (listUpdate_at ho2 rfl (wpAny_pure ?_) (by simp only [size_toArray, sizeLine_eq]; omega) (by simp only [Array.size_push, size_toArray, sizeLine_eq]; omega));dsimp only;refine ⟨upd H2 q (.lst (kvs ++ [kv])), kvs ++ [kv], I2.BL (t' := s2.toks) (its' := its ++ [k]) hq2 ho2 (by simp) (rv.append (.cons rk .nil)) (by simp only [List.length_append, length_cons, List.length_nil, sizeLine_eq]; omega), ⟨(kp.trans sm).write Hq0 hq2, by rw [ae neq]; exact sm.at hae⟩, ak, ?_, by simp; omega, by simp [hx.2], ?_⟩
  . exact kk.write hq2 (fun z => z.2 rfl) (kk.same sm gd)
  . have e3 : (ds.take (kvs ++ [kv]).length).map f = (ds.take kvs.length).map f ++ [f ds[kvs.length]] := by
     rw [List.length_append, length_cons, List.length_nil, take_add_one, map_append];simp [hd]
    rw [e3];have cw : Carry X.K H2 ⟨Z.m, fun b => Z.S b /\ b ≠ q⟩ (upd H2 q (.lst (kvs ++ [kv]))) ⟨Z.m, fun b => Z.S b /\ b ≠ q⟩ := Carry.write hq2 (fun z => z.2 rfl);exact ((jn.same sm).carry cw).append (aH.one (ik.carry cw))
 case over =>
  rintro _ st ⟨H', kvs, I', ⟨kp, hae⟩, hq, gd, hle, hr, jn⟩;have hlen : kvs.length = us.length := by
   have := congrArg List.length hr;simp at this; omega
  have jn' : aH X.K H' ⟨Z.m, fun b => Z.S b /\ b ≠ q⟩ (ds.map f) kvs := by
   rw [hlen, show us.length = ds.length by omega, take_length] at jn; exact jn
  obtain ⟨zl, ks, n2, rv, ll, ho2⟩ := I'.Aa hq;refine wpAny_bind (listItems_at ho2 rfl ?_);have pr := pI (K := X.K) (by omega) vx jn' rv;have hsz : ks.toArray.size = us.toArray.size := by simp; omega
  -- behind the sort
  have tail : ∀ (tt : SortSt) (prs : List (V × D)), failedOf tt = none -> prs.Perm (xs.zip ds) -> Vals (prs.map (·.1)) ((arrOf tt).map (·.2)).toList -> prs.map (·.2) = qW f ds ->
   wpAny (model X.prog X.w) A (do
    Builtin.List.listUpdate (.ref q) (fun _ => #[])
    letGo ((arrOf tt).map (·.1)).toList (failedOf tt).toList
    let touched := (<- seqEpoch a) != m
    Builtin.List.listUpdate (.ref a) (fun _ => (arrOf tt).map (·.2))
    if let some e := failedOf tt then rule "list.sort.comparison-raised"; throw e
    if touched then rule "list.sort.modified"; raiseError "ValueError" "list modified during sort"
    ret .none) R E st := by
   intro tt prs ok pp vv e;refine wpAny_bind (listUpdate_at ho2 rfl ?_ (by simp only [size_toArray, sizeLine_eq]; omega) (by simp));have I5 := I'.BL (t' := st.toks) (its' := []) (ys := []) (f := fun _ => #[]) hq ho2 (by simp) .nil (by simp);have ha5 : upd H' q (.lst []) a = some (.ext fun h => h.get? a = some (seqObj "list" #[] m)) := by rw [ae neq]; exact hae
   have ho5 : ({ st with heap := st.heap.update q (Obj.mapSeq fun _ => #[]), toks := st.toks } : Shared).heap.get? a = some (seqObj "list" #[] m) := (I5.hok a _ ha5).1;refine wpAny_bind (wpAny_letGo ?_);refine wpAny_bind (seqEpoch_at (s := { st with heap := st.heap.update q (Obj.mapSeq fun _ => #[]), toks := st.toks }) ho5 rfl ?_);have nout : ((arrOf tt).map (·.2)).size <= sizeLine := by
    have z := vv.length;have z3 := pp.length_eq;rw [List.length_zip] at z3;rw [length_map] at z;rw [<- Array.length_toList, <- z, z3, sizeLine_eq]; omega
   refine wpAny_bind (listUpdate_at (s := { st with heap := st.heap.update q (Obj.mapSeq fun _ => #[]), toks := st.toks }) ho5 rfl ?_ (by simp) (Nat.le_succ_of_le nout));rw [ok];simp only [bne_self_eq_false, Bool.false_eq_true, if_false];obtain ⟨e6, qo⟩ : ∃ e6, ((st.heap.update q (Obj.mapSeq fun _ => #[])).update a (Obj.mapSeq fun _ => (arrOf tt).map (·.2))).get? a = some (seqObj "list" ((arrOf tt).map (·.2)) e6) := ⟨_, get?_update_seq ho5 (fun _ => (arrOf tt).map (·.2))⟩
   have I6 : Inv X pins σ (upd (upd H' q (.lst [])) a (.lst (prs.map (·.1)))) { st with heap := (st.heap.update q (Obj.mapSeq fun _ => #[])).update a (Obj.mapSeq fun _ => (arrOf tt).map (·.2)), toks := st.toks } := by
    refine I5.write (x := a) (e := a) (by rw [ha5]; exact trivial) (.inl rfl) (fun b u nb hb => (Heap.get?_update_other _ _ (Ne.symm nb)).trans hb) ⟨_, qo⟩ ?_;refine ⟨?_, ((arrOf tt).map (·.2)).toList, e6, vv, by rw [Array.toArray_toList]; exact qo⟩;rw [vv.length, Array.length_toList]; exact nout
   have sm5 : au H (upd H' q (.lst [])) := kp.write Hq0 hq;have sm6 : au H (upd (upd H' q (.lst [])) a (.lst (prs.map (·.1)))) := ⟨fun b o eb n => by rw [ae (aw eb Ha0)]; exact sm5.get b o eb n, fun b qs eb => by rw [ae (aw eb Ha0)]; exact sm5.tbl b qs eb, fun t => (sm5.tabs t).GD ha5 fun qn z => by
    have z2 := (I5.hok a _ ha5).1;rw [<- z] at z2;obtain ⟨c3, o3, vs3, t3, e3, g3, d3, _⟩ := z2;cases e3;rw [ho5] at g3;cases g3;cases d3⟩
   exact wpAny_pure (fin _ _ prs I6 sm6 Ha0 ak pp e)
  by_cases few : us.toArray.size < 2
  . rw [if_pos few, if_pos few];refine wpAny_bind (wpAny_pure ?_);dsimp only;rw [StateT.run_pure];refine wpAny_bind (wpAny_pure ?_);dsimp only;refine tail (SortSt.mk' general' (ks.toArray.zip us.toArray) #[] 7 none) (xs.zip ds) rfl (.refl _) ?_ ?_
    . have e1 : ((ks.toArray.zip us.toArray).map (·.2)).toList = us := by
       simp only [List.zip_toArray, List.map_toArray];exact List.map_snd_zip (by omega)
      have e2 : (xs.zip ds).map (·.1) = xs := List.map_fst_zip (by omega);rw [e2];show Vals xs ((ks.toArray.zip us.toArray).map (·.2)).toList;rw [e1]; exact vx
    . have e2 : (xs.zip ds).map (·.2) = ds := List.map_snd_zip (by omega);rw [e2];simp at few
      match ds, z1 with
      | [], _ => simp [qW]
      | [d], _ => simp [qW]
      | d :: d2 :: r, z => simp at z; omega
  . rw [if_neg few, if_neg few];have l2 : 2 <= us.length := by simp at few; omega
    have el : ∀ u ∈ ks, ∃ d, P d /\ Tells X.K H' ⟨Z.m, fun b => Z.S b /\ b ≠ q⟩ u d /\ A.units + d.dep < cLine := fun u hu => by
     obtain ⟨i, hi, e⟩ := List.mem_iff_getElem.mp hu;have hd : i < ds.length := by omega
     obtain ⟨v, ev, iv⟩ := jn'.get (i := i) (d := f ds[i]) (by simp [hd]);obtain ⟨u', eu, ru⟩ := rv.get ev;have e2 : u' = u := by
      have t := (List.getElem?_eq_some_iff.mp eu).2;rw [<- t]; exact e
     exact ⟨_, (hP _ (getElem_mem hd)).2.1, ⟨v, e2 ▸ ru, iv⟩, (hP _ (getElem_mem hd)).2.2⟩
    have kn0 : ks ≠ [] := fun z => by rw [z] at ll; simp only [List.length_nil] at ll; omega
    refine wpAny_bind (vE kn I' (fun u hu => let ⟨d, p1, p2, _⟩ := el u hu; ⟨d, p1, p2⟩) kn0 ?_);have hd0 : 0 < ds.length := by omega
    have esz : (ks.toArray.zip us.toArray).size = us.length := by simp; omega
    have elist : (ks.toArray.zip us.toArray).toList = ks.zip us := by simp
    refine wpAny_bind (wpAny_mono (sX (κ := uV X.K H' ⟨Z.m, fun b => Z.S b /\ b ≠ q⟩ P L ⟨f ds[0], (hP _ (getElem_mem hd0)).2.1⟩) (kd := kd) (a0 := ks.toArray.zip us.toArray) (st := SortSt.mk' kd (ks.toArray.zip us.toArray) #[] 7 none)
     (Q := fun _ t => (arrOf t).Perm (ks.toArray.zip us.toArray) /\ failedOf t = none /\ SortedToK (uV X.K H' ⟨Z.m, fun b => Z.S b /\ b ≠ q⟩ P L ⟨f ds[0], (hP _ (getElem_mem hd0)).2.1⟩) (arrOf t) (ks.toArray.zip us.toArray).size)
     (vU kn L I' fun p hp => el p.1 (by rw [elist] at hp; exact (List.of_mem_zip hp).1)) (by rw [esz]; exact l2) (by rw [esz]; exact h64) ⟨Array.Perm.refl _, rfl, rfl, rfl⟩ fun t a1 a2 a3 => ⟨a1, a2, a3⟩) ?_ fun _ _ e => e)
    rintro ⟨⟨⟩, t⟩ s' ⟨rfl, pm, ok, up⟩;dsimp only;rw [<- elist] at pr;obtain ⟨prs, pp, vv, pw⟩ := tf I' L pr (fun z hz => (hP _ (List.of_mem_zip hz).2).2.1) pm up;refine tail t prs ok pp vv (qm L (f := f) (fun d hd => (hP d hd).2.1) inj ?_ pw);have e2 : (xs.zip ds).map (·.2) = ds := List.map_snd_zip (by omega);have pp2 := pp.map (·.2);rw [e2] at pp2;exact pp2
end
theorem xc {pos : Pos} {a b : Int} {c cv : Value} (l : HF) (h : TriplesOk l) (e : codeAmong pos (l ++ [rawInt a, rawInt b, c]) = some cv) : codeAmong pos l = some cv \/ cv = c := by
 fun_induction TriplesOk l with
 | case1 =>
  simp only [List.nil_append, codeAmong, rawInt] at e;split at e
  . exact .inr (Option.some.inj e).symm
  . cases e
 | case2 a' t b' u x rest ih =>
  simp only [cons_append, codeAmong] at e ⊢;split at e
  . rename_i hc; rw [if_pos hc]; exact .inl e
  . rename_i hc; rw [if_neg hc]; exact ih h e
 | case3 l h1 h2 => exact h.elim
section
variable {X : Cx} {pins : HI} {σ : St} {H : Hp} {s : Shared} {P c f : Addr} {ps more : HG} {h' : Heap} {t' : Nat}
theorem BG (I : Inv X pins σ H s) (hP : H P = some (.tbl ps)) (k : ∀ b o, b ≠ P -> s.heap.get? b = some o -> h'.get? b = some o) (htb : h'.get? P = some { cls := .none, data := .fields (ps ++ more) }) {u v : HO} (hc : s.heap.objs.size <= c) (hf : s.heap.objs.size <= f) (cf : c ≠ f)
 (oc : bR X.prog X.w (upd (upd (upd H P (.tbl (ps ++ more))) c u) f v) h' c u) (of : bR X.prog X.w (upd (upd (upd H P (.tbl (ps ++ more))) c u) f v) h' f v) :
 Inv X pins σ (upd (upd (upd H P (.tbl (ps ++ more))) c u) f v) { s with heap := h', toks := t' } := by
 have Hc : H c = none := I.hok.fresh hc;have Hf : H f = none := I.hok.fresh hf;have Pc : P ≠ c := aw hP Hc;have Pf : P ≠ f := aw hP Hf;have get : ∀ {b : Addr} {o : HO}, H b = some o -> b ≠ P -> upd (upd (upd H P (.tbl (ps ++ more))) c u) f v b = some o := fun {b o} e n => by
  rw [ae (aw e Hf), ae (aw e Hc), ae n]; exact e
 have getP : upd (upd (upd H P (.tbl (ps ++ more))) c u) f v P = some (.tbl (ps ++ more)) := by rw [ae Pf, ae Pc, ak]
 refine I.un ⟨fun b o e n hb _ => ?_, fun b o e n hb _ => ?_, fun b o e n _ => ?_, fun b o e _ => ?_, fun b xs e => ?_, fun b o u' e => ?_, fun b qs e => ?_⟩ fun b o e => ?_
 . exact k b o (fun z => by rw [z, hP] at n; cases n) e
 . exact ⟨o.slots, k b o (fun z => by rw [z, hP] at n; cases n) e⟩
 . have lb := lt_size e;have n1 : b ≠ P := fun z => by rw [z, hP] at n; cases n
   rw [ae (Nat.ne_of_lt (Nat.lt_of_lt_of_le lb hf)), ae (Nat.ne_of_lt (Nat.lt_of_lt_of_le lb hc)), ae n1]; exact n
 . by_cases z : b = P
   . exact ⟨_, by rw [z]; exact htb⟩
   . exact ⟨o, k b o z e⟩
 . exact get e (eF e hP (by intro z; cases z))
 . exact get e (eF e hP (by intro z; cases z))
 . by_cases z : b = P
   . rw [z, hP] at e;cases e;exact ⟨more, by rw [z]; exact getP⟩
   . exact ⟨#[], by rw [get e z]; simp⟩
 . by_cases z1 : b = f
   . subst z1; rw [ak] at e; cases e; exact of
   . rw [ae z1] at e;by_cases z2 : b = c
     . subst z2; rw [ak] at e; cases e; exact oc
     . rw [ae z2] at e;by_cases z3 : b = P
       . subst z3; rw [ak] at e; cases e; exact htb
       . rw [ae z3] at e;refine (I.hok b o e).mq (fun b' v' hb' q => k b' v' ?_ q) (fun b' q => get q (eF q hP (by intro z; cases z))) fun b' xs q => get q (eF q hP (by intro z; cases z));rcases hb' with z | z
         . rw [z]; exact z3
         . exact eF z hP (by intro z; cases z)
theorem Ax {qn : Str} {pos : Pos} {v : HO} (t : TabsOk H) (hT : (P, qn) ∈ cq.T) (one : ∀ q ∈ cq.T, q.1 = P -> q.2 = qn) (hP : H P = some (.tbl ps)) (hn : codeAmong pos ps.toList = none) (Hc : H c = none) (Hf : H f = none) (cf : c ≠ f) :
 TabsOk (upd (upd (upd H P (.tbl (ps ++ #[rawInt pos.line, rawInt pos.col, .ref c]))) c (om c qn)) f v) := fun Q hQ => by
 obtain ⟨qs, e, tr, kq⟩ := t Q hQ;have ne : ∀ {b : Addr} {o : HO}, H b = some o -> b ≠ P -> upd (upd (upd H P (.tbl (ps ++ #[rawInt pos.line, rawInt pos.col, .ref c]))) c (om c qn)) f v b = some o := fun {b o} e n => by
  rw [ae (aw e Hf), ae (aw e Hc), ae n]; exact e
 by_cases z : Q.1 = P
 . have qe := one Q hQ z;rw [z, hP] at e;cases e;refine ⟨ps ++ #[rawInt pos.line, rawInt pos.col, .ref c], by rw [z, ae (aw hP Hf), ae (aw hP Hc), ak], ?_, fun pos' cv q => ?_⟩
   . rw [Array.toList_append]; exact TriplesOk_snoc _ _ _ _ tr
   . rw [Array.toList_append] at q;rcases xc _ tr q with q | q
     . obtain ⟨c', rfl, hc'⟩ := kq pos' cv q;exact ⟨c', rfl, ne hc' (eF hc' hP (by intro z; cases z))⟩
     . exact ⟨c, q, by rw [ae cf, ak, qe]⟩
 . refine ⟨qs, ne e z, tr, fun pos' cv q => ?_⟩;obtain ⟨c', rfl, hc'⟩ := kq pos' cv q;exact ⟨c', rfl, ne hc' (eF hc' hP (by intro z; cases z))⟩
def CB (mg : HE) (base : Heap) : Prop := ∃ bm o, mg "__builtins__" = some (.ref bm) /\ base.get? bm = some o /\ bm ≠ builtinsNs /\ bm ≠ mainGlobals /\ o.cls = .type "module" /\ o.dict = some builtinsNs /\ o.data = .plain
structure sY (X : Cx) (c P : Addr) (qn : Str) : Prop where
 code : X.env.code = .ref c
 hd : codeHdIn X.K c P = true
 tab : (P, qn) ∈ cq.T
 one : ∀ q ∈ cq.T, q.1 = P -> q.2 = qn
 qual : X.env.qual ++ ("<lambda>" : Str) = qn
 bm : CB X.mg X.base
 gP : mainGlobals ≠ P
variable {A : Around} {E : HB} {params : Arguments} {body : Expr} {scope : Scope} {lpos : Pos} {clos : List (Str × Addr)} {qn : Str}
abbrev tI (f : Addr) (qn : Str) (params : Arguments) (body : Expr) (scope : Scope) (clos : List (Str × Addr)) (pm : Value) (c : Addr) (ctv : Value) : HO := .ext fun h => h.get? f = some (kla_obj "<lambda>" qn params body scope clos pm c ctv)
theorem sH (LC : sY X c P qn) (I : Inv X pins σ H s) (t : TabsOk H) (hdef : defaultsOf params X.env = ([], [])) (hcl : closureFor scope X.env = pure clos) {Q : HB}
 (h : ∀ f c' pm ctv H' s', Inv X pins σ H' s' -> au H H' -> H f = none -> H' f = some (tI f qn params body scope clos pm c' ctv) -> H' c' = some (om c' qn) -> Q (.ref f) s') :
 wpAny (model X.prog X.w) A (eval (.Lambda params body scope lpos) X.env) Q E s := by
 obtain ⟨ps, hP, tr, kq⟩ := t _ LC.tab;dsimp only at hP kq;have hPo : s.heap.get? P = some { cls := .none, data := .fields ps } := I.hok P _ hP;have hg : s.heap.Ns mainGlobals X.mg := I.ok.mod.glob.keeps I.bk;have C : PySem.W.CodeHd s.heap c P := PySem.W.codeHd_of_K I.BZ LC.hd;obtain ⟨bm, ob, b1, b2, b3, b4, b6, b7, b8⟩ := LC.bm;have b5 : bm ≠ P := fun z => by
  have e := I.bk _ _ b2;rw [z, hPo] at e;cases e;cases b6
 have hB : s.heap.BuiltinsAt X.mg P := ⟨bm, ob, b1, b3, b4, b5, I.bk _ _ b2, b6, b7, b8⟩
 refine PySem.W.kla_eval hdef ?_;rw [LC.qual]
 cases hq : codeAmong lpos ps.toList with
 | none =>
  refine PySem.W.kla_makeFunction hcl I.ok.glob hg LC.code C hPo tr hq LC.gP hB fun c' ctv h' tk hx hge hlt hrec htb => ?_;have hle : s.heap.objs.size <= h'.objs.size := Nat.le_trans hge (Nat.le_of_lt hlt);have cf : c' ≠ h'.objs.size := Nat.ne_of_lt hlt;have Hc : H c' = none := I.hok.fresh hge;have Hf : H h'.objs.size = none := I.hok.fresh hle;have Pc : P ≠ c' := aw hP Hc;have Pf : P ≠ h'.objs.size := aw hP Hf;obtain ⟨c2, oc, vs, tq, e2, hoc, hdc⟩ := id hrec;cases e2;have I2 := BG (t' := tk) (u := om c' qn) (v := tI h'.objs.size qn params body scope clos ((X.mg "__name__").getD .none) c' ctv) (h' := h'.push (kla_obj "<lambda>" qn params body scope clos ((X.mg "__name__").getD .none) c' ctv)) (f := h'.objs.size) I hP
   (fun b o nb e => get?_push_of_some _ (hx b o nb e)) (get?_push_of_some _ htb) hge hle cf
   ⟨hrec.push _, ⟨_, get?_push_of_some _ hoc⟩, fun g1 g2 z k => by
    obtain ⟨c3, o3, vs3, t3, e3, h3, r3⟩ := z;cases e3;exact ⟨c', o3, vs3, t3, rfl, k _ h3, r3⟩⟩
   ⟨get?_push_size _ rfl, ⟨_, get?_push_size _ rfl⟩, fun g1 g2 z k => k _ z⟩
  refine h h'.objs.size c' _ ctv _ _ I2 ⟨fun b o e n => ?_, fun b qs e => ?_, fun t => Ax t LC.tab LC.one hP hq Hc Hf cf⟩ Hf ak (by rw [ae cf, ak])
  . have nP : b ≠ P := fun z => by rw [z, hP] at e; cases e; cases n
    rw [ae (aw e Hf), ae (aw e Hc), ae nP]; exact e
  . by_cases z : b = P
    . exact ⟨_, by rw [z, ae Pf, ae Pc, ak]⟩
    . exact ⟨qs, by rw [ae (aw e Hf), ae (aw e Hc), ae z]; exact e⟩
 | some cv =>
  obtain ⟨c', rfl, hc'⟩ := kq lpos cv hq;refine PySem.W.kla_makeFunctionHit hcl I.ok.glob hg LC.code C hPo tr hq hB fun ctv h' tk hk hsz => ?_;have Hf : H h'.objs.size = none := I.hok.fresh hsz;have I2 : Inv X pins σ (upd H h'.objs.size (tI h'.objs.size qn params body scope clos ((X.mg "__name__").getD .none) c' ctv)) { s with heap := h'.push (kla_obj "<lambda>" qn params body scope clos ((X.mg "__name__").getD .none) c' ctv), toks := tk } :=
   I.laid (fun b o e => get?_push_of_some _ (hk b o e)) hsz ⟨get?_push_size _ rfl, ⟨_, get?_push_size _ rfl⟩, fun g1 g2 z k => k _ z⟩
  exact h h'.objs.size c' _ ctv _ _ I2 (az Hf) Hf ak ((az Hf).at hc')
end
def fA (X : Cx) (A : Around) (N : HL) (qn : Str) (scope : Scope) (clos : List (Str × Addr)) (f c : Addr) (s : Shared) (H : Hp) (R : HK) : Cx where
 prog := X.prog
 w := X.w
 K := X.K
 mg := X.mg
 base := X.base
 A := A.deeper (envX qn scope s.heap.objs.size f (.ref c) clos)
 N := N
 s₀ := s
 H₀ := H
 env := envX qn scope s.heap.objs.size f (.ref c) clos
 outer := X.stack
 stack := envX qn scope s.heap.objs.size f (.ref c) clos :: X.stack
 ex := []
 calm := true
 fn := fun _ => false
 pn := []
 xe := fun e s' => wpAny (model X.prog X.w) (A.deeper (envX qn scope s.heap.objs.size f (.ref c) clos)) (leaving (envX qn scope s.heap.objs.size f (.ref c) clos) e) (fun _ s'' => R (.error e) s'') (fun e' s'' => R (.error e') s'') s'
structure sQ (X : Cx) (scope : Scope) (clos : List (Str × Addr)) (p : Str) (caps : List (Str × Nat)) : Prop where
 kind : scope.kind = .function
 co : scope.isCoroutine = false
 gen : scope.isGenerator = false
 nocell : ∀ x ∈ scope.names, x.2 ≠ .cell
 par : scope.names.lookup p = some .local
 cap : ∀ q ∈ caps, X.N[q.2]? = some q.1 /\ X.env.kindOf q.1 = some .cell /\ clos.lookup q.1 = X.env.cells.lookup q.1 /\ scope.names.lookup q.1 = some .free
 sub : ∀ x c, clos.lookup x = some c -> X.env.cells.lookup x = some c
 has : ∀ x, scope.names.lookup x = some .free -> ∃ c, clos.lookup x = some c
section
variable {X : Cx} {pins : HI} {σ : St} {H : Hp} {s : Shared} {f c : Addr} {A : Around} {scope : Scope} {clos : List (Str × Addr)} {p qn : Str} {caps : List (Str × Nat)}
theorem qC (I : Inv X pins σ H s) (L : sQ X scope clos p caps) (hd : A.handled = none) (e0 : oj X.prog X.w X.K X.mg X.base A X.stack s H) {u : Value} {v : V} (r : RelV v u) {h1 : Heap} {tk : Nat} {R : HK}
 (hns : h1.Ns s.heap.objs.size fun x => [(p, u)].reverse.lookup x) (hk : ∀ b o, s.heap.get? b = some o -> h1.get? b = some o) :
 Inv (fA X A (p :: caps.map (·.1)) qn scope clos f c s H R) [] ([some v] ++ bU (caps.map (·.2)) σ) H { s with heap := h1, toks := tk } := by
 have noA : ∀ b : Addr, b ∉ (fA X A (p :: caps.map (·.1)) qn scope clos f c s H R).ex := fun b z => absurd (show b ∈ ([] : List Addr) from z) (by simp);refine ⟨⟨e0.mod, L.kind, rfl, rfl, Nat.le_refl _, fun y z c' h1 h2 => ?_, fun y hy => ?_, fun y c' z _ => ?_, fun _ => hd, Around.frames_deeper e0.frames, .inr ⟨rfl, rfl⟩, fun b z => absurd z (noA b), e0.bs, e0.bsz, fun b _ _ => noA b, fun b z => absurd z (noA b), e0.gH, e0.frf⟩,
  rfl, e0.bare, Un.kept hk, ⟨_, hns, fun i y v' h1 h2 h3 => ?_⟩, fun y c' h => ?_, e0.hok.fresh (Nat.le_refl _), fun y c' h => ?_, fun p hp => absurd (show p ∈ ([] : HI) from hp) (by simp), e0.hok.kept hk, ?_⟩
 . exact I.ok.inj y z c' (L.sub y c' h1) (L.sub z c' h2)
 . have hy : scope.names.lookup y = some .cell \/ scope.names.lookup y = some .free := hy;rcases hy with hy | hy
   . exact absurd rfl (L.nocell _ (PySem.mem_of_lookup hy))
   . exact L.has y hy
 . exact absurd (show false = true from z) (by simp)
 . cases i with
   | zero =>
    have e1 : p = y := by simpa [fA] using h1
    have e2 : v = v' := by simpa using h2
    subst e1 e2;exact ⟨u, r, .inl ⟨L.par, by simp⟩⟩
   | succ i =>
    have e1 : (caps.map (·.1))[i]? = some y := by simpa [fA] using h1
    have e2 : (bU (caps.map (·.2)) σ)[i]? = some (some v') := by simpa using h2
    rw [getElem?_map] at e1
    cases eq : caps[i]? with
    | none => rw [eq] at e1; cases e1
    | some q =>
     rw [eq] at e1;have e3 : q.1 = y := by simpa using e1
     subst e3;obtain ⟨c1, c2, c3, c4⟩ := L.cap q (mem_of_getElem? eq);unfold bU at e2;rw [getElem?_map, getElem?_map, eq] at e2;have e4 : (σ[q.2]?).join = some v' := by simpa using e2
     have e5 : σ[q.2]? = some (some v') := by
      cases z : σ[q.2]? with
      | none => rw [z] at e4; cases e4
      | some w => rw [z] at e4; exact congrArg some e4
     obtain ⟨m0, hn0, hl0⟩ := I.loc;obtain ⟨u', r', lk⟩ := hl0 q.2 q.1 v' c1 e5 (.inr (.inl c2));refine ⟨u', r', .inr ⟨.inr c4, ?_⟩⟩;rcases lk with ⟨k1, _⟩ | ⟨_, c', lc, o, ho, hdo⟩
     . rw [c2] at k1; cases k1
     . exact ⟨c', c3.trans lc, o, hk _ _ ho, hdo⟩
 . obtain ⟨v, o, ho, hd⟩ := I.cell y c' (L.sub y c' h);exact ⟨v, o, hk _ _ ho, hd⟩
 . exact I.freeC y c' (L.sub y c' h)
 . simp [bU, fA]
def Cy (K : Frag) (σ : St) (ρ : List (Option D)) (f c : Addr) (qn : Str) (params : Arguments) (body : Expr) (scope : Scope) (clos : List (Str × Addr)) (pm ctv : Value) (H : Hp) (Z : aE) : Prop :=
 H f = some (tI f qn params body scope clos pm c ctv) /\ H c = some (om c qn) /\ bZ K H Z σ ρ
variable {ρ : List (Option D)} {params : Arguments} {body : Expr} {pm ctv : Value} {g : D -> D} {P0 : D -> Prop} {m : Bool}
theorem Av (L : sQ X scope clos p caps) (hd : A.handled = none) (hA : A.frames = X.A.frames) (hroom : A.depth < recursionLimit)
 (hb : ∀ u, bindArgs (PySem.W.kla_fn "<lambda>" qn params body scope clos pm (.ref c) ctv) ⟨[u], []⟩ = pure [(p, u)])
 (hbody : ∀ (s : Shared) (H : Hp) (R : HK) (d : D), P0 d -> E (fA X A (p :: caps.map (·.1)) qn scope clos f c s H R) m ([some d] ++ eM (caps.map (·.2)) ρ) body (g d)) :
 tQ X A σ f g P0 (Cy X.K σ ρ f c qn params body scope clos pm ctv) where
 zone := fun {H Z Z'} hS hm ⟨a, b, en⟩ => ⟨a, b, fun i d e => let ⟨v, x, y⟩ := en i d e; ⟨v, x, y.carry (.of (au.refl H) (fun a xs e z => hS a _ e z) hm)⟩⟩
 same := fun {H H' Z} sm ⟨a, b, en⟩ => ⟨sm.at a, sm.at b, en.same sm⟩
 write := fun {H Z l xs ys} hl n ⟨a, b, en⟩ => ⟨by rw [ae (eF a hl (by intro z; cases z))]; exact a, by rw [ae (eF b hl (by intro z; cases z))]; exact b, fun i d e => let ⟨v, x, y⟩ := en i d e; ⟨v, x, y.carry (.write hl n)⟩⟩
 run := fun E' pins s H Z u d Q I oz ⟨ga, gb, en⟩ ⟨v, r, iv⟩ p0 k => by
  have hfo : s.heap.get? f = some (kla_obj "<lambda>" qn params body scope clos pm c ctv) := (I.hok f _ ga).1;have hrec : s.heap.CodeRec (.ref c) qn := (I.hok c _ gb).1;have e0 : oj X.prog X.w X.K X.mg X.base A X.stack s H := ⟨hA.trans I.gG.frames, I.gG.mod, I.gG.bs, I.gG.bsz, I.gG.gH, I.gG.frf, I.gG.hok, I.gG.bare⟩
  refine wpAny_call (PySem.W.kla_callFunE hroom hfo rfl L.co L.gen rfl hrec ?_);rw [hb u];refine wpAny_pure (wpAny_newFunctionEnv L.nocell (fun x hx => ?_) (fun h1 hns hsb => ⟨I.nolimit.fresh _ hsb, ?_⟩) L.kind)
  . have : x = (p, u) := by simpa using hx
    rw [this]; exact L.par
  . show codeAny _ _ (.expr body (envX qn scope s.heap.objs.size f (.ref c) clos)) _ _;have hk1 : ∀ b o, s.heap.get? b = some o -> h1.get? b = some o := fun b o e => hsb.extBut b o (Nat.ne_of_lt (lt_size e)) (get?_push_of_some _ e);refine PySem.W.kla_codeExpr ?_;have J := qC (f := f) (c := c) (qn := qn) (R := fun r s' => match r with | .ok (.ret v) => Q v s' | .ok _ => False | .error e => E' e s') (tk := s.toks + 1) I L hd e0 r hns hk1;have en2 : bZ X.K H Z ([some v] ++ bU (caps.map (·.2)) σ) ([some d] ++ eM (caps.map (·.2)) ρ) := jw en rfl fun i d' e => by
     match i, e with
     | 0, e => cases e; exact ⟨v, rfl, iv⟩
    have run := hbody s H (fun r s' => match r with | .ok (.ret v) => Q v s' | .ok _ => False | .error e => E' e s') d p0 [] _ _ H (fun v' H' => au H H' /\ In X.K H' (out m Z H) (g d) v') J ⟨Z, oz, en2, fun v' H' sm i => ⟨sm, i⟩⟩;refine wpAny_mono run (fun w s' ⟨v', H', J', rw', sm, iw⟩ => ?_) fun _ _ z => z;obtain ⟨v2, H2, I2, r2, sm2, iw2⟩ := I.after (Q := fun v' H' => au H H' /\ In X.K H' (out m Z H) (g d) v') (u := w) (s' := s') ⟨v', H', J'.os, J'.bare, J'.base, J'.hok, rw', sm, iw⟩;exact k w H2 s' I2 sm2 ⟨v2, r2, iw2.plain oz⟩
end
theorem qQ (a f : Value) : argsOk "sorted" ⟨[a], [(("key" : Str), f)]⟩ := by unfold argsOk; kernel_rfl
theorem t6 (a f : Value) : argsOk "list.sort" ⟨[a], [(("key" : Str), f)]⟩ := by unfold argsOk; kernel_rfl
section
variable {X : Cx} {ρ : List (Option D)} {m m1 mb : Bool} {a : Expr} {ds : List D} {p pos lpos kp : Pos} {P P0 : D -> Prop} {kd : SortKind} {c Pt : Addr} {qn pn : Str} {params : Arguments} {body : Expr} {scope : Scope} {clos : List (Str × Addr)} {caps : List (Str × Nat)} {g : D -> D}
theorem xg (ha : E X m1 ρ a (.lst ds)) (LC : sY X c Pt qn) (LO : sQ X scope clos pn caps) (hcl : closureFor scope X.env = pure clos)
 (hbody : ∀ (f c' : Addr) (s : Shared) (H : Hp) (R : HK) (d : D), P0 d -> E (fA X X.A.in1.in1 (pn :: caps.map (·.1)) qn scope clos f c' s H R) mb ([some d] ++ eM (caps.map (·.2)) ρ) body (g d))
 (hb : ∀ (c' : Addr) (pm ctv u : Value), bindArgs (PySem.W.kla_fn "<lambda>" qn params body scope clos pm (.ref c') ctv) ⟨[u], []⟩ = pure [(pn, u)])
 (L : i4 P) (kk : eA P kd) (hP : ∀ d ∈ ds, P0 d /\ P (g d) /\ X.A.units + 2 + (g d).dep < cLine) (inj : ∀ x ∈ ds, ∀ y ∈ ds, g x = g y -> x = y) (h64 : ds.length < 64) (hh : X.A.handled = none) (hroom : X.A.depth < recursionLimit) (hm : X.mg "sorted" = none)
 (hmm : m = true -> m1 = true \/ bj ds = true := by intro h; first | exact .inl h | cases h) (hdef : defaultsOf params X.env = ([], []) := by rfl)
 (hg : Gl X "sorted" := by rfl) (hs : starEach [a] X.env = [(false, eval a X.env)] := by rfl) : E X m ρ (.Call (.Name "sorted" p) [a] [⟨some "key", .Lambda params body scope lpos, kp⟩] pos) (.lst (qW g ds)) := by
 intro pins s σ H Q I ⟨Z, oz, en, k⟩;refine wpAny_Call_Name_kw (jv I hg hm boot_sorted ?_ (by decide) (by decide));have PAa := aK ha bu (by rw [hs]; rfl);refine callWith_kw (cy (PAa pos pins s σ H (fun vs H1 => au H H1 /\ ∃ x, vs = [x] /\ In X.K H1 (out m1 Z H) (.lst ds) x) I ⟨Z, oz, en, fun x H1 s1 i1 => ⟨s1, x, rfl, i1⟩⟩) fun us s1 ⟨vs, H1, I1, r1, sm1, x, e, i1⟩ => ?_) (by rw [hs]; rfl) (by rw [hs]; rfl) rfl rfl;subst e;obtain ⟨l, xs, rfl, at', j⟩ := av.mp i1;obtain ⟨u, rfl, rx⟩ := vals1 r1;cases rx;refine kws_cons (sH LC I1 (sm1.tabs oz.tb) hdef hcl fun f c' pm ctv H2 s2 I2 sm2 Hf hf hc' => ?_);refine kws_nil ?_;show wpAny _ _ (call (.builtin "sorted") [.ref l] [(("key" : Str), .ref f)]) _ _ _;have sm12 := sm1.trans sm2;obtain ⟨its, rv, pl, hz⟩ := I2.list (sm2.seq at'.sq);have z1 := j.length; have z2 := rv.length;refine call_function_entry_kw kind_sorted plain_sorted entry_sorted (qQ _ _) ?_;unfold Builtin.«sorted»;refine wpAny_bind (m := checkCount "sorted" 1 1 _) (wpAny_pure ?_);refine wpAny_bind (collect_list pl.isList ?_ (by omega));refine wpAny_bind (wpAny_newList ?_);have hsz : ((s2.heap.push (seqObj "list" #[] 0)).update s2.heap.objs.size (Obj.mapSeq (· ++ its.toArray))).objs.size = s2.heap.objs.size + 1 := by
  rw [Heap.size_update, size_push']
 have hoL : (((s2.heap.push (seqObj "list" #[] 0)).update s2.heap.objs.size (Obj.mapSeq (· ++ its.toArray))).push (seqObj "list" its.toArray 0)).get? (s2.heap.objs.size + 1) = some (seqObj "list" its.toArray 0) := by
  rw [<- hsz]; exact get?_push_size _ rfl
 have kp : ∀ b o, s2.heap.get? b = some o -> (((s2.heap.push (seqObj "list" #[] 0)).update s2.heap.objs.size (Obj.mapSeq (· ++ its.toArray))).push (seqObj "list" its.toArray 0)).get? b = some o := fun b o e => by
  have lb := lt_size e;rw [Heap.get?_push_ne _ _ _ (by rw [hsz]; exact Nat.ne_of_lt (Nat.lt_succ_of_lt lb)), Heap.get?_update_ne _ _ _ _ (Nat.ne_of_lt lb), Heap.get?_push_ne _ _ _ (Nat.ne_of_lt lb)];exact e
 show wpAny _ _ _ _ _ { s2 with heap := ((s2.heap.push (seqObj "list" #[] 0)).update s2.heap.objs.size (Obj.mapSeq (· ++ its.toArray))).push (seqObj "list" its.toArray 0), toks := s2.toks };rw [hsz];have KK : tQ X X.A.in1.in1 σ f g P0 (Cy X.K σ ρ f c' qn params body scope clos pm ctv) := Av LO hh rfl hroom (hb c' pm ctv) (hbody f c');have jz : aH X.K H2 Z ds xs := by
  have j2 := j.same sm2;cases m1
  . exact j2
  . exact j2.up oz
 refine wpAny_bind (wpAny_holding (wpAny_call_entry_kw slot_list_sort ⟨_, hoL, rfl⟩ entry_list_sort (yD (s := s2) (t1 := s2.toks) KK L kk (fun d hd => hP d hd) inj I2 (oz.same sm12) ⟨hf, hc', en.same sm12⟩ jz rv (by omega) kp (Nat.le_succ _) hoL fun H3 s3 prs I3 sm3 Ha hl3 pp e3 => ⟨_, rfl, ?_⟩) (t6 _ _)));refine wpAny_pure ⟨_, rfl, .ref (s2.heap.objs.size + 1), H3, I3, rfl, k _ H3 (sm12.trans sm3) (av.mpr ⟨_, _, rfl, .inl ⟨hl3, ?_⟩, ?_⟩)⟩
 . cases m
   . exact oz.op _ (sm12.free Ha)
   . exact sm12.free Ha
 . have j0 := i9 fun z hz => qa j z (pp.mem_iff.mp hz);rw [e3] at j0;have jc := (j0.same sm2).same sm3;cases m
   . cases m1
     . exact jc
     . exact jc.up oz
   . rcases hmm rfl with h | h
     . subst h; exact jc
     . exact jc.ef (tV (mB _ _) h)
end
end Y
namespace Y
open PySem PySem.Spec PyProof.Rows L2
variable [cq]
theorem Ad {k : Nat} {A : Around} (r : bx k A) : A.units + 1 < cLine := by have := r.un; omega
def EB : D -> Option V
 | .int i => some (.int i)
 | .bl b => some (.bl b)
 | .str x => some (.str x)
 | .non => some .non
 | _ => none
section
variable {K : Frag} {H : Hp} {Z Z' : aE}
theorem vG {k : Key} {v : V} (h : In K H Z (kD k) v) : v = kV k := by
 cases k with
 | inl i => exact ao.mp h
 | inr x => exact in_str.mp h
theorem tU : ∀ {ks : List Key} {vs : List V}, aH K H Z (ks.map kD) vs -> vs = ks.map kV
 | [], _, h => aC.mp h
 | k :: ks, _, h => by
  obtain ⟨v, r, rfl, a, j⟩ := ar.mp h;rw [vG a, tU j]; rfl
theorem CO {d : D} {v w : V} (h : In K H Z d v) (e : EB d = some w) : v = w := by
 cases d with
 | non => cases e; exact bK.mp h
 | bl b => cases e; exact aR.mp h
 | int b => cases e; exact ao.mp h
 | str b => cases e; exact in_str.mp h
 | lst b => cases e
 | tup b => cases e
 | dct b => cases e
 | ktup b => cases e
 | agg s b => cases e
theorem fs {N P : HL} {c : Scope} (a : c.kind = .function := by rfl) (b : c.isCoroutine = false := by rfl) (d : c.isGenerator = false := by rfl) (e : N.Nodup := by decide +kernel) (f : N.take P.length = P := by rfl) (g : ∀ x ∈ P, c.names.lookup x = some .local \/ c.names.lookup x = some .cell := by decide +kernel) (h : ∀ y ∈ c.names, y.2 ≠ .free := by decide +kernel) : aB N P c := ⟨a, b, d, e, f, g, h⟩
theorem Cu {d : D} {w : V} (e : EB d = some w) : In K H Z d w := by
 cases d with
 | non => cases e; exact bK.mpr rfl
 | bl b => cases e; exact aR.mpr rfl
 | int b => cases e; exact ao.mpr rfl
 | str b => cases e; exact in_str.mpr rfl
 | lst b => cases e
 | tup b => cases e
 | dct b => cases e
 | ktup b => cases e
 | agg s b => cases e
def DO.at (o : DO) (d : D) (r : Option V) : Prop := match o with
 | .k kvs => ∃ k, d = kD k /\ r = cQ kvs k
 | .t kvs => ∃ ks, d = .tup (ks.map kD) /\ r = cQ kvs ks
def DO.put (o : DO) (d : D) (v : V) (o' : DO) : Prop := match o with
 | .k kvs => ∃ k, d = kD k /\ kvs.length < sizeLine /\ o' = .k (putK kvs k v)
 | .t kvs => ∃ ks, d = .tup (ks.map kD) /\ kvs.length < sizeLine /\ o' = .t (putK kvs ks v)
theorem DO.E6 {kvs : List (List Key × V)} {k : List Key} {d : D} {r : Option V} (h : d = .tup (k.map kD)) (hr : r = cQ kvs k) : (DO.t kvs).at d r := ⟨k, h, hr⟩
theorem DO.EH {kvs : List (List Key × V)} {k : List Key} {d : D} {v : V} {o' : DO} (h : d = .tup (k.map kD)) (hl : kvs.length < sizeLine) (e : o' = .t (putK kvs k v)) : (DO.t kvs).put d v o' := ⟨k, h, hl, e⟩
theorem Fy {o : DO} {d : D} {r : Option V} {x y : V} (hx : In K H Z (.dct o) x) (hy : In K H Z' d y) (h : o.at d r) : ∃ a, x = .ref a /\ oi H a y r := by
 obtain ⟨a, rfl, e, _⟩ := bw.mp hx;refine ⟨a, rfl, ?_⟩
 cases o with
 | k kvs =>
  obtain ⟨k, rfl, rfl⟩ := h;rw [vG hy];exact .k e
 | t kvs =>
  obtain ⟨ks, rfl, rfl⟩ := h;obtain ⟨b, xs, rfl, eb, j⟩ := cF.mp hy;rw [tU j] at eb;exact .t e eb
theorem dput {o o' : DO} {d : D} {v y : V} {a : Addr} (e : H a = some o.ho) (hy : In K H Z' d y) (h : o.put d v o') : uH H a y v (upd H a o'.ho) := by
 cases o with
 | k kvs =>
  obtain ⟨k, rfl, hl, rfl⟩ := h;rw [vG hy];exact .k e hl
 | t kvs =>
  obtain ⟨ks, rfl, hl, rfl⟩ := h;obtain ⟨b, xs, rfl, eb, j⟩ := cF.mp hy;rw [tU j] at eb;exact .t e eb hl
end
section
variable {X : Cx} {ρ : List (Option D)} {m m1 m2 m3 : Bool} {a b c o e f : Expr} {d dk : D} {pos ap cp : Pos} {D0 : DO} {r : Option V}
theorem B2 : E X true ρ (.Dict [] [] pos) (.dct (.k [])) := PE.mono ze fun σ H Q z0 => bo z0 fun Z oz en k => fun p hp => k (.ref p) _ (az hp) (bw.mpr ⟨p, rfl, ak, hp⟩)
theorem AU : E X true ρ (.Dict [] [] pos) (.dct (.t [])) := PE.mono zu fun σ H Q z0 => bo z0 fun Z oz en k => fun p hp => k (.ref p) _ (az hp) (bw.mpr ⟨p, rfl, ak, hp⟩)
theorem BM {dd dr : D} {v w : V} (ho : E X m1 ρ o (.dct D0)) (he : E X m2 ρ e dk) (hf : E X m3 ρ f dd) (hk : D0.at dk r) (hd : EB dd = some w) (hr : EB dr = some (r.getD w)) (hu : X.A.units + 1 < cLine) (M : M2 X o "get" ap e f cp := by exact ⟨rfl, rfl, rfl, rfl⟩) :
 E X true ρ (.Call (.Attribute o "get" ap) [e, f] [] cp) dr :=
 PE.mono (Ae hu ho he hf M) fun σ H Q z0 => bo z0 fun Z oz en k => ⟨Z, oz, en, fun x H1 s1 i1 => by
  have i1' := i1.plain oz;obtain ⟨a, rfl, e1, z1⟩ := bw.mp i1';refine ⟨a, rfl, ?_, Z, oz.same s1, en.same s1, fun y H2 s2 i2 => ⟨Z, oz.same (s1.trans s2), en.same (s1.trans s2), fun z H3 s3 i3 => ?_⟩⟩
  . cases D0 with
    | k kvs => exact .inl ⟨kvs, .inl e1⟩
    | t kvs => exact .inr ⟨kvs, .inl e1⟩
  . obtain ⟨a', q, g⟩ := Fy (i1'.same (s2.trans s3)) ((i2.plain (oz.same s1)).same s3) hk;cases q;have hz := CO i3 hd;subst hz;exact ⟨r, g, k _ H3 ((s1.trans s2).trans s3) (Cu hr)⟩⟩
theorem Eb {dr : D} {v : V} (ho : E X m1 ρ o (.dct D0)) (hi : E X m2 ρ e dk) (hk : D0.at dk (some v)) (hr : EB dr = some v) (hu : X.A.units + 1 < cLine) (hs : CW e := by intro _ _; rfl) : E X true ρ (.Subscript o e pos) dr :=
 PE.mono (BW hu ho hi hs) fun σ H Q z0 => bo z0 fun Z oz en k => ⟨Z, oz, en, fun x H1 s1 i1 => ⟨Z, oz.same s1, en.same s1, fun y H2 s2 i2 => by
  obtain ⟨a, rfl, g⟩ := Fy ((i1.plain oz).same s2) (i2.plain (oz.same s1)) hk;exact ⟨a, v, rfl, g, k _ H2 (s1.trans s2) (Cu hr)⟩⟩⟩
end
section
variable {X : Cx} {F : Fn} {ρ : b0} {Q : iu} {rest : List Stmt} {e key : Expr} {pos p sp : Pos} {m1 m2 : Bool}
theorem BS (i : Nat) {x : Str} {o : DO} (he : E X true (view true false ρ) e (.dct o)) (hr : SD X F rest (ρ.set i (some (.od o))) Q) (hN : X.N.Nodup) (hi : X.N[i]? = some x := by rfl)
 (hx : Loc X.env.scope x := by first | exact Or.inl rfl | exact Or.inr rfl) (hρ : i < ρ.length := by exact of_decide_eq_true rfl) (hs : swapsWith e (some (.Name x p)) pos.line X.env = pure false := by rfl) (hf : HfX X x := by first | exact .inl rfl | exact .inr rfl) :
 SD X F (.Assign [.Name x p] e pos :: rest) ρ Q :=
 bB (PS.mono (jK hN hi hx he hs hf) fun Q' σ H z0 => fF z0 fun hv hρ' A hl S f => ⟨_, aF S true false, S.env hl true false, fun v H1 s1 i1 => by
  obtain ⟨l, rfl, e1, e2⟩ := bw.mp i1;refine f.nx _ H1 ⟨_, bP A i [l], by simp [hl], ?_, rfl⟩;rw [<- aX (by omega), <- aX hρ];exact S.put (by rw [List.length_append]; omega) (by rw [List.length_append]; omega) s1 kX (fun a ha => by
   have : a = l := by simpa using ha
   subst this;exact ⟨e2, .d o, e1⟩) ⟨l, rfl, rfl, e1⟩⟩) hr
theorem bz.od {K : Frag} {H : Hp} {σ hv : St} {hρ : b0} {A : Nat -> List Addr} {i : Nat} {o : DO} (S : bz K F H (σ ++ hv) (ρ ++ hρ) A) (hl : σ.length = ρ.length) (h : ρ[i]? = some (some (.od o))) :
 ∃ l, σ[i]? = some (some (.ref l)) /\ A i = [l] /\ H l = some o.ho := by
 have hi : i < ρ.length := (List.getElem?_eq_some_iff.mp h).1;obtain ⟨v, a, l, e1, rfl, e2⟩ := S.at' i _ (by rw [getElem?_append_left hi]; exact h);rw [getElem?_append_left (by omega)] at a;exact ⟨l, a, e1, e2⟩
end
theorem qb {us : HF} {ns : HM} (h : IntsAre us ns) : Vals (ns.map V.int) us := by
 induction h with
 | nil => exact .nil
 | cons n t _ ih => exact .cons ⟨t, rfl⟩ ih
section
variable {X : Cx} {ρ : List (Option D)} {m m1 m2 : Bool} {a b : Expr} {p pos : Pos}
theorem qB : lu X (.builtin "sorted") (fun xs H Q => ∃ (l : Addr) (ns ns' : HM), xs = [.ref l] /\ dZ X.K H l (ns.map V.int) /\ ns.length < 64 /\ ns'.Perm ns /\ ns'.Pairwise (· <= ·) /\ ∀ q, H q = none -> Q (.ref q) (upd H q (.lst (ns'.map V.int)))) := by
 intro pins s σ H xs us Q I r h;obtain ⟨l, ns, ns', rfl, hq, h64, hp, hs, q⟩ := h;obtain ⟨u, rfl, rx⟩ := Vals.one r;cases rx;obtain ⟨its, rv, pl, hz⟩ := I.list hq;have z2 := rv.length;rw [length_map] at z2;refine sorted_ints pl.isList (by simpa using intsAre_of rv) (by simpa using (by omega : its.length < 64)) fun out n2 a1 a2 a3 => ?_;obtain rfl : n2 = ns' := PySem.W.lks_uniq (a2.trans hp.symm) a3 hs;obtain ⟨mm, ho⟩ := sortedAll_at s.heap its out;have hl : (n2.map V.int).length <= sizeLine := by rw [length_map, a2.length_eq]; exact bh (by omega)
 exact ⟨.ref (s.heap.objs.size + 1), _, I.laid (t' := s.toks) (fun _ _ => sortedAll_old) (Nat.le_succ _) (show bR X.prog X.w _ _ _ (.lst (n2.map V.int)) from ⟨hl, out.toList, mm, qb a1, by simpa using ho⟩), rfl, q _ (I.hok.fresh (Nat.le_succ _))⟩
theorem xY {ns ns' : HM} (ha : E X m1 ρ a (.lst (ns.map D.int))) (h64 : ns.length < 64) (hp : ns'.Perm ns) (hs' : ns'.Pairwise (· <= ·)) (hm : X.mg "sorted" = none)
 (hg : Gl X "sorted" := by rfl) (hs : starEach [a] X.env = [(false, eval a X.env)] := by rfl) : E X true ρ (.Call (.Name "sorted" p) [a] [] pos) (.lst (ns'.map D.int)) :=
 PE.mono (gU qB hg hm boot_sorted (aK ha bu (by rw [hs]; rfl)) (by decide) (by decide) (by rw [hs]; rfl) rfl) fun σ H Q z0 => bo z0 fun Z oz en k => ⟨Z, oz, en, fun x H1 s1 i1 => by
  obtain ⟨l, xs, rfl, at', j⟩ := av.mp (i1.plain oz);rw [eI j] at at';exact ⟨l, ns, ns', rfl, at'.sq, h64, hp, hs', fun q hq => k (.ref q) _ (s1.trans (az hq)) (av.mpr ⟨q, _, rfl, .inl ⟨ak, s1.free hq⟩, nv _⟩)⟩⟩
theorem As (q : Int) (is : HM) : CG (.int q) (is.map V.int) = decide (q ∈ is) := by
 unfold CG;rw [List.any_map, Bool.eq_iff_iff, any_eq_true, decide_eq_true_iff];constructor
 . rintro ⟨z, hz, h⟩;have : q = z \/ z = q := by
    first
     | exact .inl (by simpa [Function.comp, uS] using h)
     | exact .inr (by simpa [Function.comp, uS] using h)
   rcases this with rfl | rfl <;> exact hz
 . intro h;exact ⟨q, h, by simp [Function.comp, uS]⟩
theorem z6 {is : HM} {q : Int} (ha : E X m1 ρ a (.int q)) (hb : E X m2 ρ b (.lst (is.map D.int))) (hm : behindInMarks .NotIn b = false := by rfl) : T X ρ (.Compare a [.NotIn] [b] pos) (!decide (q ∈ is)) :=
 j9 qO ha hb (fun x y H Z Q _ i1 i2 k => by
  obtain ⟨l, xs, rfl, at', j⟩ := av.mp i2;cases ao.mp i1;rw [eI j] at at';refine ⟨l, _, rfl, .inl at'.sq, rfl, by simp [gs], ?_⟩;simp only [if_true];rw [As];exact k _ (au.refl H)) hm
end
def fj (L : HN) : List Int := L.map fun n : Nat => (n : Int)
theorem mK {L : HN} {n : Nat} : ((n : Int) ∈ fj L) ↔ n ∈ L := by
 unfold fj;rw [mem_map];constructor
 . rintro ⟨a, h, e⟩;have : a = n := by omega
   subst this; exact h
 . exact fun h => ⟨n, h, rfl⟩
theorem fX (L : HN) : aJ L = .lst ((fj L).map D.int) := by unfold aJ fj; rw [map_map]; rfl
def jt (p : Pt) (row : HL) (L : HN) (i : Nat) : Bool := decide (((i : Int) - 1) ∈ fj L) && fm p (row.getD (i - 1) "")
def m4 (k : Nat) (L : HN) (i : Nat) : Bool := L.any fun a : Nat => decide (0 <= (i : Int) - (a : Int)) && decide ((i : Int) - (a : Int) <= (k : Int))
mutual
def xf (row : HL) : Pt -> List Nat -> List Nat
 | .word w, L => (List.range (row.length + 1)).filter (jt (.word w) row L)
 | .beg w, L => (List.range (row.length + 1)).filter (jt (.beg w) row L)
 | .fin w, L => (List.range (row.length + 1)).filter (jt (.fin w) row L)
 | .any, L => (List.range (row.length + 1)).filter (jt .any row L)
 | .upto k, L => (List.range (row.length + 1)).filter (m4 k L)
 | .eY q, L => oQ row q L []
def qV (row : HL) : List Pt -> List Nat -> List Nat
 | [], L => L
 | p :: ps, L => qV row ps (xf row p L)
def oQ (row : HL) : List (List Pt) -> List Nat -> List Nat -> List Nat
 | [], _, acc => acc
 | ps :: q, L, acc => oQ row q L (acc ++ (qV row ps L).filter fun t : Nat => !decide ((t : Int) ∈ fj acc))
end
theorem u9 {p : Pt} (h : g4 p) (row : HL) (L : HN) : xf row p L = (List.range (row.length + 1)).filter (jt p row L) := by
 cases p <;> first | (unfold xf; rfl) | exact False.elim h
theorem rK (row : HL) (p : Pt) : ∀ (ps : List Pt) (L : HN), qV row (ps ++ [p]) L = xf row p (qV row ps L)
 | [], L => by simp [qV]
 | a :: ps, L => by
  show qV row (a :: (ps ++ [p])) L = _;unfold qV;exact rK row p ps _
theorem uX (row : HL) (ps : List Pt) : ∀ (q : List (List Pt)) (L acc : HN), oQ row (q ++ [ps]) L acc = oQ row q L acc ++ (qV row ps L).filter fun t : Nat => !decide ((t : Int) ∈ fj (oQ row q L acc))
 | [], L, acc => by rw [List.nil_append, oQ, oQ, oQ]
 | a :: q, L, acc => by
  show oQ row (a :: (q ++ [ps])) L acc = _;rw [oQ, oQ];exact uX row ps q L _
structure Rep (n x : Nat) (L : HN) : Prop where
 nd : L.Nodup
 mem : ∀ i, i ∈ L ↔ i < n /\ x.testBit i = true
theorem lF (n x : Nat) : (gr n x).Nodup := (List.nodup_range).filter _
theorem Rep.perm {n x : Nat} {L : HN} (h : Rep n x L) : (gr n x).Perm L := (List.perm_ext_iff_of_nodup (lF n x) h.nd).mpr fun i => by rw [iQ, h.mem]
theorem Rep.len {n x : Nat} {L : HN} (h : Rep n x L) : L.length <= n := by rw [<- h.perm.length_eq]; exact oW n x
theorem nM {n y : Nat} {f : Nat -> Bool} (h : ∀ i, i < n -> (f i = true ↔ y.testBit i = true)) : Rep n y ((List.range n).filter f) :=
 ⟨(List.nodup_range).filter _, fun i => by
  rw [mem_filter, List.mem_range];constructor
  . rintro ⟨a, b⟩; exact ⟨a, (h i a).mp b⟩
  . rintro ⟨a, b⟩; exact ⟨a, (h i a).mpr b⟩⟩
theorem eQ {p : Pt} (hp : g4 p) {row : HL} {x : Nat} {L : HN} (h : Rep (row.length + 1) x L) : Rep (row.length + 1) (jV row p x) (xf row p L) := by
 rw [u9 hp];refine nM fun i hi => ?_;rw [AZ hp row x i hi];unfold jt;rw [Bool.and_eq_true, decide_eq_true_iff];constructor
 . rintro ⟨a, b⟩;unfold fj at a;obtain ⟨j, hj, e⟩ := mem_map.mp a;have ej : j = i - 1 := by omega
   subst ej;exact ⟨by omega, ((h.mem _).mp hj).2, b⟩
 . rintro ⟨a, b, c⟩;refine ⟨?_, c⟩;rw [show ((i : Int) - 1) = ((i - 1 : Nat) : Int) by omega, mK, h.mem];exact ⟨by omega, b⟩
theorem zA (k : Nat) {row : HL} {x : Nat} {L : HN} (h : Rep (row.length + 1) x L) : Rep (row.length + 1) (jV row (.upto k) x) (xf row (.upto k) L) := by
 unfold xf;refine nM fun i hi => ?_;rw [zW k row x i hi];unfold m4;rw [any_eq_true, any_eq_true];constructor
 . rintro ⟨a, ha, b⟩; exact ⟨a, h.perm.mem_iff.mpr ha, b⟩
 . rintro ⟨a, ha, b⟩; exact ⟨a, h.perm.mem_iff.mp ha, b⟩
section
variable {row : HL}
mutual
theorem DA : ∀ (p : Pt) {x : Nat} {L : HN}, Rep (row.length + 1) x L -> Rep (row.length + 1) (jV row p x) (xf row p L)
 | .word w, _, _, h => eQ (p := .word w) trivial h
 | .beg w, _, _, h => eQ (p := .beg w) trivial h
 | .fin w, _, _, h => eQ (p := .fin w) trivial h
 | .any, _, _, h => eQ (p := .any) trivial h
 | .upto k, _, _, h => zA k h
 | .eY q, x, L, h => by
  unfold jV xf;have := vf q (y := 0) (acc := []) h ⟨List.nodup_nil, fun i => by simp⟩
  rwa [Nat.zero_or] at this
theorem qz : ∀ (ps : List Pt) {x : Nat} {L : HN}, Rep (row.length + 1) x L -> Rep (row.length + 1) (kH row ps x) (qV row ps L)
 | [], _, _, h => by unfold kH qV; exact h
 | p :: ps, _, _, h => by unfold kH qV; exact qz ps (DA p h)
theorem vf : ∀ (q : List (List Pt)) {x y : Nat} {L acc : HN}, Rep (row.length + 1) x L -> Rep (row.length + 1) y acc -> Rep (row.length + 1) (y ||| mQ row q x) (oQ row q L acc)
 | [], x, y, L, acc, h, ha => by unfold mQ oQ; rw [Nat.or_zero]; exact ha
 | ps :: q, x, y, L, acc, h, ha => by
  unfold mQ oQ;rw [<- Nat.or_assoc];refine vf q h ?_;have hp := qz ps h;refine ⟨?_, fun i => ?_⟩
  . refine List.nodup_append.mpr ⟨ha.nd, hp.nd.filter _, fun a h1 b h2 e => ?_⟩;subst e;obtain ⟨_, h3⟩ := mem_filter.mp h2;simp [mK] at h3;exact h3 h1
  . rw [mem_append, mem_filter, ha.mem, hp.mem, Nat.testBit_or, Bool.or_eq_true, Bool.not_eq_true', decide_eq_false_iff_not, mK, ha.mem];constructor
    . rintro (⟨a, b⟩ | ⟨⟨a, b⟩, _⟩)
      . exact ⟨a, .inl b⟩
      . exact ⟨a, .inr b⟩
    . rintro ⟨a, b⟩;by_cases q : y.testBit i = true
      . exact .inl ⟨a, q⟩
      . exact .inr ⟨⟨a, b.resolve_left q⟩, fun z => q z.2⟩
end
end
theorem wQ {n a : Nat} (h : a < n) : Rep n (1 <<< a) [a] := by
 rw [<- v8 h];exact ⟨lF _ _, fun i => iQ⟩
theorem zS (n x : Nat) : (fj (gr n x)).Pairwise (· <= ·) := by
 unfold fj;rw [List.pairwise_map];have h : (gr n x).Pairwise (· < ·) := List.Pairwise.filter _ List.pairwise_lt_range;exact h.imp fun h => by omega
theorem xu {a b : HN} (h : a.Perm b) : (fj a).Perm (fj b) := h.map _
mutual
def gI : Pt -> Prop
 | .word w => w.length <= 1000
 | .beg w => w.length <= 1000
 | .fin w => w.length <= 1000
 | .any => True
 | .upto _ => True
 | .eY q => tm q
def oq : List Pt -> Prop
 | [] => True
 | p :: ps => gI p /\ oq ps
def tm : List (List Pt) -> Prop
 | [] => True
 | ps :: q => oq ps /\ tm q
end
theorem ka : ∀ {ps : List Pt}, oq ps -> ∀ p ∈ ps, gI p
 | [], _, p, hp => by simp at hp
 | a :: ps, h, p, hp => by
  unfold oq at h;rcases mem_cons.mp hp with rfl | hp
  . exact h.1
  . exact ka h.2 p hp
theorem fZ : ∀ {q : List (List Pt)}, tm q -> ∀ ps ∈ q, oq ps
 | [], _, p, hp => by simp at hp
 | a :: q, h, p, hp => by
  unfold tm at h;rcases mem_cons.mp hp with rfl | hp
  . exact h.1
  . exact fZ h.2 p hp
theorem iI : ∀ {ps : List Pt}, (∀ p ∈ ps, gI p) -> oq ps
 | [], _ => by unfold oq; trivial
 | a :: ps, h => by
  unfold oq;exact ⟨h a mem_cons_self, iI fun p hp => h p (mem_cons_of_mem _ hp)⟩
theorem g9 : ∀ {q : List (List Pt)}, (∀ ps ∈ q, oq ps) -> tm q
 | [], _ => by unfold tm; trivial
 | a :: q, h => by
  unfold tm;exact ⟨h a mem_cons_self, g9 fun p hp => h p (mem_cons_of_mem _ hp)⟩
theorem yS {p : Pt} (h : gI p) : tY p := by
 cases p <;> first | trivial | (unfold gI at h; exact h)
theorem rY {m : Nat} {p : Pt} (h : kQ m p) : gI p := by
 cases p with
 | eY q =>
  rcases h.1 with z | ⟨_, z, _⟩
  . exact False.elim z
  . cases z
 | word w => unfold gI; exact h.2
 | beg w => unfold gI; exact h.2
 | fin w => unfold gI; exact h.2
 | any => unfold gI; trivial
 | upto n => unfold gI; trivial
theorem kx {p : Pt} (h : gI p) : oq [p] := iI fun q hq => by simp at hq; subst hq; exact h
theorem yo {ws : HL} (h : bH ws) {q : List (List Pt)} (hne : ∃ init last, q = init ++ [last]) (hq : tm q) (c : Int) : tm (gX ws q c) := by
 obtain ⟨init, last, e⟩ := hne;have hdl : q.dropLast = init := by rw [e]; simp
 have hgl : q.getLast?.getD [] = last := by rw [e]; simp
 have pl : ∀ c', gI (pp ws c') := fun c' => rY (gO h c');unfold gX;split
 . refine g9 fun ps hps => ?_;rcases mem_append.mp hps with hps | hps
   . exact fZ hq ps hps
   . simp at hps; subst hps; exact kx (pl c)
 split
 . refine g9 fun ps hps => ?_;simp at hps; subst hps;refine iI fun p hp => ?_;simp at hp;rcases hp with rfl | rfl
   . unfold gI; exact hq
   . exact pl c
 rw [hdl, hgl];split
 . refine g9 fun ps hps => ?_;rcases mem_append.mp hps with hps | hps
   . exact fZ hq ps (by rw [e]; simp [hps])
   . simp at hps; subst hps;refine iI fun p hp => ?_;rcases mem_append.mp hp with hp | hp
     . exact ka (fZ hq last (by rw [e]; simp)) p hp
     . simp at hp; subst hp;unfold gI;refine g9 fun ps hps => ?_;simp at hps;rcases hps with rfl | rfl
       . exact kx (pl c)
       . exact kx (pl _)
 . refine g9 fun ps hps => ?_;rcases mem_append.mp hps with hps | hps
   . exact fZ hq ps (by rw [e]; simp [hps])
   . simp at hps; subst hps;refine iI fun p hp => ?_;rcases mem_append.mp hp with hp | hp
     . exact ka (fZ hq last (by rw [e]; simp)) p hp
     . simp at hp; subst hp; exact pl c
theorem wC {ws : HL} (h : bH ws) (c0 : Int) (cells : HM) : tm (bX ws c0 cells) := by
 refine snoc_ind (p := fun cells => tm (bX ws c0 cells)) ?_ (fun l c ih => ?_) cells
 . exact g9 fun ps hps => by simp [bX] at hps; subst hps; exact kx (rY (gO h c0))
 . rw [iC];exact yo h (jC h c0 l).ne ih c
def vM (k : Nat) (ds : List D) (d : D) : Prop := ∃ (p : Pt) (row : HL) (L : HN) (x : Nat), eD p k /\ gI p /\ Rep (row.length + 1) x L /\ row.length <= 13 /\ (∀ z ∈ row, z.length <= 1000) /\ ds = [cH p, aj row, aJ L] /\ d = aJ (xf row p L)
def p8 (k : Nat) (ds : List D) (d : D) : Prop := ∃ (q : List (List Pt)) (row : HL) (L : HN) (x : Nat), nU q k /\ tm q /\ Rep (row.length + 1) x L /\ row.length <= 13 /\ (∀ z ∈ row, z.length <= 1000) /\ ds = [aL q, aj row, aJ L] /\ d = aJ (oQ row q L [])
def ly (k : Nat) (ds : List D) (d : D) : Prop := ∃ (q : List (List Pt)) (row : HL), nU q k /\ tm q /\ row.length <= 13 /\ (∀ z ∈ row, z.length <= 1000) /\ ds = [aL q, aj row] /\ d = ei (jD row q)
end Y
namespace L2
open PySem PySem.Spec PyProof.Rows
end L2
namespace Y
open PySem PySem.Spec PyProof.Rows L2
variable [cq]
theorem kg (p : Nat) : dq p 0 = 0 := by simp [dq]
theorem vA (e : Nat) : ∀ k, e8 e k 0 = 0
 | 0 => rfl
 | k + 1 => by
  show e8 e k _ = 0;rw [kg, Nat.or_zero];exact vA e k
section
variable {row : HL}
mutual
theorem EI : ∀ (p : Pt), jV row p 0 = 0
 | .word w => by simp only [jV]; exact kg _
 | .beg w => by simp only [jV]; exact kg _
 | .fin w => by simp only [jV]; exact kg _
 | .any => by simp only [jV]; exact kg _
 | .upto n => by simp only [jV]; exact vA _ _
 | .eY q => by simp only [jV]; exact FJ q
theorem Ah : ∀ (ps : List Pt), kH row ps 0 = 0
 | [] => by simp only [kH]
 | p :: ps => by simp only [kH]; rw [EI p, Ah ps]
theorem FJ : ∀ (q : List (List Pt)), mQ row q 0 = 0
 | [] => by simp [mQ]
 | ps :: q => by simp only [mQ]; rw [Ah ps, FJ q]; rfl
end
end
def behind (f g : HC) : List HQ := f.flatMap fun s => (g.filter fun t => decide (t.1 = s.2)).map fun t => (s.1, t.2)
theorem t7 {α β : Type} {R : α -> β -> Prop} {l : List α} {r : List β} (h : Paired R l r) : ∀ {i : Nat} {x : α}, l[i]? = some x -> ∃ y, r[i]? = some y /\ R x y := by
 induction h with
 | nil => intro i x e; simp at e
 | cons a t ih =>
  intro i x e
  cases i with
  | zero => simp at e; subst e; exact ⟨_, rfl, a⟩
  | succ i => simpa using ih (by simpa using e)
end Y
namespace Y
open PySem PySem.Spec PyProof.Rows L2
open AutoSeq1 in
theorem yn (it d : Addr) (es : Array DictEntry) (i ep : Nat) (dd de : HH) (sl sm : HD) (hi : i < es.size) :
 Meets (Builtin.«dict_keyiterator.__next__» ⟨[.ref it], []⟩) (fun _ R s => s.heap.get? it = some ⟨.type "dict_keyiterator", dd, .fields #[.ref d, .int i 0, .int es.size 0, .int ep 0], sl⟩ /\ s.heap.get? d = some ⟨.type "dict", de, .dict es ep, sm⟩ /\
  R (.ok (.ret es[i].key)) { s with heap := s.heap.update it (Obj.mapFields (·.setIfInBounds 1 (rawInt ((i : Int) + 1)))) }) :=
 .of_wp fun prog w A R s h => by
  obtain ⟨hp, g, dm, tk, os⟩ := s;obtain ⟨hl, hb, h⟩ := h;wp_walk using wpAny_loadPart' hl, wpAny_loadPart' hb;have at_i : (if (i : Int) < 0 then none else es[(i : Int).toNat]?) = some es[i] := by
   rw [if_neg (Int.not_lt.mpr (Int.natCast_nonneg i)), Int.toNat_natCast, Array.getElem?_eq_getElem hi]
  rw [at_i];have one : Builtin.Dict_items.ownsTuple ((Manifest.find? "dict_keyiterator").elim "dict_keyiterator" fun x => x.tpName) = false := by kernel_rfl
  have new := Heap.get?_update_self (Obj.mapFields (·.setIfInBounds 1 (rawInt ((i : Int) + 1)))) hl rfl;wp_walk using wpAny_loadPart' hl;simp only [one];wp_walk using wpAny_setField hl rfl (by decide), wpAny_loadPart' new;exact ⟨_, rfl, h⟩
open AutoSeq1 in
theorem Cc (it d : Addr) (es : Array DictEntry) (i ep : Nat) (dd de : HH) (sl sm : HD) (hi : es.size <= i) :
 Meets (Builtin.«dict_keyiterator.__next__» ⟨[.ref it], []⟩) (fun A R s => A.handled = none /\ s.heap.get? it = some ⟨.type "dict_keyiterator", dd, .fields #[.ref d, .int i 0, .int es.size 0, .int ep 0], sl⟩ /\ s.heap.get? d = some ⟨.type "dict", de, .dict es ep, sm⟩ /\
  ∀ h' e, Heap.ExtBut it s.heap h' -> (∃ o, h'.get? e = some o /\ o.cls = .type "StopIteration") -> R (.error (.ref e)) { s with heap := h' }) :=
 .of_wp fun prog w A R s h => by
  obtain ⟨hp, g, dm, tk, os⟩ := s;obtain ⟨hh, hl, hb, h⟩ := h;wp_walk using wpAny_loadPart' hl, wpAny_loadPart' hb;have at_i : (if (i : Int) < 0 then none else es[(i : Int).toNat]?) = none := by
   rw [if_neg (Int.not_lt.mpr (Int.natCast_nonneg i)), Int.toNat_natCast, Array.getElem?_eq_none hi]
  have one : Builtin.Dict_items.ownsTuple ((Manifest.find? "dict_keyiterator").elim "dict_keyiterator" fun x => x.tpName) = false := by kernel_rfl
  rw [at_i];wp_walk using wpAny_loadPart' hl, wpAny_setField hl rfl
  . rw [one]; exact Nat.zero_lt_succ _
  unfold newExc newTuple raiseNew;have hh1 : A.in1.handled = none := hh;wp_walk using wpAny_newObj_type
  . exact h _ _ (((Heap.SameBut.update ..).extBut.push _).push _) ⟨_, get?_push_size _ rfl, rfl⟩
  all_goals size_fits
open AutoSeq1 in
theorem Ag (d : Addr) (es : Array DictEntry) (ep : Nat) (de : HH) (sm : HD) (hn : (d == sysModules) = false) :
 Meets (Builtin.«dict.__iter__» ⟨[.ref d], []⟩) (fun A R s => s.heap.get? d = some ⟨.type "dict", de, .dict es ep, sm⟩ /\
  R (.ok (.ret (.ref s.heap.objs.size))) { s with heap := s.heap.push { cls := .type "dict_keyiterator", data := .fields #[.ref d, .int 0 0, .int es.size 0, .int ep 0] } }) :=
 .of_wp fun prog w A R s h => by
  obtain ⟨hp, g, dm, tk, os⟩ := s;obtain ⟨hl, h⟩ := h;wp_walk using wpAny_loadPart' hl;exact ⟨_, rfl, h⟩
section
variable {prog : Program} {w : World} {A : Around} {E : HB} {s : Shared} {it d : Addr} {i ep : Nat} {es : Array DictEntry} {sm : HD}
theorem xS {Q : HB} (hn : (d == sysModules) = false) (ho : s.heap.get? d = some ⟨.type "dict", none, .dict es ep, sm⟩)
 (q : Q (.ref s.heap.objs.size) { s with heap := s.heap.push { cls := .type "dict_keyiterator", data := .fields #[.ref d, .int 0 0, .int es.size 0, .int ep 0] } }) : wpAny (model prog w) A (pyIter (.ref d)) Q E s :=
 have t : s.TypeIs (.ref d) "dict" := ⟨_, ho, rfl⟩
 wpAny_pyIter_slot t F.slot_dict_iter (call_meets F.slot_dict_iter t F.entry_dict_iter (F.args_dict_iter_1 _) (Ag d es ep none sm hn) ⟨ho, "dict_keyiterator", _, ⟨_, get?_push_size _ rfl, rfl⟩, F.slot_dict_keyiterator_next.lookup, q⟩)
theorem wL {Q : Option Value -> Shared -> Prop} (st : s.heap.IsKeyIter it d i es.size ep) (ho : s.heap.get? d = some ⟨.type "dict", none, .dict es ep, sm⟩) (hi : i < es.size)
 (q : ∀ h', h'.IsKeyIter it d (i + 1) es.size ep -> Heap.SameBut it s.heap h' -> Q (some es[i].key) { s with heap := h' }) : wpAny (model prog w) A (pyNext (.ref it)) Q E s := by
 have T := st.typeIs;obtain ⟨⟨c, dd, dt, sl⟩, hl, hc, hd⟩ := st;obtain rfl : c = _ := hc;obtain rfl : dt = _ := hd;have run := call_meets (E := fun _ _ => False) (Q := fun v s' => v = es[i].key /\ ∃ h', h'.IsKeyIter it d (i + 1) es.size ep /\ Heap.SameBut it s.heap h' /\ s' = { s with heap := h' }) (prog := prog) (w := w) (A := A) F.slot_dict_keyiterator_next T F.entry_dict_keyiterator_next (F.args_dict_keyiterator_next_1 _) (yn it d es i ep dd none sl sm hi)
  ⟨hl, ho, rfl, _, ⟨_, Heap.get?_update_self _ hl rfl, rfl, by simp [Obj.mapFields, rawInt]⟩, Heap.SameBut.update .., rfl⟩
 unfold pyNext;exact wpAny_bind (wpAny_attempt (wpAny_callSpecial?_slot T F.slot_dict_keyiterator_next (wpAny_mono run (fun v s' ⟨e, h', k1, k2, e'⟩ => by subst e e'; exact wpAny_pure (q h' k1 k2)) fun _ _ f => f.elim)))
theorem zV {Q : Option Value -> Shared -> Prop} (hh : A.handled = none) (st : s.heap.IsKeyIter it d i es.size ep) (ho : s.heap.get? d = some ⟨.type "dict", none, .dict es ep, sm⟩) (hi : es.size <= i)
 (q : ∀ h', Heap.ExtBut it s.heap h' -> Q none { s with heap := h' }) : wpAny (model prog w) A (pyNext (.ref it)) Q E s := by
 have T := st.typeIs;obtain ⟨⟨c, dd, dt, sl⟩, hl, hc, hd⟩ := st;obtain rfl : c = _ := hc;obtain rfl : dt = _ := hd;have run := call_meets (Q := fun _ _ => False) (E := fun x s' => ∃ h' e, x = .ref e /\ Heap.ExtBut it s.heap h' /\ (∃ o, h'.get? e = some o /\ o.cls = .type "StopIteration") /\ s' = { s with heap := h' }) (prog := prog) (w := w) (A := A) F.slot_dict_keyiterator_next T F.entry_dict_keyiterator_next (F.args_dict_keyiterator_next_1 _) (Cc it d es i ep dd none sl sm hi)
  ⟨hh, hl, ho, fun h' e k1 k2 => ⟨h', e, rfl, k1, k2, rfl⟩⟩
 unfold pyNext;refine wpAny_bind (wpAny_attempt (wpAny_callSpecial?_slot T F.slot_dict_keyiterator_next (wpAny_mono run (fun _ _ f => f.elim) fun x s' ⟨h', e, ex, k1, ⟨o, k2, k3⟩, es'⟩ => ?_)));subst ex es';exact wpAny_bind (wpAny_isInstance (b := true) ⟨o, k2, k3⟩ isSubtype_stop (wpAny_pure (q h' k1)))
end
end Y
namespace Y
open PySem PySem.Spec PyProof.Rows L2
variable [cq]
section
variable {X : Cx} {ρ : List (Option D)} {m m1 : Bool} {e i : Expr} {tg : Expr} {p pos : Pos} {x : Str} {a : Addr} {kss : List (List Key)}
variable {f : Expr} {m2 : Bool}
theorem Cr {K : Frag} {H : Hp} {Z : aE} (q : Key) : In K H Z (kD q) (kV q) := by
 cases q with
 | inl n => exact ao.mpr rfl
 | inr y => exact in_str.mpr rfl
end
end Y
namespace Y
open PySem PySem.Spec PyProof.Rows L2 PySem.SeqAt
variable [cq]
theorem vals2 {a b : V} {u v : Value} (h1 : RelV a u) (h2 : RelV b v) : Vals [a, b] [u, v] := .cons h1 (.cons h2 .nil)
theorem x4 {P : Program} {w : World} {k : Key} {u : Value} (h : (bt P w).is k u = true) : RelV (kV k) u := by
 rw [tJ] at h;rcases bF h with ⟨i, t, rfl, rfl⟩ | ⟨x, t, rfl, rfl⟩
 . exact ⟨t, rfl⟩
 . exact ⟨t, rfl⟩
section
variable {X : Cx} {pins : HI} {σ : St} {H : Hp} {s : Shared} {Z : aE} {A : Around} {P : D -> Prop} {kd : SortKind} {E : HB} {a : Addr}
theorem ud (L : i4 P) (kk : eA P kd) {ds : List D} {xs : List V} {us : HF} (hP : ∀ d ∈ ds, P d /\ A.units + d.dep < cLine) (I : Inv X pins σ H s) (j : aH X.K H Z ds xs) (rv : Vals xs us) (h64 : us.length < 64) {h1 : Heap} {t1 n : Nat}
 (k1 : ∀ b o, s.heap.get? b = some o -> h1.get? b = some o) (la : s.heap.objs.size <= a) (ho : h1.get? a = some (seqObj "list" us.toArray n)) {R : Fin -> Shared -> Prop}
 (fin : ∀ s' (prs : List (V × D)), Inv X pins σ (upd H a (.lst (prs.map (·.1)))) s' -> prs.Perm (xs.zip ds) -> prs.map (·.2) = qW id ds -> R (.done (.ret .none)) s') :
 wpAny (model X.prog X.w) A (Builtin.«list.sort» ⟨[.ref a], []⟩) R E { s with heap := h1, toks := t1 } := by
 have z1 := j.length; have z2 := rv.length;have nn : ∀ b o, s.heap.get? b = some o -> b ≠ a := fun b o e => Nat.ne_of_lt (Nat.lt_of_lt_of_le (lt_size e) la);have el : ∀ u ∈ us, ∃ d, P d /\ Tells X.K H Z u d /\ A.units + d.dep < cLine := fun u hu => by
  obtain ⟨i, hi, e⟩ := List.mem_iff_getElem.mp hu;have hd : i < ds.length := by omega
  obtain ⟨v, ev, iv⟩ := j.get (i := i) (d := ds[i]) (by simp [hd]);obtain ⟨u', eu, ru⟩ := rv.get ev;obtain rfl : u' = u := by rw [<- (List.getElem?_eq_some_iff.mp eu).2]; exact e
  exact ⟨ds[i], (hP _ (getElem_mem hd)).1, ⟨v, ru, iv⟩, (hP _ (getElem_mem hd)).2⟩
 have old : ∀ (h' : Heap), (∀ b o, b ≠ a -> h1.get? b = some o -> h'.get? b = some o) -> Inv X pins σ H { s with heap := h', toks := t1 } := fun h' k => I.kept fun b o e => k b o (nn b o e) (k1 b o e);have lay : ∀ (prs : List (V × D)) (out : HG), prs.Perm (xs.zip ds) -> Vals (prs.map (·.1)) out.toList -> prs.map (·.2) = qW id ds -> R (.done (.ret .none)) { s with heap := sortedHeap h1 a us out, toks := t1 } := fun prs out pp vv e => by
  obtain ⟨m, hm⟩ := sortedHeap_at (out := out) ho;have hl : (prs.map (·.1)).length <= sizeLine := by
   rw [length_map, pp.length_eq, List.length_zip]; exact bh (by omega)
  exact fin _ prs (I.laid (t' := t1) (fun b o e => by rw [sortedHeap_old (nn b o e) (lt_size (k1 b o e))]; exact k1 b o e) la (show bR X.prog X.w _ _ _ (.lst (prs.map (·.1))) from ⟨hl, out.toList, m, vv, by simpa using hm⟩)) pp e
 have pr := mL rv j;rw [<- pairsOf_toList] at pr;by_cases emp : us = []
 . subst emp;have y0 : xs = [] := List.length_eq_zero_iff.mp (z2.trans rfl);have d0 : ds = [] := List.length_eq_zero_iff.mp (z1.trans (z2.trans rfl));subst y0 d0;refine vc (s := { s with heap := h1, toks := t1 }) (kd := kd) (κ := strKind) ho (by simp) (fun s' Q' _ ne _ => absurd rfl ne) (fun s' _ st i jj Q' hB hi => absurd hi (by simp [pairsOf])) fun t pm _ => ?_;have t0 : t = #[] := by
    have e := pm.size_eq;simp [pairsOf] at e;exact e
   exact lay [] _ (.refl _) (by rw [t0]; simp; exact .nil) (by simp [qW])
 . obtain ⟨u0, hu0⟩ := List.exists_mem_of_ne_nil us emp;obtain ⟨dd, pd, _, _⟩ := el u0 hu0;refine vc (s := { s with heap := h1, toks := t1 }) (kd := kd) (κ := uV X.K H Z P L ⟨dd, pd⟩) ho h64 (fun h' Q' kp' ne q' => ?_) (fun h' kp' => ?_) fun t pm up => ?_
   . exact vE (s := { s with heap := h', toks := t1 }) kk (old h' kp') (fun u hu => let ⟨d, a, b, _⟩ := el u hu; ⟨d, a, b⟩) ne q'
   . refine vU (s := { s with heap := h', toks := t1 }) kk L (old h' kp') (fun p hp => ?_);rw [pairsOf_toList] at hp;exact el p.1 (List.of_mem_zip hp).1
   . obtain ⟨prs, pp, vv, pw⟩ := tf (f := id) I L pr (fun q hq => (hP _ (List.of_mem_zip hq).2).1) pm up;have e2 : (xs.zip ds).map (·.2) = ds := by rw [List.map_snd_zip]; omega
     exact lay prs _ pp vv (qm L (f := id) (fun d hd => (hP d hd).1) (fun a _ b _ e => e) (by rw [<- e2]; exact pp.map _) pw)
end
end Y
namespace Y
open PySem PySem.Spec PyProof.Rows L2
abbrev told (w : World) : Bool := w.params.followText "set-order"
end Y
namespace Y
open PySem PySem.Spec PyProof.Rows L2
end Y
namespace Y
open PySem PySem.Spec PyProof.Rows L2
namespace Sw
end Sw
end Y
namespace Y
open PySem PySem.Spec PyProof.Rows L2
namespace Tb
end Tb
end Y
namespace Y
open PySem PySem.Spec PyProof.Rows L2
end Y
namespace Y
open PySem PySem.Spec PyProof.Rows L2
end Y
namespace Y
open PySem PySem.Spec PyProof.Rows L2
end Y
namespace Y
open PySem PySem.Spec PyProof.Rows L2
end Y
namespace Y
open PySem PySem.Spec PyProof.Rows L2
end Y
namespace Y
open PySem PySem.Spec PyProof.Rows L2
end Y
namespace Y
open PySem PySem.Spec PyProof.Rows L2
namespace Rv
theorem mro : mroOf (.type "reversed") = pure [.type "reversed", .type "object"] := by rw [mroOf_type]; kernel_rfl
theorem uu : typeLookup (.type "reversed") "__new__" = pure (some (.builtin "reversed.__new__")) := by rw [typeLookup_type, builtinLookup_eq_fast]; kernel_rfl
theorem made : Bind.madeBy (.type "reversed") = pure (some "reversed.__new__") := madeBy_type mro uu (by decide +kernel)
theorem other : isSubtype (.type "list_reverseiterator") (.type "reversed") = pure false := by rw [isSubtype_type]; kernel_rfl
end Rv
namespace Rv
end Rv
end Y
namespace Y
open PySem PySem.Spec PyProof.Rows L2
end Y
namespace Y
open PySem PySem.Spec PyProof.Rows L2 PySem.SeqAt
section
variable {prog : Program} {w : World} {A : Around} {E : HB} {s : Shared} {it l S : Addr} {items : HG}
abbrev Gk (prog : Program) (w : World) (A : Around) (R : HK) : Fin -> Shared -> Prop := fun x st => match x with
 | .done f => R (.ok f) st
 | .again c => c.quiet = true /\ codeAny (model prog w) A c R st
end
end Y
namespace Y
open PySem PySem.Spec PyProof.Rows L2 PySem.SeqAt
section
variable {prog : Program} {w : World} {A : Around} {E : HB} {s : Shared} {a S : Addr} {es : Array (Int × Value)} {ep : Nat} {t : SetTable}
theorem EJ {Q : Unit -> Shared -> Prop} {c0 : Nat} (e : s.heap.get? S = some { cls := .type "list", data := .seq #[] c0 })
 (q : ∀ h' c, (∀ b o, b ≠ S -> s.heap.get? b = some o -> h'.get? b = some o) -> h'.get? S = some { cls := .type "list", data := .seq #[] c } -> Q () { s with heap := h' }) : wpAny (model prog w) A (Builtin.List.listTouch (.ref S)) Q E s := by
 have e1 := Heap.get?_update_self (Obj.mapSeq fun xs => xs.push Value.none) e rfl;have e2 := Heap.get?_update_self (Obj.mapSeq fun xs => xs.pop) e1 rfl;refine wpAny_bind (m := updateSeq S fun xs => xs.push .none) (wpAny_updateSeq e rfl (wpAny_updateSeq (hz := by seq_fits) e1 rfl (q _ _ (fun b o hb h => ?_) e2)));rw [Heap.get?_update_other _ _ (Ne.symm hb), Heap.get?_update_other _ _ (Ne.symm hb)];exact h
end
end Y
namespace Y
open PySem PySem.Spec PyProof.Rows L2
variable [cq]
theorem x5 {P : Program} {w : World} {K : Frag} {mg mb : HE} {k : Nat} {fa a : Addr} {fd : FuncData} {x : Str} {s₁ : Shared} {vs : HF} {ns : HM}
 (KX : K.In s₁.heap) (hns : s₁.heap.Ns mainGlobals mg) (hb : s₁.heap.Ns builtinsNs mb) (hbb : ∀ x : Str, x ≠ "__name__" -> mb x = bootBuiltins x) (hlim : s₁.heap.NoLimit) (hg : s₁.gens = #[])
 (ha : s₁.heap.get? a = some { cls := .type "list", data := .seq vs.toArray }) (hi : IntsAre vs ns) (hl : ns.length <= 63) (hr : bx k callerA)
 (hT : ∀ q ∈ cq.T, s₁.heap.get? q.1 = some (PySem.W.tabObj #[]) /\ K.lookup q.1 = none /\ PySem.isCodeTable s₁.heap q.1)
 (hbm : CB mg s₁.heap) (F : ∀ base : Heap, K.In base -> base.Ns mainGlobals mg -> CB mg base -> fi P w K mg base lM k fa fd [x] (rX K)) (hbind : ∀ (s : Shared) (u : Value), BindsTo s fd ⟨[u], []⟩ [(x, u)]) :
 codeAny (model P w) callerA (.call (.ref fa) ⟨[.ref a], []⟩) (fun r s' => r = .ok (.ret (.bool true)) /\ OldK s₁.heap s'.heap /\ s'.os = s₁.os /\ AllBare s'.gens) s₁ := by
 have rv := pe hi;have lenV := hi.length;have hz : ns.length <= sizeLine := Nat.le_trans hl (by decide);have aT : ∀ q ∈ cq.T, q.1 ≠ a := fun q hq z => by
  have e := (hT q hq).1;rw [z, ha] at e;cases e
 have core : ∀ H0 : Hp, (∀ b, b ≠ a -> H0 b = none) -> (H0 a = none \/ ∃ o xs, H0 a = some (.frz o (.lst xs))) -> dZ K H0 a (ns.map V.int) -> jM P w H0 s₁.heap -> (H0 a ≠ none -> K.lookup a = none) ->
  codeAny (model P w) callerA (.call (.ref fa) ⟨[.ref a], []⟩) (fun r s' => r = .ok (.ret (.bool true)) /\ OldK s₁.heap s'.heap /\ s'.os = s₁.os /\ AllBare s'.gens) s₁ := by
  intro H0 hO hO2 hS hok0 hK;obtain ⟨H, hHt, hHn⟩ : ∃ H : Hp, (∀ b, (∃ q ∈ cq.T, q.1 = b) -> H b = some (.tbl #[])) /\ ∀ b, ¬ (∃ q ∈ cq.T, q.1 = b) -> H b = H0 b :=
   open Classical in ⟨fun b => if ∃ q ∈ cq.T, q.1 = b then some (.tbl #[]) else H0 b, fun b hb => if_pos hb, fun b hb => if_neg hb⟩
  have na : ¬ (∃ q ∈ cq.T, q.1 = a) := fun ⟨q, hq, z⟩ => aT q hq z;have Ha := hHn a na;have cs : ∀ b u, H b = some u -> (b = a /\ H0 a = some u) \/ (∃ q ∈ cq.T, q.1 = b) /\ u = .tbl #[] := fun b u e => by
   by_cases z : ∃ q ∈ cq.T, q.1 = b
   . rw [hHt b z] at e; cases e; exact .inr ⟨z, rfl⟩
   . rw [hHn b z] at e;by_cases z2 : b = a
     . subst z2; exact .inl ⟨rfl, e⟩
     . rw [hO b z2] at e; cases e
  have hok : jM P w H s₁.heap := fun b u e => by
   rcases cs b u e with ⟨rfl, e0⟩ | ⟨⟨q, hq, rfl⟩, rfl⟩
   . exact (hok0 _ _ e0).mq (fun b' v' hb' q => q) (fun b' q => by
      have : b' = b := by
       by_cases z : b' = b
       . exact z
       . rw [hO b' z] at q; cases q
      subst this;rcases hO2 with z | ⟨_, _, z⟩
      . rw [z] at q; cases q
      . rw [z] at q; cases q) fun b' xs q => by
      have : b' = b := by
       by_cases z : b' = b
       . exact z
       . rw [hO b' z] at q; cases q
      subst this;rcases hO2 with z | ⟨_, _, z⟩
      . rw [z] at q; cases q
      . rw [z] at q; cases q
   . exact (hT q hq).1
  have tabs : TabsOk H := fun q hq => ⟨#[], hHt q.1 ⟨q, hq, rfl⟩, trivial, fun pos cv z => by simp [codeAmong] at z⟩
  have hS' : dZ K H a (ns.map V.int) := by
   rcases hS with (h | ⟨o, h⟩) | h
   . exact .inl (.inl (by rw [Ha]; exact h))
   . exact .inl (.inr ⟨o, by rw [Ha]; exact h⟩)
   . exact .inr h
  have base_of : ∀ {b : Addr} {o : Obj}, s₁.heap.get? b = some o -> H b = none -> (n0 s₁.heap H).get? b = some o := fun e n => yP e n;have noA : ∀ {b : Addr} {o : Obj} {es : Array DictEntry} {ep : Nat}, s₁.heap.get? b = some o -> o.data = .dict es ep -> H b = none := fun {b o es ep} e d => by
   cases q : H b with
   | none => rfl
   | some u =>
    rcases cs b u q with ⟨rfl, _⟩ | ⟨⟨q', hq', rfl⟩, _⟩
    . rw [ha] at e; cases e; cases d
    . rw [(hT q' hq').1] at e; cases e; cases d
  have nsK : ∀ {b : Addr} {m : HE}, s₁.heap.Ns b m -> (n0 s₁.heap H).Ns b m := fun {b m} ⟨o, es, ep, e, d, r⟩ => ⟨o, es, ep, base_of e (noA e d), d, r⟩
  have hKb : K.In (n0 s₁.heap H) := fun b o e => base_of (KX b o e) (by
   cases q : H b with
   | none => rfl
   | some u =>
    rcases cs b u q with ⟨rfl, e0⟩ | ⟨⟨q', hq', rfl⟩, _⟩
    . rw [hK (by rw [e0]; simp)] at e; cases e
    . rw [(hT q' hq').2.1] at e; cases e)
  have hBm : CB mg (n0 s₁.heap H) := by
   obtain ⟨bm, ob, b1, b2, b3, b4, b5, b6, b7⟩ := hbm;refine ⟨bm, ob, b1, base_of b2 ?_, b3, b4, b5, b6, b7⟩
   cases q : H bm with
   | none => rfl
   | some u =>
    rcases cs bm u q with ⟨rfl, _⟩ | ⟨⟨q', hq', rfl⟩, _⟩
    . rw [ha] at b2; cases b2; injection b5 with b5; exact absurd b5 (by decide)
    . rw [(hT q' hq').1] at b2; cases b2; cases b5
  have hM : Mod K mg (n0 s₁.heap H) := ⟨hKb, nsK hns, ⟨mb, nsK hb, hbb⟩, let ⟨mc, h1, h2⟩ := hlim; ⟨mc, nsK h1, h2⟩⟩
  have e0 : oj P w K mg (n0 s₁.heap H) callerA [] s₁ H := ⟨rfl, hM, fun b o e => B8 e, Nat.le_of_eq (wo _ _), trivial, fun b hb => absurd (show b ∈ ([] : List Addr) from hb) (by simp), hok, .of_eq hg⟩
  refine codeAny_mono ((F _ hKb (nsK hns) hBm).run callerA [] s₁ H ⟨[.ref a], []⟩ [.ref a] [.ref a] (fun v _ => v = .bl true) E0 hr e0 (hbind s₁ (.ref a)) (.cons rfl .nil) ⟨a, ns, rfl, hS', hl, tabs, fun _ => rfl⟩) fun r s' h => ?_
  cases r with
  | error e => exact False.elim h
  | ok fl =>
   cases fl with
   | next => exact False.elim h
   | brk => exact False.elim h
   | cont => exact False.elim h
   | ret u =>
    obtain ⟨v, H', os, bare, un, hok', r', q⟩ := h;have q' : v = .bl true := q;subst q';obtain rfl : u = Value.bool true := r';refine ⟨rfl, ⟨fun b o e => ?_, fun b o e => un.there b o e (by simp)⟩, os, bare⟩
    cases q : H b with
    | none => exact .inl (un.keep b o e q (by intro z; exact absurd (show b ∈ ([] : List Addr) from z) (by simp)) (by simp))
    | some u =>
     rcases cs b u q with ⟨rfl, e0'⟩ | ⟨⟨q', hq', rfl⟩, rfl⟩
     . rcases hO2 with z | ⟨ob, xs, z⟩
       . rw [z] at e0'; cases e0'
       . rw [z] at e0';cases e0';have z2 := un.frzs b ob _ q;obtain ⟨e1, _⟩ := hok b _ q;obtain ⟨e2, _⟩ := hok' b _ z2;rw [e] at e1; cases e1;exact .inl e2
     . obtain ⟨more, z⟩ := un.tbls q'.1 #[] q;have e2 := hok' _ _ z;rw [(hT q' hq').1] at e;cases e;exact .inr (.inl ⟨(hT q' hq').2.2, rfl, #[], more, rfl, e2⟩)
 cases hk : K.lookup a with
 | some o =>
  have e := KX a o hk;rw [ha] at e;cases e;exact core (fun _ => none) (fun _ _ => rfl) (.inl rfl) (.inr ⟨_, vs.toArray, _, hk, rfl, rfl, rfl, by rw [size_toArray, lenV]; exact hz, by simpa using rv⟩) (fun b u z => nomatch z) fun z => absurd rfl z
 | none =>
  refine core (fun b => if b = a then some (.frz { cls := .type "list", data := .seq vs.toArray } (.lst (ns.map V.int))) else none) (fun b hb => if_neg hb) (.inr ⟨_, _, if_pos rfl⟩) (.inl (.inr ⟨{ cls := .type "list", data := .seq vs.toArray }, if_pos rfl⟩)) (fun b u z => ?_) fun _ => hk;by_cases hb : b = a
  . have z' := (if_pos hb).symm.trans z;cases z';subst hb;exact ⟨ha, by rw [length_map]; exact hz, vs, _, rv, ha⟩
  . have z' := (if_neg hb).symm.trans z;cases z'
theorem ET {l : PySem.W.OpenLaw} {q : Program} {loose : HL} {XP : HE -> Heap -> Prop} {YP : World -> Heap -> Prop} {d : DefRec} {K : Params -> Frag} {x : Str} {k : Nat} (hn : l.most = some 63) (hdf : d.params.defaults = []) (hr : bx k callerA)
 (hY : ∀ (w : World) (h : Heap), YP w h -> (K w.params).In h)
 (hT : ∀ (w : World) (h : Heap), YP w h -> ∀ q ∈ cq.T, h.get? q.1 = some (PySem.W.tabObj #[]) /\ (K w.params).lookup q.1 = none /\ PySem.isCodeTable h q.1)
 (F : ∀ (w : World) (mg : HE) (fa : Addr) (h : Heap), (K w.params).In h -> h.Ns mainGlobals mg -> mg d.name = some (.ref fa) ->
  ∃ fd : FuncData, (∀ (s : Shared) (u : Value), BindsTo s fd ⟨[u], []⟩ [(x, u)]) /\ ∀ base : Heap, (K w.params).In base -> base.Ns mainGlobals mg -> CB mg base -> fi l.prog w (K w.params) mg base lM k fa fd [x] (rX (K w.params))) :
 PySem.W.WalkO q loose XP YP l.row.toRowW d [] (fun f vs => PySem.call f vs) := by
 refine Att.sU hn hdf fun w s₀ s₁ mg mb fa o pm cd doc a vs ns G Y ho hd hcd hmg hobj hints hlen hg => ?_;have KX := hY w _ Y;obtain ⟨fd, hb, hF⟩ := F w mg fa _ KX G.T.g hmg;have hbm : CB mg s₁.heap := by
  obtain ⟨bm, ob, b1, b2, b3, b4, b5, b6⟩ := G.T.bmain;refine ⟨bm, ob, b1, b3, b2, fun z => ?_, b4, b5, b6⟩;obtain ⟨o, es, ep, e, hd, _⟩ := G.T.g;rw [z, e] at b3; cases b3; rw [hd] at b6; cases b6
 exact x5 KX G.T.g G.T.b G.T.builtins G.T.nolimit hg hobj hints hlen hr (hT w _ Y) hbm hF hb
structure ux (K : Frag) (x qual : Str) (st : Stmt) (f : Addr) (fd : FuncData) (c : Addr) : Prop where
 ex : ∃ (oc : Value) (od : HH) (kV doc pm : Value) (an : HH) (ct : Value) (osl : HD),
  fd = PySem.W.fnOf x qual (cT st) (bA st) (ah st) .none kV doc pm an (.ref c) ct /\ K.lookup f = some ⟨oc, od, .func fd, osl⟩ /\ PySem.W.codeIn K (.ref c) qual = true
 kp : keepIn K (.ref f) = true
theorem tabs_ok {K : Params -> Frag} {as : List Addr} {e : ∀ P, as = (K P).map (·.1)} {ts : List Addr} {w : World} {h : Heap} (Yk : (PySem.W.kmHook K as e ts).says w h) {c P : Addr} (hm : P ∈ ts) (hl : (K w.params).lookup P = none) (hc : codeHdIn (K w.params) c P = true) :
 h.get? P = some (PySem.W.tabObj #[]) /\ (K w.params).lookup P = none /\ PySem.isCodeTable h P := by
 obtain ⟨o, vs, _, _, _, _, _, _, _, e1, e2, e3, e4, _⟩ := PySem.W.codeHd_of_K (PySem.W.km_in_of Yk) hc;exact ⟨PySem.W.km_tabs_of Yk P hm, hl, c, o, vs, e1, e2, e3, e4⟩
theorem ux.fn {K : Frag} {x qual : Str} {st : Stmt} {f c : Addr} {fd : FuncData} (F : ux K x qual st f fd c) : eg K x qual st f fd := by
 obtain ⟨oc, od, kV, doc, pm, an, ct, osl, e, lk, hcd⟩ := F.ex;exact ⟨⟨oc, od, kV, doc, pm, an, .ref c, ct, osl, e, lk, hcd⟩, F.kp⟩
theorem BU {K : Frag} {x qual : Str} {st : Stmt} {f c : Addr} {oc kV doc pm ct : Value} {od an : HH} {osl : HD}
 (l : K.lookup f = some ⟨oc, od, .func (PySem.W.fnOf x qual (cT st) (bA st) (ah st) .none kV doc pm an (.ref c) ct), osl⟩) (hc : PySem.W.codeIn K (.ref c) qual = true) (k : keepIn K (.ref f) = true) :
 ux K x qual st f (PySem.W.fnOf x qual (cT st) (bA st) (ah st) .none kV doc pm an (.ref c) ct) c := ⟨⟨oc, od, kV, doc, pm, an, ct, osl, rfl, l, hc⟩, k⟩
section
variable {P : Program} {w : World} {K : Frag} {mg : HE} {base : Heap} {f : Addr} {fd : FuncData}
theorem vZ {x qual : Str} {st : Stmt} {f c : Addr} {fd : FuncData} {N ps : HL} {k : Nat} {m : Bool} {G : List D -> D -> Prop} (Fx : ux K x qual st f fd c) (S : aB N ps (ah st)) (hmg : mg x = some (.ref f)) (hb : Binds K fd ps [])
 (hlen : ∀ ds d, G ds d -> ds.length = ps.length)
 (body : ∀ (A : Around) (outer : List Env) (s : Shared) (H : Hp) (E : XK) (Z : aE) (ds : List D) (d : D), bx k (A.deeper (envOfC qual (ah st) s.heap.objs.size f (.ref c))) -> G ds d ->
  SD (lO lM P w K mg base N qual (ah st) f (.ref c) A outer s H E).zL ⟨m, Z, H⟩ (bA st) (df N ds) { nx := fun _ => d = .non, rt := fun d' => d' = d }) : Def P w K mg base (k + 1) x m G := by
 refine ⟨f, fd, ps, ?_, hmg, Fx.kp, hb⟩;obtain ⟨oc, od, kV, doc, pm, an, ct, osl, rfl, lk, hcd⟩ := Fx.ex;refine CT lk hcd S (fun vs H Q E ⟨Z, ds, d, oz, i, g, kk⟩ => ?_) fun A outer s H vs Q E hr ⟨Z, ds, d, oz, i, g, kk⟩ => ?_
 . rw [<- i.length]; exact hlen ds d g
 . refine ⟨_, nV.zL (body A outer s H E Z ds d hr g), [], [], fun _ => [], ?_, jR oz i, ⟨rfl, fun σ H' ⟨r, A', hl, S', e⟩ => ?_, fun σ H' ⟨r, A', hl, S', e⟩ => e.elim, fun σ H' ⟨r, A', hl, S', e⟩ => e.elim, fun v d' H' s' i' e => ?_, fun _ _ _ _ _ _ _ _ e => e.elim, fun _ _ _ _ _ _ _ _ _ _ _ _ _ e => e.elim, fun _ _ _ _ _ _ _ e => e.elim⟩⟩
   . have := i.length;simp [L2.start, df]; omega
   . subst e;exact kk .non H' S'.same (bK.mpr rfl)
   . subst e;exact kk v H' s' i'
end
structure qL (K : Frag) (mg : HE) (base : Heap) (c P : Addr) (qn : Str) : Prop where
 hd : codeHdIn K c P = true
 tab : (P, qn) ∈ cq.T
 one : ∀ q ∈ cq.T, q.1 = P -> q.2 = qn
 bm : CB mg base
 gP : mainGlobals ≠ P
theorem qL.cx {X : Cx} {c P : Addr} {qn : Str} (L : qL X.K X.mg X.base c P qn) (h1 : X.env.code = .ref c) (h2 : X.env.qual ++ ("<lambda>" : Str) = qn) : sY X c P qn := ⟨h1, L.hd, L.tab, L.one, h2, L.bm, L.gP⟩
theorem i4.sub {P Q : D -> Prop} (L : i4 P) (h : ∀ d, Q d -> P d) : i4 Q :=
 ⟨fun a x => L.ir a (h a x), fun a b c x y z => L.tr a b c (h a x) (h b y) (h c z), fun a b x y => L.tt a b (h a x) (h b y), fun a b x y => L.cm a b (h a x) (h b y), fun a b x y => L.eq a b (h a x) (h b y)⟩
def jQ (rows : HA) (p : HQ) : D := .tup [aj (endAt rows p), dJ p]
def w6 (rows : HA) : D -> D
 | .tup [.int r, .int c] => .tup [aj (endAt rows (r.toNat, c.toNat)), .tup [.int r, .int c]]
 | _ => .non
theorem iL (rows : HA) (p : HQ) : w6 rows (dJ p) = jQ rows p := by simp [w6, dJ, jQ]
def vN (d : D) : Prop := ∃ (ws : HL) (p : HQ), d = .tup [aj ws, dJ p]
theorem lV : i4 vN := (l0 (u7 (iN iS) (l0 fun _ => lU))).sub fun d ⟨ws, p, e⟩ => by
 subst e;refine ⟨_, rfl, ⟨_, rfl, fts_strs ws⟩, ⟨_, rfl, ⟨p.1, rfl⟩, ⟨p.2, rfl⟩, trivial⟩, trivial⟩
where
 fts_strs (ws : HL) : tG (fun _ => isStr) (ws.map D.str) := mr fun d hd => by
  obtain ⟨w, _, rfl⟩ := mem_map.mp hd;exact ⟨w, rfl⟩
theorem kind_ord : eA vN (tuples' true) := .tup "list" (.inr (.inr rfl)) fun d ⟨ws, p, e⟩ => ⟨aj ws, [dJ p], e, rfl, rfl⟩
theorem rD {rows : HA} {p : HQ} (h : p ∈ gh rows) : p.1 < rows.length := by
 unfold gh dj at h;obtain ⟨r, hr, h2⟩ := List.mem_flatMap.mp h;obtain ⟨a, _, rfl⟩ := mem_map.mp h2;simpa using hr
theorem nE (rows : HA) : (gh rows).length = lI rows := by
 unfold gh;rw [kO rows rows.length (Nat.le_refl _), take_length];rfl
theorem oD : ∀ ws : List Str, cu (ws.map D.str) = 0
 | [] => rfl
 | w :: ws => by simp [cu, D.dep, oD ws]
theorem xZ {k : Nat} {A : Around} {rows : HA} {p : HQ} (r : bx k A) : A.units + 2 + (jQ rows p).dep < cLine := by
 have h := r.un;have e : (jQ rows p).dep = 2 := by simp [jQ, aj, dJ, D.dep, cu, oD]
 omega
def Ao (st : Stmt) : List (Str × NameKind) := match bA st with
 | [.Return (some (.Call _ _ [⟨_, .Lambda _ _ sc _, _⟩] _)) _] => sc.names
 | _ => []
def Ac (ds : List D) (d : D) : Prop := ∃ (rows : HA) (p : HQ), p.1 < rows.length /\ ds = [bg rows, dJ p] /\ d = jQ rows p
def AF (rows : HA) : D := .lst (qW (w6 rows) ((gh rows).map dJ))
def zX (ds : List D) (d : D) : Prop := ∃ rows : List HL, lI rows < 64 /\ ds = [bg rows] /\ d = AF rows
end Y
namespace Y
open PySem PySem.Spec PyProof.Rows L2 PySem.SeqAt
variable [cq]
def u6 (h : Heap) (p : Addr -> Bool) : Heap := ⟨h.objs.mapIdx fun i o => if p i then o else { o with data := .freed }, h.life⟩
theorem kb {h : Heap} {p : Addr -> Bool} {b : Addr} : (u6 h p).get? b = if p b = true then h.get? b else none := by
 unfold u6 Heap.get?;rw [Array.getElem?_mapIdx]
 cases e : h.objs[b]? with
 | none => simp
 | some o => cases q : p b <;> simp [q]
def iB (base h : Heap) (cs : List Addr) : Heap := u6 h fun b => (base.get? b).isSome || cs.contains b
section
variable {P : Program} {w : World} {K : Frag} {mg : HE} {base base' h : Heap} {A : Around} {outer : List Env} {s : Shared} {H : Hp} {cs : List Addr} {b : Addr} {o : Obj}
theorem yV (bs : ∀ b o, base.get? b = some o -> h.get? b = some o) (e : base.get? b = some o) : (iB base h cs).get? b = some o := by
 unfold iB; rw [kb, if_pos (by simp [e])]; exact bs b o e
theorem nN (hb : b ∈ cs) (e : h.get? b = some o) : (iB base h cs).get? b = some o := by
 unfold iB; rw [kb, if_pos (by simp [hb])]; exact e
theorem wN (bs : ∀ b o, base.get? b = some o -> h.get? b = some o) (e : (iB base h cs).get? b = some o) : h.get? b = some o /\ (base.get? b = some o \/ b ∈ cs) := by
 unfold iB at e;rw [kb] at e;by_cases q : ((base.get? b).isSome || cs.contains b) = true
 . rw [if_pos q] at e;refine ⟨e, ?_⟩;rw [Bool.or_eq_true] at q;rcases q with q | q
   . obtain ⟨o', q'⟩ := Option.isSome_iff_exists.mp q;have z := bs b o' q';rw [e] at z;cases z;exact .inl q'
   . exact .inr (by simpa using q)
 . rw [if_neg q] at e; cases e
theorem yx (m : Mod K mg base) (k : ∀ b o, base.get? b = some o -> base'.get? b = some o) : Mod K mg base' :=
 ⟨m.kin.keeps k, m.glob.keeps k, let ⟨mb, a, b⟩ := m.blt; ⟨mb, a.keeps k, b⟩, m.nolimit.keeps k⟩
theorem t8 (e : oj P w K mg base A outer s H) (hc : ∀ c ∈ cs, H c = none /\ c ∉ qg outer) : oj P w K mg (iB base s.heap cs) A outer s H := by
 have bs : ∀ b o, base.get? b = some o -> s.heap.get? b = some o := fun b o q => (e.bs b o q).1;refine ⟨e.frames, yx e.mod fun b o q => yV bs q, fun b o q => ?_, by simp [iB, u6], ?_, e.frf, e.hok, e.bare⟩
 . obtain ⟨h1, h2⟩ := wN bs q;refine ⟨h1, ?_⟩;rcases h2 with h2 | h2
   . exact (e.bs b o h2).2
   . exact (hc b h2).1
 . have go : ∀ (l : List Env), (∀ b ∈ qg l, b ∉ cs) -> s.heap.FunFrames base l -> s.heap.FunFrames (iB base s.heap cs) l := by
    intro l
    induction l with
    | nil => intro _ _; trivial
    | cons env rest ih =>
     intro hn hl;obtain ⟨hk, ⟨L, o, hf, hb, ho, hd⟩, hr⟩ := hl;have hn' : ∀ b, b = L \/ b ∈ qg rest -> b ∉ cs := fun b hb => hn b (by
      unfold qg at hb ⊢;rw [List.filterMap_cons, hf];rcases hb with rfl | hb
      . exact mem_cons_self
      . exact mem_cons_of_mem _ hb)
     refine ⟨hk, ⟨L, o, hf, ?_, ho, hd⟩, ih (fun b hb => hn' b (.inr hb)) hr⟩;have nL := hn' L (.inl rfl);unfold iB;rw [kb, if_neg];rw [hb];simpa using nL
   exact go outer (fun b hb z => (hc b z).2 hb) e.gH
end
structure An (base : Heap) (scope : Scope) (clos : List (Str × Addr)) (p : Str) (caps : List (Str × V)) : Prop where
 kind : scope.kind = .function
 co : scope.isCoroutine = false
 gen : scope.isGenerator = false
 nocell : ∀ x ∈ scope.names, x.2 ≠ .cell
 par : scope.names.lookup p = some .local
 cap : ∀ q ∈ caps, scope.names.lookup q.1 = some .free /\ ∃ c u, clos.lookup q.1 = some c /\ RelV q.2 u /\ base.IsCell c (some u)
 inj : ∀ x y c, clos.lookup x = some c -> clos.lookup y = some c -> x = y
 has : ∀ x, scope.names.lookup x = some .free -> ∃ c, clos.lookup x = some c
 cell : ∀ x c, clos.lookup x = some c -> ∃ v, base.IsCell c v
section
variable {X : Cx} {pins : HI} {σ : St} {H : Hp} {s : Shared} {f c : Addr} {A : Around} {scope : Scope} {clos : List (Str × Addr)} {p qn : Str} {caps : List (Str × V)}
theorem wa {x : Str} (I : Inv X pins σ H s) (hf : X.fn x = true) (h : X.env.cells.lookup x = some c) : c ∉ qg X.stack := by
 have h0 : c ∉ X.fs := fun hb => by
  obtain ⟨_, o, ho, _⟩ := I.ok.gH.mem hb;exact absurd (lt_size ho) (Nat.not_lt.mpr (I.ok.cab x c hf h))
 rcases I.ok.stk with e | ⟨e, fr⟩
 . rw [e]; exact h0
 . rw [e];intro hb;unfold qg at hb;rw [List.filterMap_cons, fr] at hb;rcases mem_cons.mp hb with z | z
   . exact I.CA x c h z
   . exact h0 z
def rm (caps : List (Str × Nat)) (σ : St) : List (Str × V) := caps.map fun q => (q.1, ((σ[q.2]?).join).getD .non)
theorem Bt {caps : List (Str × Nat)} (L : sQ X scope clos p caps) (I : Inv X pins σ H s) (hv : ∀ q ∈ caps, ∃ v, σ[q.2]? = some (some v)) : An (iB X.base s.heap (clos.map (·.2))) scope clos p (rm caps σ) := by
 refine ⟨L.kind, L.co, L.gen, L.nocell, L.par, fun q hq => ?_, fun x y c h1 h2 => I.ok.inj x y c (L.sub x c h1) (L.sub y c h2), L.has, fun x c h => ?_⟩
 . obtain ⟨q0, hq0, rfl⟩ := mem_map.mp hq;obtain ⟨v, ev⟩ := hv q0 hq0;obtain ⟨c1, c2, c3, c4⟩ := L.cap q0 hq0;obtain ⟨m0, hn0, hl0⟩ := I.loc;obtain ⟨u', r', lk⟩ := hl0 q0.2 q0.1 v c1 ev (.inr (.inl c2));refine ⟨c4, ?_⟩;rcases lk with ⟨k1, _⟩ | ⟨_, c', lc, o, ho, hdo⟩
   . rw [c2] at k1; cases k1
   . have hm : c' ∈ clos.map (·.2) := mem_map.mpr ⟨(q0.1, c'), PySem.mem_of_lookup (c3.trans lc), rfl⟩;refine ⟨c', u', c3.trans lc, ?_, o, nN hm ho, hdo⟩;show RelV (((σ[q0.2]?).join).getD .non) u';rw [ev];exact r'
 . obtain ⟨v, o, ho, hd⟩ := I.cell x c (L.sub x c h);exact ⟨v, o, nN (mem_map.mpr ⟨(x, c), PySem.mem_of_lookup h, rfl⟩) ho, hd⟩
theorem yN (I : Inv X pins σ H s) (L : An X.base scope clos p caps) (hd : A.handled = none) (e0 : oj X.prog X.w X.K X.mg X.base A X.stack s H) {u : Value} {v : V} (r : RelV v u) {h1 : Heap} {tk : Nat} {R : HK}
 (hns : h1.Ns s.heap.objs.size fun x => [(p, u)].reverse.lookup x) (hk : ∀ b o, s.heap.get? b = some o -> h1.get? b = some o) :
 Inv (fA X A (p :: caps.map (·.1)) qn scope clos f c s H R) [] (some v :: caps.map fun q => some q.2) H { s with heap := h1, toks := tk } := by
 have noA : ∀ b : Addr, b ∉ (fA X A (p :: caps.map (·.1)) qn scope clos f c s H R).ex := fun b z => absurd (show b ∈ ([] : List Addr) from z) (by simp);have cl : ∀ {c' : Addr} {w : Option Value}, X.base.IsCell c' w -> h1.IsCell c' w := fun {c' w} ⟨o, ho, hdo⟩ => ⟨o, hk _ _ (I.bk _ _ ho), hdo⟩
 refine ⟨⟨e0.mod, L.kind, rfl, rfl, Nat.le_refl _, L.inj, fun y hy => ?_, fun y c' z _ => absurd (show false = true from z) (by simp), fun _ => hd, Around.frames_deeper e0.frames, .inr ⟨rfl, rfl⟩, fun b z => absurd z (noA b), e0.bs, e0.bsz, fun b _ _ => noA b, fun b z => absurd z (noA b), e0.gH, e0.frf⟩,
  rfl, e0.bare, Un.kept hk, ⟨_, hns, fun i y v' h1 h2 h3 => ?_⟩, fun y c' h => ?_, e0.hok.fresh (Nat.le_refl _), fun y c' h => ?_, fun p hp => absurd (show p ∈ ([] : HI) from hp) (by simp), e0.hok.kept hk, by simp [fA]⟩
 . have hy : scope.names.lookup y = some .cell \/ scope.names.lookup y = some .free := hy;rcases hy with hy | hy
   . exact absurd rfl (L.nocell _ (PySem.mem_of_lookup hy))
   . exact L.has y hy
 . cases i with
   | zero =>
    have e1 : p = y := by simpa [fA] using h1
    have e2 : v = v' := by simpa using h2
    subst e1 e2;exact ⟨u, r, .inl ⟨L.par, by simp⟩⟩
   | succ i =>
    have e1 : (caps.map (·.1))[i]? = some y := by simpa [fA] using h1
    have e2 : (caps.map fun q => some q.2)[i]? = some (some v') := by simpa using h2
    rw [getElem?_map] at e1 e2
    cases eq : caps[i]? with
    | none => rw [eq] at e1; cases e1
    | some q =>
     rw [eq] at e1 e2;have e3 : q.1 = y := by simpa using e1
     have e4 : q.2 = v' := by simpa using e2
     subst e3 e4;obtain ⟨k1, c', u', lc, r', ic⟩ := L.cap q (mem_of_getElem? eq);exact ⟨u', r', .inr ⟨.inr k1, c', lc, cl ic⟩⟩
 . obtain ⟨v, ic⟩ := L.cell y c' h;exact ⟨v, cl ic⟩
 . obtain ⟨v, o, ho, _⟩ := L.cell y c' h;exact (I.bs _ _ ho).2
def rh (K : Frag) (ds : List D) (vs : List V) (f c : Addr) (qn : Str) (params : Arguments) (body : Expr) (scope : Scope) (clos : List (Str × Addr)) (pm ctv : Value) (H : Hp) (Z : aE) : Prop :=
 H f = some (tI f qn params body scope clos pm c ctv) /\ H c = some (om c qn) /\ aH K H Z ds vs
variable {params : Arguments} {body : Expr} {pm ctv : Value} {g : D -> D} {P0 : D -> Prop} {m : Bool} {ds : List D}
theorem wg (L : An X.base scope clos p caps) (hd : A.handled = none) (hA : A.frames = X.A.frames) (hroom : A.depth < recursionLimit)
 (hb : ∀ u, bindArgs (PySem.W.kla_fn "<lambda>" qn params body scope clos pm (.ref c) ctv) ⟨[u], []⟩ = pure [(p, u)])
 (hbody : ∀ (s : Shared) (H : Hp) (R : HK) (d : D), P0 d -> E (fA X A (p :: caps.map (·.1)) qn scope clos f c s H R) m (some d :: ds.map some) body (g d)) :
 tQ X A σ f g P0 (rh X.K ds (caps.map (·.2)) f c qn params body scope clos pm ctv) where
 zone := fun {H Z Z'} hS hm ⟨a, b, en⟩ => ⟨a, b, en.carry (.of (au.refl H) (fun a xs e z => hS a _ e z) hm)⟩
 same := fun {H H' Z} sm ⟨a, b, en⟩ => ⟨sm.at a, sm.at b, en.same sm⟩
 write := fun {H Z l xs ys} hl n ⟨a, b, en⟩ => ⟨by rw [ae (eF a hl (by intro z; cases z))]; exact a, by rw [ae (eF b hl (by intro z; cases z))]; exact b, en.carry (.write hl n)⟩
 run := fun E' pins s H Z u d Q I oz ⟨ga, gb, en⟩ ⟨v, r, iv⟩ p0 k => by
  have hfo : s.heap.get? f = some (kla_obj "<lambda>" qn params body scope clos pm c ctv) := (I.hok f _ ga).1;have hrec : s.heap.CodeRec (.ref c) qn := (I.hok c _ gb).1;have e0 : oj X.prog X.w X.K X.mg X.base A X.stack s H := ⟨hA.trans I.gG.frames, I.gG.mod, I.gG.bs, I.gG.bsz, I.gG.gH, I.gG.frf, I.gG.hok, I.gG.bare⟩
  refine wpAny_call (PySem.W.kla_callFunE hroom hfo rfl L.co L.gen rfl hrec ?_);rw [hb u];refine wpAny_pure (wpAny_newFunctionEnv L.nocell (fun x hx => ?_) (fun h1 hns hsb => ⟨I.nolimit.fresh _ hsb, ?_⟩) L.kind)
  . have : x = (p, u) := by simpa using hx
    rw [this]; exact L.par
  . show codeAny _ _ (.expr body (envX qn scope s.heap.objs.size f (.ref c) clos)) _ _;have hk1 : ∀ b o, s.heap.get? b = some o -> h1.get? b = some o := fun b o e => hsb.extBut b o (Nat.ne_of_lt (lt_size e)) (get?_push_of_some _ e);refine PySem.W.kla_codeExpr ?_;have J := yN (f := f) (c := c) (qn := qn) (R := fun r s' => match r with | .ok (.ret v) => Q v s' | .ok _ => False | .error e => E' e s') (tk := s.toks + 1) I L hd e0 r hns hk1;have en2 : bZ X.K H Z (some v :: caps.map fun q => some q.2) (some d :: ds.map some) := fun i d' e => by
     cases i with
     | zero => cases e; exact ⟨v, rfl, iv.top⟩
     | succ i =>
      have e' : ds[i]? = some d' := by
       have z : (ds.map some)[i]? = some (some d') := by simpa using e
       rw [getElem?_map] at z
       cases q : ds[i]? with
       | none => rw [q] at z; cases z
       | some x => rw [q] at z; cases z; rfl
      obtain ⟨w, h1, h2⟩ := en.get e';refine ⟨w, ?_, h2.top⟩;rw [getElem?_map] at h1;show (caps.map fun q => some q.2)[i]? = _;rw [getElem?_map]
      cases q : caps[i]? with
      | none => rw [q] at h1; cases h1
      | some x => rw [q] at h1; cases h1; rfl
    have run := hbody s H (fun r s' => match r with | .ok (.ret v) => Q v s' | .ok _ => False | .error e => E' e s') d p0 [] _ _ H (fun v' H' => au H H' /\ In X.K H' (out m Z H) (g d) v') J ⟨Z, oz, en2, fun v' H' sm i => ⟨sm, i⟩⟩;refine wpAny_mono run (fun w s' ⟨v', H', J', rw', sm, iw⟩ => ?_) fun _ _ z => z;obtain ⟨v2, H2, I2, r2, sm2, iw2⟩ := I.after (Q := fun v' H' => au H H' /\ In X.K H' (out m Z H) (g d) v') (u := w) (s' := s') ⟨v', H', J'.os, J'.bare, J'.base, J'.hok, rw', sm, iw⟩;exact k w H2 s' I2 sm2 ⟨v2, r2, iw2.plain oz⟩
end
section
variable {X : Cx} {f c : Addr} {scope : Scope} {clos : List (Str × Addr)} {qn x : Str} {params : Arguments} {body : Expr} {pm ctv : Value} {g : D -> D} {P0 : D -> Prop} {m : Bool} {ρ : List (Option D)} {a : Expr} {d : D} {i : Nat} {p pos : Pos} {dcs : List D} {vcs : List V}
def C0 (K : Frag) (i : Nat) (f : Addr) (ρ : List (Option D)) (Good : Hp -> aE -> Prop) (d' : D) : TE := fun σ H Q => σ[i]? = some (some (.ref f)) /\ ∃ Z : aE, Z.Open H /\ bZ K H Z σ ρ /\ Good H Z /\ ∀ v H', au H H' -> In K H' Z d' v -> Q v H'
theorem AE (hN : X.N[i]? = some x) (hv : sx X.env.scope x) (ha : E X m ρ a d) (kk : ∀ σ, tQ X X.A σ f g P0 (rh X.K dcs vcs f c qn params body scope clos pm ctv)) (hp : P0 d)
 (hd : NdX x := by decide) (hcd : NcX x := by decide) (hs : starEach [a] X.env = [(false, eval a X.env)] := by rfl) :
 PE X (.Call (.Name x p) [a] [] pos) (C0 X.K i f ρ (rh X.K dcs vcs f c qn params body scope clos pm ctv) (g d)) := by
 intro pins s σ H Q I ⟨e, Z, oz, en, gd, k⟩;refine wpAny_Call_Name_kw (cy (dg hN hv hd hcd pins s σ H (fun v H' => v = .ref f /\ H' = H) I ⟨_, e, rfl, rfl⟩) fun u s1 ⟨v, H1, I1, r1, q1, q2⟩ => ?_);subst q1 q2;cases r1;have PAa := aK ha bu (by rw [hs]; rfl);refine PyProof.Rows.callWith_def (o := kla_obj "<lambda>" qn params body scope clos pm c ctv) rfl (cy (PAa pos pins s1 σ H1 (fun vs H2 => au H1 H2 /\ ∃ x, vs = [x] /\ In X.K H2 (out m Z H1) d x) I1 ⟨Z, oz, en, fun x H2 s2 i2 => ⟨s2, x, rfl, i2⟩⟩) fun us s2 ⟨vs, H2, I2, r2, sm, x, ex, ix⟩ => ⟨?_, ?_⟩) (by rw [hs]; rfl)
 . exact (I2.hok f _ (sm.at gd.1)).1
 . subst ex;obtain ⟨u, rfl, rx⟩ := vals1 r2;exact (kk σ).run _ pins s2 H2 Z u d _ I2 (oz.same sm) ((kk σ).same sm gd) ⟨x, rx, ix.plain oz⟩ hp fun kv H3 s3 I3 sm3 ⟨v3, r3, i3⟩ => ⟨v3, H3, I3, r3, k v3 H3 (sm.trans sm3) i3⟩
end
section
variable {X : Cx} {F : Fn} {ρ ρ1 : b0} {Q : iu} {rest body orelse : List Stmt} {e a : Expr} {d : D} {pos p cpos : Pos} {i : Nat} {x : Str} {m : Bool} {f c : Addr} {scope : Scope} {clos : List (Str × Addr)} {qn : Str} {params : Arguments} {lb : Expr} {pm ctv : Value} {g : D -> D} {P0 : D -> Prop} {dcs : List D} {vcs : List V} {b : Bool}
theorem Ed (hi : ρ[i]? = some (some (.rf (.ref f)))) (ha : E X m (view true false ρ) a d) (kk : ∀ σ, tQ X X.A σ f g P0 (rh X.K dcs vcs f c qn params lb scope clos pm ctv)) (hp : P0 d) (hg : g d = .bl b) (gd : rh X.K dcs vcs f c qn params lb scope clos pm ctv F.H F.Z)
 (h1 : b = true -> SD X F body ρ { Q with nx := fun r => SD X F rest r Q }) (h2 : b = false -> SD X F orelse ρ { Q with nx := fun r => SD X F rest r Q }) (hN : X.N[i]? = some x := by rfl) (hv : sx X.env.scope x := by first | exact Or.inl rfl | exact Or.inr (Or.inl rfl) | exact Or.inr (Or.inr rfl))
 (hd : NdX x := by decide) (hcd : NcX x := by decide) (hs : starEach [a] X.env = [(false, eval a X.env)] := by rfl) :
 SD X F (.If (.Call (.Name x p) [a] [] cpos) body orelse pos :: rest) ρ Q := by
 refine gL (N := fun r => SD X F rest r Q) ?_ fun _ h => h;have hc := yd (AE (p := p) (pos := cpos) hN hv ha kk hp hd hcd hs);have at' : ∀ {σ hv : St} {hρ : b0} {A : Nat -> List Addr} {H : Hp}, σ.length = ρ.length -> bz X.K F H (σ ++ hv) (ρ ++ hρ) A -> σ[i]? = some (some (.ref f)) := fun {σ hv hρ A H} hl S => by
  have il : i < ρ.length := (List.getElem?_eq_some_iff.mp hi).1;obtain ⟨v, e1, e2⟩ := S.at' i (.rf (.ref f)) (by rw [getElem?_append_left il]; exact hi);rw [getElem?_append_left (by omega)] at e1;have e3 : v = .ref f := e2;rw [e1, e3]
 cases b with
 | true =>
  exact PS.mono (oV hc (h1 rfl) (eS (sts := orelse))) fun Q' σ H z0 => fF z0 fun hv hρ A hl S ff => ⟨at' hl S, _, aF S true false, S.env hl true false, (kk σ).same S.same gd, fun v H1 s1 i1 => by
   rw [hg] at i1;exact ⟨true, aR.mp i1, by refine nG ?_; exact ⟨hv, hρ, A, hl, S.grow s1, ff⟩⟩⟩
 | false =>
  exact PS.mono (oV hc (eS (sts := body)) (h2 rfl)) fun Q' σ H z0 => fF z0 fun hv hρ A hl S ff => ⟨at' hl S, _, aF S true false, S.env hl true false, (kk σ).same S.same gd, fun v H1 s1 i1 => by
   rw [hg] at i1;exact ⟨false, aR.mp i1, by refine mV ?_; exact ⟨hv, hρ, A, hl, S.grow s1, ff⟩⟩⟩
end
def Gm (K : Frag) (f : Addr) (Good : Hp -> aE -> Prop) (m : Bool) (ds : List D) (d : D) : Sp := fun vs H Q _ => ∃ (Z : aE) (xs : List V), vs = xs ++ [.ref f] /\ Z.Open H /\ aH K H Z ds xs /\ Good H Z /\ ∀ v H', au H H' -> In K H' (out m Z H) d v -> Q v H'
def mx (N : HL) (ds : List D) (v : V) : b0 := (df N ds).set ds.length (some (.rf v))
theorem wc {N : HL} {xs : List V} {v : V} (h : xs.length < N.length) : L2.start N (xs ++ [v]) = (L2.start N xs).set xs.length (some v) := by
 unfold L2.start;obtain ⟨k, hk⟩ : ∃ k, N.length - xs.length = k + 1 := ⟨N.length - xs.length - 1, by omega⟩
 have hk' : N.length - (xs ++ [v]).length = k := by rw [List.length_append]; simp; omega
 rw [hk, hk', List.replicate_succ, map_append, List.append_assoc, List.set_append_right _ _ (by simp)];simp
theorem xF {K : Frag} {Z : aE} {H : Hp} {m : Bool} {N : HL} {ds : List D} {xs : List V} {v : V} (oz : Z.Open H) (h : aH K H Z ds xs) (hN : ds.length < N.length) :
 bz K ⟨m, Z, H⟩ H (L2.start N (xs ++ [v]) ++ []) (mx N ds v ++ []) (bP (fun _ => []) ds.length []) := by
 have hl := h.length;have S := jR (m := m) (N := N) oz h;rw [wc (by omega), <- hl];unfold mx;have e1 : (L2.start N xs).length = N.length := by simp [L2.start]; omega
 have e2 : (df N ds).length = N.length := by simp [df]; omega
 rw [<- aX (by omega), <- aX (by omega)];exact S.put (by rw [List.length_append]; omega) (by rw [List.length_append]; omega) (au.refl H) List.nodup_nil (fun a ha => by simp at ha) rfl
section
variable {P : Program} {w : World} {K : Frag} {mg : HE} {base : Heap} {f : Addr} {fd : FuncData}
theorem Hs {x qual : Str} {st : Stmt} {f fl : Addr} {fd : FuncData} {N ps : HL} {k : Nat} {m : Bool} {Good : Hp -> aE -> Prop} {ds : List D} {d : D} (Fx : eg K x qual st f fd) (S : aB N ps (ah st)) (hlen : ds.length + 1 = ps.length) (hN : ds.length < N.length)
 (body : ∀ (cdv : Value) (A : Around) (outer : List Env) (s : Shared) (H : Hp) (E : XK) (Z : aE), bx k (A.deeper (envOfC qual (ah st) s.heap.objs.size f cdv)) -> Good H Z ->
  SD (lO lM P w K mg base N qual (ah st) f cdv A outer s H E).zL ⟨m, Z, H⟩ (bA st) (mx N ds (.ref fl)) { nx := fun _ => d = .non, rt := fun d' => d' = d }) : fi P w K mg base lM (k + 1) f fd ps (Gm K fl Good m ds d) := by
 refine Fx.ok S (fun vs H Q E ⟨Z, xs, e, oz, i, gd, kk⟩ => ?_) (fun cdv A outer s H vs Q E hr ⟨Z, xs, e, oz, i, gd, kk⟩ => ?_)
 . rw [e, List.length_append, <- i.length]; exact hlen
 . subst e;have hl := i.length;refine ⟨_, body cdv A outer s H E Z hr gd, [], [], _, ?_, xF oz i hN, ⟨rfl, fun σ H' ⟨r, A', hl, S', e⟩ => ?_, fun σ H' ⟨r, A', hl, S', e⟩ => e.elim, fun σ H' ⟨r, A', hl, S', e⟩ => e.elim, fun v d' H' s' i' e => ?_, fun _ _ _ _ _ _ _ _ e => e.elim, fun _ _ _ _ _ _ _ _ _ _ _ _ _ e => e.elim, fun _ _ _ _ _ _ _ e => e.elim⟩⟩
   . simp [L2.start, mx, df]; omega
   . subst e;exact kk .non H' S'.same (bK.mpr rfl)
   . subst e;exact kk v H' s' i'
end
section
variable {X : Cx} {ρ : List (Option D)} {m1 m2 m : Bool} {a b : Expr} {da db d : D} {p pos lpos : Pos} {c Pt fa : Addr} {fd : FuncData} {k : Nat} {qn pn x p1 p2 p3 : Str} {params : Arguments} {body : Expr} {scope : Scope} {clos : List (Str × Addr)} {caps : List (Str × Nat)} {dcs : List D}
def GC (qn : Str) (params : Arguments) (body : Expr) (scope : Scope) (clos : List (Str × Addr)) : TE := fun σ H Q => TabsOk H /\ ∀ f c' pm ctv H', au H H' -> H' f = some (tI f qn params body scope clos pm c' ctv) -> H' c' = some (om c' qn) -> Q (.ref f) H'
theorem Dj (LC : sY X c Pt qn) (hdef : defaultsOf params X.env = ([], [])) (hcl : closureFor scope X.env = pure clos) : PE X (.Lambda params body scope lpos) (GC qn params body scope clos) := fun pins s σ H Q I ⟨t, k⟩ =>
 sH LC I t hdef hcl fun f c' pm ctv H' s' I' sm _ h1 h2 => ⟨.ref f, H', I', rfl, k f c' pm ctv H' sm h1 h2⟩
theorem zt {js : HN} {j i : Nat} (hcap : eM js ρ = dcs.map some) (hj : js[j]? = some i) : ∃ d, dcs[j]? = some d /\ ρ[i]? = some (some d) := by
 have z : (eM js ρ)[j]? = some ((ρ[i]?).join) := by unfold eM; rw [getElem?_map, hj]; rfl
 rw [hcap, getElem?_map] at z
 cases q0 : dcs[j]? with
 | none => rw [q0] at z; cases z
 | some dd =>
  rw [q0] at z;refine ⟨dd, rfl, ?_⟩
  cases q1 : ρ[i]? with
  | none => rw [q1] at z; cases z
  | some o =>
   rw [q1] at z
   cases o with
   | none => cases z
   | some o => cases z; rfl
theorem vy (ha : E X m1 ρ a da) (hb : E X m2 ρ b db) (LC : sY X c Pt qn) (LO : sQ X scope clos pn caps) (hcl : closureFor scope X.env = pure clos) (hcap : eM (caps.map (·.2)) ρ = dcs.map some) (hfn : ∀ x c, clos.lookup x = some c -> X.fn x = true) (hlk : ∀ q ∈ clos, clos.lookup q.1 = some q.2)
 (hF : ∀ (base' : Heap) (capsv : List (Str × V)) (f c' : Addr) (pm ctv : Value), capsv.map (·.1) = caps.map (·.1) -> An base' scope clos pn capsv -> fi X.prog X.w X.K X.mg base' lM k fa fd [p1, p2, p3] (Gm X.K f (rh X.K dcs (capsv.map (·.2)) f c' qn params body scope clos pm ctv) m [da, db] d))
 (hr : bx k X.A) (hmg : X.mg x = some (.ref fa)) (hk : keepIn X.K (.ref fa) = true) (hbd : Binds X.K fd [p1, p2, p3] []) (hdef : defaultsOf params X.env = ([], []) := by rfl) (hg : Gl X x := by rfl) (hdb : NdX x := by decide)
 (h1 : starEach [a, b, .Lambda params body scope lpos] X.env = (false, eval a X.env) :: starEach [b, .Lambda params body scope lpos] X.env := by rfl) (h2 : starEach [b, .Lambda params body scope lpos] X.env = (false, eval b X.env) :: starEach [.Lambda params body scope lpos] X.env := by rfl)
 (hng : ∀ d ∈ dcs, d.Ga = true := by intro d hd; rcases List.mem_singleton.mp hd with rfl; rfl) (hx : Passes lM X E0 := by exact vg) : E X m ρ (.Call (.Name x p) [a, b, .Lambda params body scope lpos] [] pos) d := by
 intro pins s σ H Q I ⟨Z, oz, en, kq⟩;have PAa := aK ha (aK hb (aK (Dj (body := body) (lpos := lpos) LC hdef hcl) bu rfl) h2) h1;refine wpAny_Call_Name_kw (vT I hg hmg ?_ hdb);refine PySem.W.callWith_K (h₀ := X.base) I.ok.mod.kin hk (cy (PAa pos pins s σ H (fun vs H3 => au H H3 /\ ∃ xa xb f c' pm ctv, vs = [xa, xb, .ref f] /\ In X.K H3 Z da xa /\ In X.K H3 Z db xb /\ H3 f = some (tI f qn params body scope clos pm c' ctv) /\ H3 c' = some (om c' qn)) I
  ⟨Z, oz, en, fun xa H1 s1 i1 => ⟨Z, oz.same s1, en.same s1, fun xb H2 s2 i2 => ⟨(s1.trans s2).tabs oz.tb, fun f c' pm ctv H3 s3 q1 q2 => ⟨(s1.trans s2).trans s3, xa, xb, f, c', pm, ctv, rfl, ((i1.plain oz).same s2).same s3, (i2.plain (oz.same s1)).same s3, q1, q2⟩⟩⟩⟩) fun us s1 ⟨vs, H3, I3, r3, sm, xa, xb, f, c', pm, ctv, ev, ia, ib, q1, q2⟩ => ⟨I3.BZ, ?_⟩) h1 (by rw [h2]; rfl)
 subst ev;have hv : ∀ q ∈ caps, ∃ v, σ[q.2]? = some (some v) := fun q hq => by
  obtain ⟨j, hj⟩ := List.getElem?_of_mem hq;obtain ⟨dd, _, e2⟩ := zt hcap (j := j) (i := q.2) (by rw [getElem?_map, hj]; rfl);obtain ⟨v, e, _⟩ := en q.2 dd e2;exact ⟨v, e⟩
 have C := Bt LO I3 hv;have FF := hF _ _ f c' pm ctv (by unfold rm; rw [map_map]; rfl) C;have cells : ∀ cc ∈ clos.map (·.2), H3 cc = none /\ cc ∉ qg X.stack := fun cc hcc => by
  obtain ⟨⟨y, cc'⟩, hm, rfl⟩ := mem_map.mp hcc;have lk := hlk _ hm;exact ⟨I3.freeC y cc' (LO.sub y cc' lk), wa I3 (hfn y cc' lk) (LO.sub y cc' lk)⟩
 have dat : aH X.K H3 Z dcs ((rm caps σ).map (·.2)) := by
  have hl : dcs.length = caps.length := by have z := congrArg List.length hcap; simpa [eM] using z.symm
  refine aH.of_get (by simp [rm, hl]) fun j dd v e1 e2 => ?_;unfold rm at e2;rw [map_map, getElem?_map] at e2
  cases q0 : caps[j]? with
  | none => rw [q0] at e2; cases e2
  | some q =>
   rw [q0] at e2;obtain ⟨d2, z1, z2⟩ := zt hcap (j := j) (i := q.2) (by rw [getElem?_map, q0]; rfl);rw [e1] at z1;cases z1;obtain ⟨v2, z3, z4⟩ := en q.2 dd z2;have e4 : ((σ[q.2]?).join).getD .non = v := by simpa using e2
   rw [z3] at e4;have e5 : v2 = v := e4;rw [<- e5];exact (z4.same sm).eY (hng dd (mem_of_getElem? e1))
 refine wpAny_call (codeAny_mono (FF.run X.A X.stack s1 H3 ⟨us, []⟩ us [xa, xb, .ref f] Q E0 hr (t8 I3.gG cells) ?_ r3 ⟨Z, [xa, xb], rfl, oz.same sm, ?_, ⟨q1, q2, dat⟩, fun v H' s' i' => kq v H' (sm.trans s') (i'.later sm)⟩) fun r s' hq => ?_)
 . have z := hbd s1 us I3.BZ (by rw [append_nil, <- r3.length]; rfl);rw [append_nil] at z;exact z
 . exact ar.mpr ⟨_, _, rfl, ia, aH.one ib⟩
 . match r, hq with
   | .ok (.ret u), hq => exact I3.after hq
   | .error e, hq => exact hx pins σ H3 s1 e s' I3 hq
end
end Y
namespace Y
open PySem PySem.Spec PyProof.Rows L2
variable [cq]
def pK (rows : HA) (p q : HQ) : Bool := bD .lt (jQ rows p) (jQ rows q)
theorem eU (rows : HA) (p : HQ) : vN (jQ rows p) := ⟨_, p, rfl⟩
theorem Bh {p q : HQ} (h : dJ p = dJ q) : p = q := by
 unfold dJ at h;injection h with h;injection h with h1 h;injection h with h2 h;injection h1 with h1;injection h2 with h2;exact Prod.ext (by omega) (by omega)
theorem yT {rows : HA} {p q : HQ} (h : jQ rows p = jQ rows q) : p = q := by
 unfold jQ at h;injection h with h;injection h with h1 h;injection h with h2 h;exact Bh h2
theorem C1 (rows : HA) (p : HQ) : pK rows p p = false := lV.ir _ (eU rows p)
theorem yR {rows : HA} {p q r : HQ} (a : pK rows p q = true) (b : pK rows q r = true) : pK rows p r = true := lV.tr _ _ _ (eU rows p) (eU rows q) (eU rows r) a b
theorem z7 {rows : HA} {p q : HQ} (n : p ≠ q) (a : pK rows q p = false) : pK rows p q = true := by
 cases h : pK rows p q with
 | true => rfl
 | false => exact absurd (yT (lV.tt _ _ (eU rows p) (eU rows q) h a)) n
theorem Ew {rows : HA} {p q : HQ} (a : pK rows p q = true) : pK rows q p = false := by
 cases h : pK rows q p with
 | false => rfl
 | true => have := yR a h; rw [C1] at this; cases this
def ax (rows : HA) : List HQ := (gh rows).mergeSort fun x y => !pK rows y x
theorem AB (rows : HA) : AF rows = ei (ax rows) := by
 unfold AF ei ax qW;congr 1;refine (List.map_mergeSort (f := dJ) (r := fun x y => !pK rows y x) (s := fun x y => !bD .lt (w6 rows y) (w6 rows x)) fun a _ b _ => ?_).symm;rw [iL, iL];rfl
theorem gq (rows : HA) : (ax rows).Perm (gh rows) := List.mergeSort_perm _ _
theorem kW (rows : HA) : (ax rows).length = lI rows := by rw [(gq rows).length_eq, nE]
theorem sL {α β : Type} (l : List α) (f : α -> List β) (hl : l.Nodup) (h1 : ∀ a ∈ l, (f a).Nodup) (h2 : ∀ a b x, x ∈ f a -> x ∈ f b -> a = b) : (l.flatMap f).Nodup := by
 induction l with
 | nil => simp
 | cons a l ih =>
  rw [List.flatMap_cons, List.nodup_append];rw [nodup_cons] at hl;refine ⟨h1 a (by simp), ih hl.2 fun b hb => h1 b (by simp [hb]), fun x hx y hy e => ?_⟩;subst e;obtain ⟨b, hb, hy⟩ := List.mem_flatMap.mp hy;have := h2 a b x hx hy;subst this;exact hl.1 hb
theorem tF (rows : HA) : (gh rows).Nodup := by
 unfold gh dj;refine sL _ _ List.nodup_range (fun n _ => ?_) fun a b x ha hb => ?_
 . rw [List.nodup_iff_pairwise_ne, List.pairwise_map];refine List.Pairwise.imp ?_ (List.nodup_iff_pairwise_ne.mp List.nodup_range);intro a b h e;injection e with _ e;exact h e
 . obtain ⟨_, _, rfl⟩ := mem_map.mp ha;obtain ⟨_, _, e⟩ := mem_map.mp hb;injection e with e _;exact e.symm
theorem gN (rows : HA) : (ax rows).Nodup := (gq rows).nodup_iff.mpr (tF rows)
theorem iM {rows : HA} {p : HQ} : p ∈ ax rows ↔ p ∈ gh rows := (gq rows).mem_iff
theorem yO (rows : HA) : (ax rows).Pairwise fun x y => pK rows x y = true := by
 have h : (ax rows).Pairwise fun x y => (!pK rows y x) = true := by
  unfold ax;refine List.pairwise_mergeSort (le := fun x y => !pK rows y x) (fun a b c h1 h2 => ?_) (fun a b => ?_) _
  . simp only [Bool.not_eq_true'] at *
    cases q : pK rows c a with
    | false => rfl
    | true =>
     by_cases e : b = c
     . subst e; rw [h1] at q; cases q
     . have := yR (z7 e h2) q;rw [h1] at this; cases this
  . cases q : pK rows b a with
    | false => simp
    | true => rw [Ew q]; simp
 have n := List.nodup_iff_pairwise_ne.mp (gN rows);refine (h.and n).imp fun {x y} h => z7 h.2 (by simpa using h.1)
def GL (rows : HA) (ps : HC) : Prop := ∀ p ∈ ps, p ∈ gh rows
def Gq (d : D) : Prop := ∃ p, d = dJ p
theorem pR : i4 Gq := (l0 fun _ => lU).sub fun d ⟨p, e⟩ => ⟨_, e, ⟨p.1, rfl⟩, ⟨p.2, rfl⟩, trivial⟩
theorem zr (rows : HA) : GL rows (ax rows) := fun p hp => iM.mp hp
theorem qj (ws : HL) : CV isStr (aj ws) := ⟨_, rfl, mr fun d hd => by obtain ⟨w, _, rfl⟩ := mem_map.mp hd; exact ⟨w, rfl⟩⟩
theorem Cn (ws : HL) : bD .lt (aj ws) (aj ws) = false := (iN iS).ir _ (qj ws)
theorem rW (a b : HL) : cD (aj a) (aj b) = true := (iN iS).cm _ _ (qj a) (qj b)
theorem yZ (rows : HA) (p q : HQ) : (bD .lt (aj (endAt rows p)) (aj (endAt rows q)) || (aV (aj (endAt rows p)) (aj (endAt rows q)) && bD .lt (dJ p) (dJ q))) = pK rows p q := by
 unfold pK jQ;simp only [bD, bQ];by_cases h : endAt rows p = endAt rows q
 . rw [h, Cn, bO, if_pos rfl];by_cases h2 : p = q
   . subst h2;rw [bO, if_pos rfl, pR.ir _ ⟨p, rfl⟩];rfl
   . rw [zC, if_neg (by simpa using h2)];rfl
 . rw [kT, if_neg (by simpa using h), decide_eq_false h];simp
theorem DR {rows : HA} {p q : HQ} (h : pK rows p q = true) : bD .lt (aj (endAt rows p)) (aj (endAt rows q)) = true \/ (endAt rows p = endAt rows q /\ bD .lt (dJ p) (dJ q) = true) := by
 rw [<- yZ] at h;rw [Bool.or_eq_true, Bool.and_eq_true, kT, decide_eq_true_eq] at h;exact h
def slt (a b : HL) : Bool := bD .lt (aj a) (aj b)
theorem ue (a : HL) : slt a a = false := (iN iS).ir _ (qj a)
theorem uh {a b c : HL} (h : slt a b = true) (k : slt b c = true) : slt a c = true := (iN iS).tr _ _ _ (qj a) (qj b) (qj c) h k
theorem xt {a b : HL} (h : aj a = aj b) : a = b := by
 unfold aj at h;injection h with h;exact List.map_inj_right (f := D.str) (fun x y e => by injection e) |>.mp h
theorem qU {a b : HL} (h : slt a b = false) (k : slt b a = false) : a = b := xt ((iN iS).tt _ _ (qj a) (qj b) h k)
theorem uP {a b : HL} (h : slt a b = true) : slt b a = false := by
 cases q : slt b a with
 | false => rfl
 | true => have z := uh h q; rw [ue] at z; cases z
theorem lX (a : HL) : slt a [] = false := by
 cases a <;> simp [slt, aj, bD, bQ, Od.sz]
theorem vC {x : Str} {a : HL} : slt [] (x :: a) = true := by
 simp [slt, aj, bD, bQ, Od.sz]
theorem kF (x y : Str) (a b : HL) : slt (x :: a) (y :: b) = if x = y then slt a b else Od.str .lt x y := by
 unfold slt aj;rw [map_cons, map_cons, bD, bQ, bD];by_cases h : x = y
 . rw [if_pos h, if_pos (by simp [aV, h]), bD]
 . rw [if_neg h, if_neg (by simp [aV, h])]
theorem qN : ∀ (a b : HL), bD .le (aj a) (aj b) = !slt b a
 | [], b => by rw [lX]; simp [aj, bD, bQ, Od.sz]
 | x :: a, [] => by rw [vC]; simp [aj, bD, bQ, Od.sz]
 | x :: a, y :: b => by
  have ih := qN a b;unfold aj at ih ⊢;rw [bD] at ih;rw [kF, map_cons, map_cons, bD, bQ, bD];by_cases h : x = y
  . rw [if_pos (by simp [aV, h]), if_pos h.symm];exact ih
  . rw [if_neg (by simp [aV, h]), if_neg (Ne.symm h)];rfl
theorem km : ∀ (k : Nat) (a b : HL), slt b a = false -> slt (b.take k) (a.take k) = false
 | 0, a, b, _ => by simpa using lX []
 | k + 1, [], b, _ => by simpa using lX _
 | k + 1, x :: a, [], h => by rw [vC] at h; cases h
 | k + 1, x :: a, y :: b, h => by
  rw [List.take_succ_cons, List.take_succ_cons, kF];rw [kF] at h;by_cases e : y = x
  . rw [if_pos e] at h ⊢;exact km k a b h
  . rw [if_neg e] at h ⊢;exact h
theorem gc : ∀ (ws e : HL), e.take ws.length = ws -> slt e ws = false
 | [], e, _ => lX e
 | y :: ws, [], h => by simp at h
 | y :: ws, x :: e, h => by
  rw [length_cons, List.take_succ_cons] at h;injection h with h1 h2;rw [kF, if_pos h1];exact gc ws e h2
theorem BH (e ws : HL) : slt (e.take ws.length) ws = slt e ws := by
 cases h : slt e ws with
 | false =>
  have z := km ws.length ws e h
  rwa [take_length] at z
 | true =>
  cases q : slt (e.take ws.length) ws with
  | true => rfl
  | false =>
   have z := km ws.length e ws (uP h);rw [take_length] at z;rw [gc ws e (qU q z)] at h;cases h
theorem zz (e ws : HL) : bD .le (aj (e.take ws.length)) (aj ws) = (slt e ws || decide (e.take ws.length = ws)) := by
 rw [qN, <- BH e ws];generalize e.take ws.length = t
 cases h : slt t ws with
 | true => rw [uP h]; rfl
 | false =>
  by_cases q : t = ws
  . rw [q, ue]; simp
  . cases z : slt ws t with
    | true => simp [q]
    | false => exact absurd (qU h z) q
def gV (rows : HA) (ps : HC) (ws : HL) : Nat := ps.countP fun p => slt (endAt rows p) ws
def manyN (rows : HA) (ps : HC) (ws : HL) : Nat := ps.countP fun p => decide ((endAt rows p).take ws.length = ws)
theorem sI {α : Type} {a b : α -> Bool} (h : ∀ x, a x = true -> b x = false) : ∀ l : List α, l.countP (fun x => a x || b x) = l.countP a + l.countP b
 | [] => rfl
 | x :: l => by
  rw [List.countP_cons, List.countP_cons, List.countP_cons, sI h l]
  cases q : a x with
  | true => rw [h x q]; simp; omega
  | false => cases b x <;> simp <;> omega
theorem vp (rows : HA) (ps : HC) (ws : HL) : (ps.countP fun p => bD .le (aj ((endAt rows p).take ws.length)) (aj ws)) = gV rows ps ws + manyN rows ps ws := by
 unfold gV manyN;rw [<- sI (a := fun p => slt (endAt rows p) ws) (b := fun p => decide ((endAt rows p).take ws.length = ws)) fun p h => ?_]
 . congr 1;funext p;exact zz _ _
 . cases q : decide ((endAt rows p).take ws.length = ws) with
   | false => rfl
   | true => rw [gc ws _ (of_decide_eq_true q)] at h; cases h
theorem pE {rows : HA} {i j : Nat} (h : i < j) (hj : j < (ax rows).length) : slt (endAt rows ((ax rows).getD j (0, 0))) (endAt rows ((ax rows).getD i (0, 0))) = false := by
 have up := yO rows;have z := List.pairwise_iff_getElem.mp up i j (by omega) hj h;have e1 : (ax rows).getD i (0, 0) = (ax rows)[i] := by simp [show i < (ax rows).length by omega]
 have e2 : (ax rows).getD j (0, 0) = (ax rows)[j] := by simp [hj]
 rw [e1, e2];rcases DR z with q | ⟨q, _⟩
 . exact uP q
 . rw [q]; exact ue _
def sv (rows : HA) (ps : HC) (g : List Str -> Bool) : Prop := ∀ i j, i < j -> j < ps.length -> g (endAt rows (ps.getD j (0, 0))) = true -> g (endAt rows (ps.getD i (0, 0))) = true
theorem ri (rows : HA) (ws : HL) : sv rows (ax rows) fun e => slt e ws := fun i j h hj q => by
 have z := pE h hj
 cases y : slt (endAt rows ((ax rows).getD i (0, 0))) (endAt rows ((ax rows).getD j (0, 0))) with
 | true => exact uh y q
 | false => rw [qU y z]; exact q
theorem so (rows : HA) (ws : HL) : sv rows (ax rows) fun e => bD .le (aj (e.take ws.length)) (aj ws) := fun i j h hj q => by
 have z := km ws.length _ _ (pE h hj);dsimp only at q ⊢;rw [qN] at q ⊢;generalize (endAt rows ((ax rows).getD i (0, 0))).take ws.length = a at z ⊢;generalize (endAt rows ((ax rows).getD j (0, 0))).take ws.length = b at z q
 cases y : slt ws a with
 | false => rfl
 | true =>
  exfalso;have hb : slt ws b = true := by
   cases x : slt a b with
   | true => exact uh y x
   | false => rw [<- qU x z]; exact y
  rw [hb] at q;cases q
theorem count_at {α : Type} {g : α -> Bool} {x : α} : ∀ (l : List α) (n : Nat), n <= l.length -> (∀ i, i < n -> g (l.getD i x) = true) -> (∀ i, n <= i -> i < l.length -> g (l.getD i x) = false) -> l.countP g = n
 | [], n, h, _, _ => by simp at h; simp [h]
 | y :: l, 0, _, _, h => by
  have h0 := h 0 (Nat.le_refl _) (by simp);rw [List.getD_cons_zero] at h0;rw [List.countP_cons, h0, count_at (x := x) l 0 (Nat.zero_le _) (fun i hi => absurd hi (by omega)) fun i _ hi => by simpa using h (i + 1) (Nat.zero_le _) (by simpa using hi)];rfl
 | y :: l, n + 1, hn, h1, h2 => by
  have h0 := h1 0 (by omega);rw [List.getD_cons_zero] at h0;rw [List.countP_cons, h0, count_at (x := x) l n (by simpa using hn) (fun i hi => by simpa using h1 (i + 1) (by omega)) fun i hi hl => by simpa using h2 (i + 1) (by omega) (by simpa using hl)];rfl
def strsOf : D -> List Str
 | .lst ds => ds.map fun d => match d with | .str x => x | _ => ""
 | _ => []
theorem lJ (e : HL) : strsOf (aj e) = e := by
 show (e.map D.str).map _ = e;rw [map_map];exact (map_congr_left (fun x _ => rfl)).trans (List.map_id e)
def oU (ds : List D) (d : D) : Prop := ∃ (rows : HA) (ws : HL), ds = [bg rows, ei (ax rows), aj ws] /\ d = .tup [.int ((gV rows (ax rows) ws : Nat) : Int), .int ((gV rows (ax rows) ws + manyN rows (ax rows) ws : Nat) : Int)]
theorem jq {α : Type} (g : α -> Bool) : ∀ (ps : List α), (∀ i j : Nat, i < j -> ∀ a b, ps[i]? = some a -> ps[j]? = some b -> g b = true -> g a = true) -> ps.filter g = ps.take (ps.countP g) /\ ps.filter (fun a => !g a) = ps.drop (ps.countP g)
 | [], _ => by simp
 | p :: ps, h => by
  have ih := jq g ps fun i j hij a b ha hb => h (i + 1) (j + 1) (by omega) a b (by simpa using ha) (by simpa using hb)
  cases q : g p with
  | true =>
   rw [List.filter_cons_of_pos q, List.countP_cons_of_pos q, List.take_succ_cons, List.drop_succ_cons, List.filter_cons_of_neg (by simp [q]), ih.1, ih.2];exact ⟨rfl, rfl⟩
  | false =>
   have no : ∀ a ∈ ps, g a = false := fun a ha => by
    obtain ⟨j, hj, rfl⟩ := List.mem_iff_getElem.mp ha
    cases w : g ps[j] with
    | false => rfl
    | true =>
     have := h 0 (j + 1) (by omega) p ps[j] rfl (by simp [hj]) w;rw [q] at this; cases this
   have c0 : ps.countP g = 0 := List.countP_eq_zero.mpr fun a ha => by simp [no a ha]
   rw [List.filter_cons_of_neg (by simp [q]), List.countP_cons_of_neg (by simp [q]), c0, List.filter_cons_of_pos (by simp [q])];refine ⟨by rw [List.take_zero]; exact List.filter_eq_nil_iff.mpr fun a ha => by simp [no a ha], ?_⟩;rw [List.drop_zero, List.filter_eq_self.mpr fun a ha => by simp [no a ha]]
def uB (rows : HA) (ws : HL) (p : HQ) : Bool := decide ((endAt rows p).take ws.length = ws)
theorem sv.of {rows : HA} {ps : HC} {g : List Str -> Bool} (h : sv rows ps g) : ∀ i j : Nat, i < j -> ∀ a b, ps[i]? = some a -> ps[j]? = some b -> g (endAt rows b) = true -> g (endAt rows a) = true := fun i j hij a b ha hb q => by
 have hj := (List.getElem?_eq_some_iff.mp hb).1;have := h i j hij hj;rw [List.getD_eq_getElem?_getD, List.getD_eq_getElem?_getD, ha, hb] at this;exact this q
theorem Ep (rows : HA) (ws : HL) (p : HQ) : uB rows ws p = (bD .le (aj ((endAt rows p).take ws.length)) (aj ws) && !slt (endAt rows p) ws) := by
 rw [zz];unfold uB
 cases q : decide ((endAt rows p).take ws.length = ws) with
 | true => rw [gc ws _ (of_decide_eq_true q)]; rfl
 | false => cases slt (endAt rows p) ws <;> rfl
theorem DS (rows : HA) (ws : HL) : ((ax rows).drop (gV rows (ax rows) ws)).take (manyN rows (ax rows) ws) = (ax rows).filter (uB rows ws) := by
 have f1 := jq (fun p => slt (endAt rows p) ws) (ax rows) (ri rows ws).of;have f2 := jq (fun p => bD .le (aj ((endAt rows p).take ws.length)) (aj ws)) (ax rows) (so rows ws).of;rw [vp] at f2;have e : (ax rows).filter (uB rows ws) = ((ax rows).filter fun p => bD .le (aj ((endAt rows p).take ws.length)) (aj ws)).filter fun p => !slt (endAt rows p) ws := by
  rw [List.filter_filter];congr 1;funext p;rw [Ep, Bool.and_comm]
 rw [e, f2.1, List.take_add, filter_append];have a1 : ((ax rows).take (gV rows (ax rows) ws)).filter (fun p => !slt (endAt rows p) ws) = [] := by
  have : (ax rows).take (gV rows (ax rows) ws) = (ax rows).filter fun p => slt (endAt rows p) ws := f1.1.symm;rw [this, List.filter_filter];exact List.filter_eq_nil_iff.mpr fun p _ => by simp
 have a2 : (((ax rows).drop (gV rows (ax rows) ws)).take (manyN rows (ax rows) ws)).filter (fun p => !slt (endAt rows p) ws) = ((ax rows).drop (gV rows (ax rows) ws)).take (manyN rows (ax rows) ws) := by
  refine List.filter_eq_self.mpr fun p hp => ?_;have : (ax rows).drop (gV rows (ax rows) ws) = (ax rows).filter fun p => !slt (endAt rows p) ws := f1.2.symm;rw [this] at hp;exact (mem_filter.mp (List.mem_of_mem_take hp)).2
 rw [a1, a2, List.nil_append]
def E8 (p q : HQ) : Prop := p.1 < q.1 \/ p.1 = q.1 /\ p.2 < q.2
theorem yt {p q : HQ} (h : E8 p q) : bD .lt (dJ p) (dJ q) = true := by
 unfold dJ;rw [bD, bQ];rcases h with h | ⟨h, h2⟩
 . have ne : ¬ ((p.1 : Int) = (q.1 : Int)) := by omega
   simp [aV, ne, bD, Od.int];omega
 . have ne : ¬ ((p.2 : Int) = (q.2 : Int)) := by omega
   simp [aV, h, bQ, bD, Od.int, ne];omega
theorem Bu (rows : HA) (ws : HL) : cut ((ax rows).map dJ) (some ((gV rows (ax rows) ws : Nat) : Int)) (some ((gV rows (ax rows) ws + manyN rows (ax rows) ws : Nat) : Int)) = (((ax rows).drop (gV rows (ax rows) ws)).take (manyN rows (ax rows) ws)).map dJ := by
 rw [jS, List.map_take, List.map_drop];congr 1;omega
def xx (H : Hp) (as : List Addr) : Hp := fun b => if b ∈ as then none else H b
theorem jo {H : Hp} {as : List Addr} {b : Addr} (h : b ∉ as) : xx H as b = H b := by unfold xx; rw [if_neg h]
theorem Cs {H : Hp} {as : List Addr} {b : Addr} (h : b ∈ as) : xx H as b = none := by unfold xx; rw [if_pos h]
theorem mf {H : Hp} {as : List Addr} {b : Addr} {o : HO} (h : xx H as b = some o) : H b = some o /\ b ∉ as := by
 by_cases q : b ∈ as
 . rw [Cs q] at h; cases h
 . rw [jo q] at h; exact ⟨h, q⟩
theorem vn {H : Hp} {as : List Addr} {b : Addr} (h : xx H as b = none) : b ∈ as \/ H b = none := by
 by_cases q : b ∈ as
 . exact .inl q
 . rw [jo q] at h; exact .inr h
theorem AY {H : Hp} {as : List Addr} (t : TabsOk (xx H as)) : TabsOk H := fun P hP => by
 obtain ⟨ps, e, tr, k⟩ := t P hP;refine ⟨ps, (mf e).1, tr, fun pos cv q => ?_⟩;obtain ⟨c, rfl, hc⟩ := k pos cv q;exact ⟨c, rfl, (mf hc).1⟩
theorem AV {H : Hp} {as : List Addr} : au (xx H as) H := ⟨fun b o e _ => (mf e).1, fun b ps e => ⟨ps, (mf e).1⟩, AY⟩
mutual
def tP : Pt -> List Nat
 | .word w => cl w
 | .beg w => cl w ++ [42]
 | .fin w => 42 :: cl w
 | .any => [63]
 | .upto n => [46, 46, 48 + n]
 | .eY q => [40, 32] ++ AH [32, 124, 32] (GZ q) ++ [32, 41]
def Hi : List Pt -> List HN
 | [] => []
 | p :: ps => tP p :: Hi ps
def GZ : List (List Pt) -> List HN
 | [] => []
 | ps :: q => AH [32] (Hi ps) :: GZ q
end
def GN (w : Str) : Prop := cl w ≠ [] /\ (∀ c ∈ cl w, FO c = true) /\ (cl w).length <= 40
mutual
def pW : Nat -> Pt -> Prop
 | _, .word w => GN w
 | _, .beg w => GN w
 | _, .fin w => GN w
 | _, .any => True
 | _, .upto n => n < 10
 | k, .eY q => ∃ j, k = j + 1 /\ q ≠ [] /\ G3 j q
def He : Nat -> List Pt -> Prop
 | _, [] => True
 | k, p :: ps => pW k p /\ He k ps
def G3 : Nat -> List (List Pt) -> Prop
 | _, [] => True
 | k, ps :: q => (ps ≠ [] /\ He k ps) /\ G3 k q
end
def zU (q : List (List Pt)) : List Pt := q.getLastD []
def FL (q : List (List Pt)) (p : Pt) : List (List Pt) := q.dropLast ++ [zU q ++ [p]]
def DP (t : HN) : Bool := !t.isEmpty && t.all FO
def FR (t : HN) : Option Pt :=
 if DP t then some (.word (Ft t))
 else if t = [63] then some .any
 else if t.length = 3 /\ t.take 2 = [46, 46] /\ 48 <= t.getD 2 0 /\ t.getD 2 0 <= 57 then some (.upto (t.getD 2 0 - 48))
 else if t.getLast? = some 42 /\ DP t.dropLast = true then some (.beg (Ft t.dropLast))
 else if t.head? = some 42 /\ DP (t.drop 1) = true then some (.fin (Ft (t.drop 1)))
 else none
def EN (st : List (List (List Pt))) (t : HN) : List (List (List Pt)) :=
 if t = [40] then st ++ [[[]]]
 else if t = [124] then st.dropLast ++ [st.getLastD [] ++ [[]]]
 else if t = [41] then st.dropLast.dropLast ++ [FL (st.dropLast.getLastD []) (.eY (st.getLastD []))]
 else st.dropLast ++ [FL (st.getLastD []) ((FR t).getD .any)]
def Hr (st : List (List (List Pt))) (t : HN) : Prop :=
 (t = [40] /\ st.length <= 20) \/ (t = [124] /\ zU (st.getLastD []) ≠ []) \/ (t = [41] /\ zU (st.getLastD []) ≠ [] /\ 2 <= st.length) \/ (∃ p k, t = tP p /\ pW k p /\ ∀ q, p ≠ .eY q)
def Good : List (List (List Pt)) -> List HN -> Prop
 | _, [] => True
 | st, t :: ts => Hr st t /\ Good (EN st t) ts
def lG : List Str := ["..0", "..1", "..2", "..3", "..4", "..5", "..6", "..7", "..8", "..9"]
def zQ (d : D) : Prop := ∃ p : Nat × Nat, d = dJ p
theorem AN : i4 zQ := (l0 (u7 lU lU)).sub fun d ⟨p, e⟩ => ⟨_, e, ⟨_, rfl⟩, ⟨_, rfl⟩, trivial⟩
theorem zT : eA zQ (tuples' true) := .tup "int" (.inl rfl) fun d ⟨p, e⟩ => ⟨.int p.1, [.int p.2], e, rfl, rfl⟩
def fw : List Pt -> List Str
 | .word w :: ps => w :: fw ps
 | _ => []
theorem CL : ∀ ps : List Pt, (fw ps).length <= ps.length
 | [] => Nat.le_refl _
 | .word w :: ps => by have := CL ps; simp [fw]; exact this
 | .beg _ :: ps => by simp [fw]
 | .fin _ :: ps => by simp [fw]
 | .any :: ps => by simp [fw]
 | .upto _ :: ps => by simp [fw]
 | .eY _ :: ps => by simp [fw]
theorem Cb {x a : Nat} : (1 <<< a) &&& x = if x.testBit a then 1 <<< a else 0 := by
 apply Nat.eq_of_testBit_eq;intro i;rw [Nat.testBit_and, Nat.one_shiftLeft, Nat.testBit_two_pow];by_cases h : a = i
 . subst h
   cases q : x.testBit a with
   | true => simp [Nat.testBit_two_pow]
   | false => simp
 . cases q : x.testBit a with
   | true => simp [Nat.testBit_two_pow, h]
   | false => simp [h]
theorem DD (w : Str) (row : HL) (a : Nat) : jV row (.word w) (1 <<< a) = if a < row.length /\ row.getD a "" = w then 1 <<< (a + 1) else 0 := by
 unfold jV dq;rw [Cb];unfold ke;rw [dz];by_cases h : a < row.length /\ row.getD a "" = w
 . rw [if_pos h, if_pos (by simp only [fm]; rw [decide_eq_true h.1, decide_eq_true h.2]; rfl), <- Nat.shiftLeft_add]
 . rw [if_neg h, if_neg]
   . rfl
   . intro z;rw [Bool.and_eq_true, decide_eq_true_eq] at z;exact h ⟨z.1, of_decide_eq_true z.2⟩
theorem Ab (row : HL) : ∀ (ps : List Pt) (a : Nat), a <= row.length -> kH row ps (1 <<< a) = if (row.drop a).take (fw ps).length = fw ps then kH row (ps.drop (fw ps).length) (1 <<< (a + (fw ps).length)) else 0
 | [], a, _ => by simp [fw]
 | .word w :: ps, a, ha => by
  have e : kH row (.word w :: ps) (1 <<< a) = kH row ps (jV row (.word w) (1 <<< a)) := by rw [kH]
  rw [e, DD];simp only [fw, length_cons, List.drop_succ_cons];by_cases h : a < row.length /\ row.getD a "" = w
  . obtain ⟨h1, h2⟩ := h;rw [if_pos ⟨h1, h2⟩, Ab row ps (a + 1) (by omega)];have dr : row.drop a = w :: row.drop (a + 1) := by
     rw [List.drop_eq_getElem_cons h1];congr 1;rw [List.getD_eq_getElem?_getD, List.getElem?_eq_getElem h1] at h2;exact h2
    rw [dr, List.take_succ_cons];by_cases q : (row.drop (a + 1)).take (fw ps).length = fw ps
    . rw [if_pos q, if_pos (by rw [q])];congr 2;omega
    . rw [if_neg q, if_neg (fun z => q (List.cons.inj z).2)]
  . rw [if_neg h, Ah, if_neg];intro z;apply h;have hl : a < row.length := by
     rcases Nat.lt_or_ge a row.length with q | q
     . exact q
     . rw [List.drop_eq_nil_of_le q] at z;simp at z
    refine ⟨hl, ?_⟩;rw [List.drop_eq_getElem_cons hl, List.take_succ_cons] at z;rw [List.getD_eq_getElem?_getD, List.getElem?_eq_getElem hl];exact (List.cons.inj z).1
 | .beg _ :: ps, a, _ => by simp [fw]
 | .fin _ :: ps, a, _ => by simp [fw]
 | .any :: ps, a, _ => by simp [fw]
 | .upto _ :: ps, a, _ => by simp [fw]
 | .eY _ :: ps, a, _ => by simp [fw]
def fz (rows : HA) : List HQ := (List.range rows.length).map fun r => (r, (rows.getD r []).length)
def fV (rows : HA) (ws : HL) : List HQ := if ws = [] then ax rows ++ fz rows else (ax rows).filter (uB rows ws)
def placeOk (rows : HA) (p : HQ) : Prop := p.1 < rows.length /\ p.2 <= (rows.getD p.1 []).length
theorem rR {rows : HA} {ws : HL} {p : HQ} : p ∈ fV rows ws ↔ placeOk rows p /\ (endAt rows p).take ws.length = ws := by
 unfold fV placeOk;by_cases h : ws = []
 . subst h;rw [if_pos rfl, mem_append, iM];unfold fz;rw [mem_map];constructor
   . rintro (h | ⟨r, hr, rfl⟩)
     . obtain ⟨a, b⟩ := mE h;exact ⟨⟨a, Nat.le_of_lt b⟩, rfl⟩
     . exact ⟨⟨List.mem_range.mp hr, Nat.le_refl _⟩, rfl⟩
   . rintro ⟨⟨a, b⟩, _⟩;rcases Nat.lt_or_ge p.2 (rows.getD p.1 []).length with c | c
     . refine .inl ?_;unfold gh dj;exact List.mem_flatMap.mpr ⟨p.1, List.mem_range.mpr a, mem_map.mpr ⟨p.2, List.mem_range.mpr c, rfl⟩⟩
     . exact .inr ⟨p.1, List.mem_range.mpr a, Prod.ext rfl (by show (rows.getD p.1 []).length = p.2; omega)⟩
 . rw [if_neg h, mem_filter, iM];unfold uB;rw [decide_eq_true_eq];constructor
   . rintro ⟨a, b⟩;obtain ⟨c, d⟩ := mE a;exact ⟨⟨c, Nat.le_of_lt d⟩, b⟩
   . rintro ⟨⟨a, b⟩, c⟩;refine ⟨?_, c⟩;have hl : p.2 < (rows.getD p.1 []).length := by
      rcases Nat.lt_or_ge p.2 (rows.getD p.1 []).length with q | q
      . exact q
      . unfold endAt at c;rw [List.drop_eq_nil_of_le q] at c;exact absurd (by simpa using c.symm) h
     unfold gh dj;exact List.mem_flatMap.mpr ⟨p.1, List.mem_range.mpr a, mem_map.mpr ⟨p.2, List.mem_range.mpr hl, rfl⟩⟩
theorem ur (rows : HA) (ws : HL) : (fV rows ws).Nodup := by
 unfold fV;by_cases h : ws = []
 . rw [if_pos h];refine List.nodup_append.mpr ⟨gN rows, ?_, fun a ha b hb z => ?_⟩
   . unfold fz;rw [List.nodup_iff_pairwise_ne, List.pairwise_map];exact List.pairwise_lt_range.imp fun {a b} h z => absurd (congrArg Prod.fst z) (Nat.ne_of_lt h)
   . obtain ⟨c, d⟩ := mE (iM.mp ha);unfold fz at hb;obtain ⟨r, _, rfl⟩ := mem_map.mp hb;subst z;exact absurd d (Nat.lt_irrefl _)
 . rw [if_neg h];exact (gN rows).filter _
theorem y3 (rows : HA) (ws : HL) : (fV rows ws).length <= lI rows + rows.length := by
 unfold fV fz;split
 . rw [List.length_append, kW, length_map, length_range]; exact Nat.le_refl _
 . have := length_filter_le (uB rows ws) (ax rows);rw [kW] at this;omega
def cR : List (HQ × Nat) -> Nat × Nat -> Nat
 | [], _ => 0
 | q :: m, p => if q.1 = p then q.2 else cR m p
def xi : List (HQ × Nat) -> Nat × Nat -> Nat -> List (HQ × Nat)
 | [], p, v => [(p, v)]
 | q :: m, p, v => if q.1 = p then (p, v) :: m else q :: xi m p v
theorem vS : ∀ (m : List (HQ × Nat)) (p : HQ) (v : Nat) (q : HQ), cR (xi m p v) q = if q = p then v else cR m q
 | [], p, v, q => by
  simp only [xi, cR];by_cases h : p = q
  . rw [if_pos h, if_pos h.symm]
  . rw [if_neg h, if_neg (Ne.symm h)]
 | a :: m, p, v, q => by
  unfold xi;by_cases h : a.1 = p
  . rw [if_pos h];simp only [cR];by_cases z : p = q
    . rw [if_pos z, if_pos z.symm]
    . rw [if_neg z, if_neg (Ne.symm z), if_neg (fun w => z (h.symm.trans w))]
  . rw [if_neg h];simp only [cR];rw [vS m p v q];by_cases z : q = p
    . rw [if_pos z, if_pos z, if_neg (fun w => h (w.trans z))]
    . rw [if_neg z, if_neg z]
theorem mX : ∀ (m : List (HQ × Nat)) (p : HQ) (v : Nat), (xi m p v).map (·.1) = if p ∈ m.map (·.1) then m.map (·.1) else m.map (·.1) ++ [p]
 | [], p, v => by simp [xi]
 | a :: m, p, v => by
  unfold xi;by_cases h : a.1 = p
  . rw [if_pos h, if_pos (by rw [<- h]; simp)];simp [h]
  . rw [if_neg h];rw [map_cons, mX m p v];by_cases z : p ∈ m.map (·.1)
    . rw [if_pos z, if_pos (by simp only [map_cons, mem_cons]; exact .inr z)];rfl
    . rw [if_neg z, if_neg (by simp only [map_cons, mem_cons, not_or]; exact ⟨Ne.symm h, z⟩)];rfl
def cG (m : List (HQ × Nat)) (F : HC) (f : Nat × Nat -> Nat) : List (HQ × Nat) := F.foldl (fun m p => xi m p (cR m p ||| f p)) m
theorem ij (m : List (HQ × Nat)) (F : HC) (p : HQ) (f : Nat × Nat -> Nat) : cG m (F ++ [p]) f = xi (cG m F f) p (cR (cG m F f) p ||| f p) := by simp [cG]
theorem dI {α : Type} {p : List α -> Prop} (h0 : p []) (hs : ∀ l a, p l -> p (l ++ [a])) (l : List α) : p l := by
 have : ∀ l : List α, p l.reverse := fun l => by
  induction l with
  | nil => exact h0
  | cons a l ih => rw [List.reverse_cons]; exact hs _ _ ih
 have := this l.reverse
 rwa [List.reverse_reverse] at this
theorem uq (m : List (HQ × Nat)) (f : Nat × Nat -> Nat) (q : HQ) (F : HC) : F.Nodup -> cR (cG m F f) q = if q ∈ F then cR m q ||| f q else cR m q := by
 refine dI (p := fun F => F.Nodup -> cR (cG m F f) q = if q ∈ F then cR m q ||| f q else cR m q) (fun _ => by simp [cG]) (fun F p ih nd => ?_) F;obtain ⟨n1, _, n2⟩ := List.nodup_append.mp nd;rw [ij, vS];have ihq := ih n1;by_cases h : q = p
 . subst h;have hn : q ∉ F := fun z => n2 q z q (by simp) rfl;rw [if_pos rfl, ihq, if_neg hn, if_pos (by simp)]
 . rw [if_neg h, ihq];by_cases z : q ∈ F
   . rw [if_pos z, if_pos (by simp [z])]
   . rw [if_neg z, if_neg (by simp [z, h])]
structure d8 (rows : HA) (m : List (HQ × Nat)) : Prop where
 nd : (m.map (·.1)).Nodup
 ok : ∀ p ∈ m.map (·.1), placeOk rows p
theorem d8.up {rows : HA} {m : List (HQ × Nat)} (h : d8 rows m) {p : HQ} (hp : placeOk rows p) (v : Nat) : d8 rows (xi m p v) := by
 refine ⟨?_, ?_⟩
 . rw [mX];split
   . exact h.nd
   . rename_i z;exact List.nodup_append.mpr ⟨h.nd, by simp, fun a ha b hb e => z (by rw [List.mem_singleton] at hb; exact hb ▸ e ▸ ha)⟩
 . rw [mX];split
   . exact h.ok
   . intro q hq;rcases mem_append.mp hq with hq | hq
     . exact h.ok q hq
     . rw [List.mem_singleton.mp hq]; exact hp
theorem d8.add {rows : HA} {m : List (HQ × Nat)} (h : d8 rows m) (f : Nat × Nat -> Nat) (F : HC) : (∀ p ∈ F, placeOk rows p) -> d8 rows (cG m F f) := by
 refine dI (p := fun F => (∀ p ∈ F, placeOk rows p) -> d8 rows (cG m F f)) (fun _ => h) (fun F p ih hF => ?_) F;rw [ij];exact (ih fun q hq => hF q (by simp [hq])).up (hF p (by simp)) _
def jf : List (Nat × List Nat) -> Nat × Nat -> List (Nat × List Nat)
 | [], p => [(p.1, [p.2])]
 | e :: g, p => if e.1 = p.1 then (e.1, e.2 ++ [p.2]) :: g else e :: jf g p
def lQ (ps : HC) : List (Nat × List Nat) := ps.foldl jf []
theorem kh (ps : HC) (p : HQ) : lQ (ps ++ [p]) = jf (lQ ps) p := by simp [lQ]
def bJ (g : List (Nat × List Nat)) : List HQ := g.flatMap fun e => e.2.map fun a => (e.1, a)
theorem oB : ∀ (g : List (Nat × List Nat)) (p : HQ), (bJ (jf g p)).Perm (bJ g ++ [p])
 | [], p => by simp [jf, bJ]
 | e :: g, p => by
  unfold jf;by_cases h : e.1 = p.1
  . rw [if_pos h];have a : bJ ((e.1, e.2 ++ [p.2]) :: g) = (e.2.map fun a => (e.1, a)) ++ ([p] ++ bJ g) := by
     simp [bJ, h]
    have b : bJ (e :: g) = (e.2.map fun a => (e.1, a)) ++ bJ g := by simp [bJ]
    rw [a, b, List.append_assoc];exact List.Perm.append_left _ List.perm_append_comm
  . rw [if_neg h];have b : ∀ g, bJ (e :: g) = (e.2.map fun a => (e.1, a)) ++ bJ g := fun g => by simp [bJ]
    rw [b, b, List.append_assoc];exact List.Perm.append_left _ (oB g p)
theorem ko (ps : HC) : (bJ (lQ ps)).Perm ps := by
 refine dI (p := fun ps => (bJ (lQ ps)).Perm ps) (by simp [lQ, bJ]) (fun ps p ih => ?_) ps;rw [kh];exact (oB _ _).trans (ih.append_right _)
theorem qX : ∀ (g : List (Nat × List Nat)) (p : HQ), (jf g p).length <= g.length + 1
 | [], p => by simp [jf]
 | e :: g, p => by
  unfold jf;split
  . simp
  . simp only [length_cons]; have := qX g p; omega
theorem vD (ps : HC) : (lQ ps).length <= ps.length := by
 refine dI (p := fun ps => (lQ ps).length <= ps.length) (by simp [lQ]) (fun ps p ih => ?_) ps;rw [kh, List.length_append];have := qX (lQ ps) p;simp;omega
theorem jW {g : List (Nat × List Nat)} {e : Nat × List Nat} (h : e ∈ g) : e.2.length <= (bJ g).length := by
 induction g with
 | nil => cases h
 | cons a g ih =>
  have b : bJ (a :: g) = (a.2.map fun x => (a.1, x)) ++ bJ g := by simp [bJ]
  rw [b, List.length_append, length_map];rcases mem_cons.mp h with rfl | h
  . omega
  . have := ih h; omega
def kJ (rows : HA) (ps : List Pt) (p : HQ) : Nat := kH (rows.getD p.1 []) (ps.drop (fw ps).length) (1 <<< (p.2 + (fw ps).length))
def uL (rows : HA) (m : List (HQ × Nat)) (ps : List Pt) : List (HQ × Nat) := cG m (bJ (lQ (fV rows (fw ps)))) (kJ rows ps)
def di (rows : HA) (q : List (List Pt)) : List (HQ × Nat) := q.foldl (uL rows) []
theorem kL (rows : HA) (q : List (List Pt)) (ps : List Pt) : di rows (q ++ [ps]) = uL rows (di rows q) ps := by simp [di]
theorem md {rows : HA} {ws : HL} {p : HQ} : p ∈ bJ (lQ (fV rows ws)) ↔ placeOk rows p /\ (endAt rows p).take ws.length = ws := (ko _).mem_iff.trans rR
theorem Ca {rows : HA} {m : List (HQ × Nat)} (h : d8 rows m) (ps : List Pt) : d8 rows (uL rows m ps) := h.add _ _ fun p hp => (md.mp hp).1
theorem zI {rows : HA} (m : List (HQ × Nat)) (ps : List Pt) {p : HQ} (hp : placeOk rows p) : cR (uL rows m ps) p = cR m p ||| kH (rows.getD p.1 []) ps (1 <<< p.2) := by
 unfold uL;rw [uq _ _ _ _ ((ko _).nodup_iff.mpr (ur _ _)), Ab _ _ _ hp.2];by_cases z : (endAt rows p).take (fw ps).length = fw ps
 . rw [if_pos (md.mpr ⟨hp, z⟩), if_pos (show ((rows.getD p.1 []).drop p.2).take (fw ps).length = fw ps from z)];rfl
 . rw [if_neg (fun h => z (md.mp h).2), if_neg (show ¬ ((rows.getD p.1 []).drop p.2).take (fw ps).length = fw ps from z), Nat.or_zero]
theorem vi (rows : HA) (q : List (List Pt)) : d8 rows (di rows q) := by
 refine dI (p := fun q => d8 rows (di rows q)) ⟨by simp [di], by simp [di]⟩ (fun q ps ih => ?_) q;rw [kL];exact Ca ih ps
theorem rB (rows : HA) (q : List (List Pt)) {p : HQ} (hp : placeOk rows p) : cR (di rows q) p = mQ (rows.getD p.1 []) q (1 <<< p.2) := by
 refine dI (p := fun q => cR (di rows q) p = mQ (rows.getD p.1 []) q (1 <<< p.2)) (by simp [di, cR, mQ]) (fun q ps ih => ?_) q;rw [kL, zI _ _ hp, ih, qy]
def ot (rows : HA) : List HQ := (List.range rows.length).flatMap fun r => (List.range ((rows.getD r []).length + 1)).map fun a => (r, a)
theorem jP {rows : HA} {p : HQ} : p ∈ ot rows ↔ placeOk rows p := by
 unfold ot placeOk;rw [List.mem_flatMap];constructor
 . rintro ⟨r, hr, hp⟩;obtain ⟨a, ha, rfl⟩ := mem_map.mp hp;exact ⟨List.mem_range.mp hr, Nat.le_of_lt_succ (List.mem_range.mp ha)⟩
 . rintro ⟨h1, h2⟩;exact ⟨p.1, List.mem_range.mpr h1, mem_map.mpr ⟨p.2, List.mem_range.mpr (by omega), rfl⟩⟩
theorem uQ (rows : HA) : (ot rows).Pairwise E8 := by
 unfold ot;rw [List.pairwise_flatMap];refine ⟨fun r _ => ?_, List.pairwise_lt_range.imp fun {a b} h p hp q hq => ?_⟩
 . rw [List.pairwise_map];exact List.pairwise_lt_range.imp fun {a b} h => .inr ⟨rfl, h⟩
 . obtain ⟨_, _, rfl⟩ := mem_map.mp hp;obtain ⟨_, _, rfl⟩ := mem_map.mp hq;exact .inl h
def cW (rows : HA) (m : List (HQ × Nat)) : List HQ := (ot rows).filter fun p => decide (p ∈ m.map (·.1))
theorem gJ {rows : HA} {m : List (HQ × Nat)} (h : d8 rows m) : (m.map (·.1)).Perm (cW rows m) := by
 refine (List.perm_ext_iff_of_nodup h.nd ?_).mpr fun p => ?_
 . refine (List.nodup_iff_pairwise_ne.mpr ((uQ rows).imp fun {a b} h z => ?_)).filter _;subst z;rcases h with h | ⟨_, h⟩ <;> exact absurd h (Nat.lt_irrefl _)
 . unfold cW;rw [mem_filter, decide_eq_true_eq, jP];exact ⟨fun z => ⟨h.ok p z, z⟩, fun z => z.2⟩
theorem wk {rows : HA} {m : List (HQ × Nat)} (h : d8 rows m) : qW id ((m.map (·.1)).map dJ) = (cW rows m).map dJ := by
 refine (qm pR (f := id) (fun d hd => ?_) (fun _ _ _ _ e => e) ((gJ h).symm.map dJ) ?_).symm
 . obtain ⟨p, _, rfl⟩ := mem_map.mp hd;exact ⟨p, rfl⟩
 . rw [List.pairwise_map];refine ((uQ rows).sublist List.filter_sublist).imp fun {a b} h => ?_;have := yt h
   cases q : bD .lt (dJ b) (dJ a) with
   | false => exact q
   | true =>
    have z := pR.tr _ _ _ ⟨a, rfl⟩ ⟨b, rfl⟩ ⟨a, rfl⟩ this q;rw [pR.ir _ ⟨a, rfl⟩] at z; cases z
def dh (rows : HA) (q : List (List Pt)) (ps : HC) : List (Nat × Nat × Nat) := ps.flatMap fun p => (dH (mQ (rows.getD p.1 []) q (1 <<< p.2))).map fun t => (p.1, p.2, t)
theorem qH : ∀ {m : List (HQ × Nat)} {p : HQ}, p ∉ m.map (·.1) -> cR m p = 0
 | [], _, _ => rfl
 | a :: m, p, h => by
  simp only [map_cons, mem_cons, not_or] at h;unfold cR;rw [if_neg (Ne.symm h.1)];exact qH h.2
theorem v9 (rows : HA) (q : List (List Pt)) : dh rows q (cW rows (di rows q)) = jd rows q rows.length := by
 have e : dh rows q (cW rows (di rows q)) = dh rows q (ot rows) := by
  have key : ∀ l : List HQ, (∀ p ∈ l, placeOk rows p) -> dh rows q (l.filter fun p => decide (p ∈ (di rows q).map (·.1))) = dh rows q l := fun l hl => by
   induction l with
   | nil => rfl
   | cons p l ih =>
    have ih := ih fun x hx => hl x (mem_cons_of_mem _ hx);have c : ∀ l, dh rows q (p :: l) = ((dH (mQ (rows.getD p.1 []) q (1 <<< p.2))).map fun t => (p.1, p.2, t)) ++ dh rows q l := fun l => by simp [dh]
    by_cases z : p ∈ (di rows q).map (·.1)
    . rw [List.filter_cons_of_pos (by simpa using z), c, c, ih]
    . rw [List.filter_cons_of_neg (by simpa using z), c, ih, <- rB rows q (hl p (by simp)), qH z];rfl
  exact key _ fun p hp => jP.mp hp
 rw [e];unfold dh ot jd jD ig;rw [List.flatMap_assoc];congr 1;funext r;rw [List.flatMap_map, List.map_flatMap];congr 1;funext a;rw [map_map];rfl
end Y
namespace Y
open PySem PySem.Spec PyProof.Rows L2
end Y
namespace Y
open PySem PySem.Spec PyProof.Rows L2
variable [cq]
section
variable {X : Cx} {ρ : List (Option D)} {m m1 m2 : Bool} {a b o e : Expr} {d dk : D} {pos : Pos} {s : Sh} {ds : List D}
theorem nj {κ : Type} [DecidableEq κ] : ∀ (ks : List κ) (xs : List V) (k : κ), ks.length = xs.length -> cQ (ks.zip xs) k = (ks.findIdx? (· = k)).bind fun j => xs[j]?
 | [], [], _, _ => rfl
 | [], _ :: _, _, h => by cases h
 | _ :: _, [], _, h => by cases h
 | a :: ks, x :: xs, k, h => by
  have ih := nj ks xs k (by simpa using h);rw [List.zip_cons_cons, List.findIdx?_cons];by_cases q : a = k
  . simp [cQ, q]
  . have : cQ ((a, x) :: ks.zip xs) k = cQ (ks.zip xs) k := by simp [cQ, q]
    rw [this, ih];simp only [decide_eq_true_eq, q, if_false]
    cases ks.findIdx? (· = k) with
    | none => simp
    | some j => simp
end
theorem gF.Bq {o : Option V} {v : Value} (r : gF o (some v)) : ∃ w, o = some w /\ RelV w v := by
 cases o with
 | none => exact r.elim
 | some w => exact ⟨w, rfl, r⟩
theorem gF.xM {o : Option V} (r : gF o none) : o = none := by
 cases o with
 | none => rfl
 | some w => exact r.elim
section
variable {X : Cx} {td ty tx : TE} {o e f : Expr} {apos cpos : Pos}
def BO (td ty tx : TE) : TE := fun σ H Q => td σ H fun x H1 => ∃ a, x = .ref a /\ (∃ kvs, H1 a = some (.dK kvs)) /\ ty σ H1 fun y H2 => tx σ H2 fun z H3 => ∃ kvs k, H3 a = some (.dK kvs) /\ y = kV k /\ kvs.length < sizeLine /\ (∀ v, cQ kvs k = some v -> Q v H3) /\ (cQ kvs k = none -> Q z (upd H3 a (.dK (kvs ++ [(k, z)]))))
theorem wx (ho : PE X o td) (he : PE X e ty) (hf : PE X f tx) (m : M2 X o "setdefault" apos e f cpos) : PE X (.Call (.Attribute o "setdefault" apos) [e, f] [] cpos) (BO td ty tx) := by
 intro pins s σ H Q I h;refine wpAny_Call_method m.base m.few m.line PySem.F.plainAttrs_dict PySem.F.slot_dict_setdefault PySem.F.type_dict_setdefault (cy (ho pins s σ H _ I h) fun u s1 ⟨x, H1, I1, rx, a, ex, ⟨kvs0, d⟩, q1⟩ => ?_);subst ex;obtain rfl : u = Value.ref a := rx;obtain ⟨_, _, vs0, _, dd0⟩ := sT I1.hok d;refine ⟨dd0.typeIs, dd0.mapOf.noDict, ?_⟩;rw [m.trees];refine Calls.callWith_builtin rfl (Calls.evalArgs_plain (Calls.spliced_cons (cy (he pins s1 σ H1 _ I1 q1) fun iv s2 ⟨y, H2, I2, ry, q2⟩ =>
  Calls.spliced_cons (cy (hf pins s2 σ H2 _ I2 q2) fun fv s3 ⟨z, H3, I3, rz, kvs, k, ea, ey, hz, g1, g2⟩ => Calls.spliced_nil ?_))))
 subst ey;obtain ⟨z1, hd, vs, rel, dd⟩ := sT I3.hok ea;refine call_meetsIn PySem.F.slot_dict_setdefault dd.typeIs PySem.F.entry_dict_setdefault (PySem.F.args_dict_setdefault_3 _ _ _) (kt_meets_setdefault (bt X.prog X.w) a (rF ry) hd fv) ⟨vs, dd, by rw [<- rel.length]; exact z1, fun v hv => ?_, fun hn h' dd' hs => ?_⟩
 . obtain ⟨w, hw, rw'⟩ := Y.gF.Bq (o := cQ kvs k) (by have := rel.val k; rw [hv] at this; exact this);exact ⟨w, H3, I3.tok _, rw', g1 w hw⟩
 . have e0 : cQ kvs k = none := Y.gF.xM (by have := rel.val k; rw [hn] at this; exact this);have he : ∃ q, h'.get? a = some q := let ⟨q, _, _, hq, _⟩ := dd'; ⟨q, hq⟩;refine ⟨z, _, ?_, rz, g2 e0⟩;rw [<- zm z e0];exact qF I3 (by rw [ea]; exact True.intro) hs he (Ai (by have := ip kvs k z; omega) hd (rel.put k rz) dd')
end
section
variable {K : Frag} {H : Hp} {Z : aE}
theorem aU.get {dss : List (List D)} {as : List Addr} {j : Nat} {a : Addr} (h : aU K H Z dss as) (e : as[j]? = some a) : ∃ xs ds, dss[j]? = some ds /\ H a = some (.lst xs) /\ aH K H Z ds xs := by
 induction h generalizing j with
 | nil => simp at e
 | @cons p q ps qs r t ih =>
  cases j with
  | zero =>
   cases e;obtain ⟨xs, e1, e2⟩ := r;exact ⟨xs, p, rfl, e1, e2⟩
  | succ j => simpa using ih (by simpa using e)
theorem aU.upd {dss : List (List D)} {as : List Addr} {j : Nat} {a : Addr} {ys : List V} {es : List D} (h : aU K H Z dss as) (nd : as.Nodup) (e : as[j]? = some a) (c : Carry K H Z (upd H a (.lst ys)) Z) (i : aH K (upd H a (.lst ys)) Z es ys) : aU K (upd H a (.lst ys)) Z (dss.set j es) as := by
 induction h generalizing j with
 | nil => simp at e
 | @cons p q ps qs r t ih =>
  obtain ⟨n1, n2⟩ := nodup_cons.mp nd
  cases j with
  | zero =>
   cases e;exact .cons ⟨ys, ak, i⟩ (aU.carry t (fun b xs hb e => by rw [ae (fun z => n1 (by rw [<- z]; exact hb))]; exact e) c)
  | succ j =>
   have e' : qs[j]? = some a := by simpa using e
   obtain ⟨xs, e1, e2⟩ := r;refine .cons ⟨xs, ?_, e2.carry c⟩ (ih n2 e');rw [ae (fun z => n1 (by rw [z]; exact mem_of_getElem? e'))];exact e1
theorem bZ.carry {H' : Hp} {Z' : aE} {σ : St} {ρ : List (Option D)} (c : Carry K H Z H' Z') (h : bZ K H Z σ ρ) : bZ K H' Z' σ ρ := fun i d e => let ⟨v, a, b⟩ := h i d e; ⟨v, a, b.carry c⟩
end
def sE (fr : Bool) (ks : List Key) (dss : List (List D)) : SP where
 p K F H O mine v := ∃ l as, mine = l :: as /\ v = .ref l /\ ks.length = as.length /\ H l = some (.dK (ks.zip (as.map V.ref))) /\ aU K H (zn F O fr) dss as
 vw ow f := if ow && (!f || fr) then some (.agg (.k ks) (dss.map .lst)) else none
 carry {K F H H' O O' mine v} h k c := by
  obtain ⟨l, as, rfl, e, hl, hs, i⟩ := h;exact ⟨l, as, rfl, e, hl, k l (.d (.k _)) (by simp) hs, i.carry (fun a xs ha q => k a (.l xs) (by simp [ha]) q) (c fr)⟩
 env {K F H O mine v ow fr' d'} op inS h e := by
  by_cases q : (ow && (!fr' || fr)) = true
  . rw [if_pos q] at e;cases e;obtain ⟨l, as, rfl, rfl, hl, hs, i⟩ := h;simp at q;refine qt.mpr ⟨l, as.map V.ref, rfl, ⟨by rw [length_map]; exact hl, hs⟩, inS q.1 l (by simp), (kj i (vW op fun hf => ?_) fun a ha => inS q.1 a (by simp [ha])).top⟩;subst hf;simpa using q.2
  . rw [if_neg q] at e; cases e
def oy (ks : List Key) (k : Key) : List Key := match ks.findIdx? (· = k) with
 | some _ => ks
 | none => ks ++ [k]
def qZ (ks : List Key) (dss : List (List D)) (k : Key) (d : D) : List (List D) := match ks.findIdx? (· = k) with
 | some j => dss.set j (dss.getD j [] ++ [d])
 | none => dss ++ [[d]]
section
variable {X : Cx} {F : Fn} {ρ : b0} {Q : iu} {rest : List Stmt} {e g : Expr} {pos p p2 : Pos} {m1 m2 : Bool}
theorem bz.GW {K : Frag} {H : Hp} {σ hv : St} {hρ : b0} {A : Nat -> List Addr} {i : Nat} {fr : Bool} {ks : List Key} {dss : List (List D)} (S : bz K F H (σ ++ hv) (ρ ++ hρ) A) (hl : σ.length = ρ.length) (h : ρ[i]? = some (some (.gen (sE fr ks dss)))) :
 ∃ l as, σ[i]? = some (some (.ref l)) /\ A i = l :: as /\ ks.length = as.length /\ H l = some (.dK (ks.zip (as.map V.ref))) /\ aU K H (zn F (aG A) fr) dss as := by
 have hi : i < ρ.length := (List.getElem?_eq_some_iff.mp h).1;obtain ⟨v, a, l, as, e1, rfl, e2, e3, e4⟩ := S.at' i _ (by rw [getElem?_append_left hi]; exact h);rw [getElem?_append_left (by omega)] at a;exact ⟨l, as, a, e1, e2, e3, e4⟩
theorem p7 (i : Nat) {x : Str} {ap cp ap2 cp2 : Pos} {ks : List Key} {dss : List (List D)} (fr : Bool) {k : Key} {d : D} (h : ρ[i]? = some (some (.gen (sE fr ks dss))) := by rfl) (he : E X m1 (view true false ρ) e (kD k)) (hg : E X m2 (view false fr ρ) g d) (fl : d.flat = true) (hz : ks.length < 1000) (hz2 : ∀ ds ∈ dss, ds.length < 1000)
    (hr : SD X F rest (ρ.set i (some (.gen (sE fr (oy ks k) (qZ ks dss k d))))) Q)
    (hN : X.N[i]? = some x := by rfl) (hv : sx X.env.scope x := by first | exact Or.inl rfl | exact Or.inr (Or.inl rfl) | exact Or.inr (Or.inr rfl)) (hd : NdX x := by decide) (hcd : NcX x := by decide)
    (M : M2 X (.Name x p) "setdefault" ap2 e (.List [] p2) cp2 := by exact ⟨rfl, rfl, rfl, rfl⟩)
    (hbase : attributeBase (.Call (.Attribute (.Name x p) "setdefault" ap2) [e, .List [] p2] [] cp2) "append" X.env (eval (.Call (.Attribute (.Name x p) "setdefault" ap2) [e, .List [] p2] [] cp2) X.env) = eval (.Call (.Attribute (.Name x p) "setdefault" ap2) [e, .List [] p2] [] cp2) X.env := by rfl) (hline : (ap.endLine == cp.line) = true := by rfl)
    (hs : starEach [g] X.env = [(false, eval g X.env)] := by rfl) (hsw : swapsWith (.Call (.Attribute (.Call (.Attribute (.Name x p) "setdefault" ap2) [e, .List [] p2] [] cp2) "append" ap) [g] [] cp) none pos.line X.env = pure false := by rfl) :
    SD X F (.Expr (.Call (.Attribute (.Call (.Attribute (.Name x p) "setdefault" ap2) [e, .List [] p2] [] cp2) "append" ap) [g] [] cp) pos :: rest) ρ Q := by
  refine bB (PS.mono (dX (gY PySem.F.plainAttrs_list PySem.F.slot_list_append PySem.F.type_list_append cz (wx (dg hN hv hd hcd) he (cN (ρ := view true false ρ) (pos := p2) bV) M) (aK hg bu (by rw [hs]; rfl)) hbase (by rw [hs]; rfl) hline (by rw [hs]; rfl) rfl) hsw) ?_) hr;rintro Q' σ H ⟨hv, hρ, A, hl, S, f⟩;obtain ⟨l, as, e1, e2, e3, e4, e5⟩ := S.GW hl h;have hi : i < σ.length := (List.getElem?_eq_some_iff.mp e1).1;have hnd := S.nd i;rw [e2] at hnd;obtain ⟨nl, nas⟩ := nodup_cons.mp hnd;have hrl : dss.length = as.length := e5.length;refine ⟨.ref l, e1, l, rfl, ⟨_, e4⟩, _, aF S true false, S.env hl true false, fun y H1 s1 i1 => ⟨_, (aF S true false).same s1, (S.env hl true false).same s1, fun z H2 s2 i2 => ?_⟩⟩;have s12 := s1.trans s2;obtain ⟨zl, zs, rfl, zat, zi⟩ := av.mp i2;cases aC.mp zi;obtain ⟨z1, z2⟩ : H2 zl = some (.lst []) /\ H1 zl = none := by
    rcases zat with q | ⟨q, _⟩
    . exact q
    . cases q
  have zH : H zl = none := s1.free z2;refine ⟨_, k, s12.at e4, vG i1, ?_, fun v hv => ?_, fun hn => ?_⟩
  . rw [List.length_zip, length_map];exact Nat.lt_of_le_of_lt (Nat.min_le_left _ _) (aW (by omega))
  . rw [nj ks (as.map V.ref) k (by rw [length_map]; exact e3)] at hv
    cases q : ks.findIdx? (· = k) with
    | none => rw [q] at hv; cases hv
    | some j =>
      rw [q] at hv;have hv : (as.map V.ref)[j]? = some v := hv;rw [getElem?_map] at hv;obtain ⟨hj, hjk, _⟩ := List.findIdx?_eq_some_iff_getElem.mp q;have hjk : ks[j] = k := by simpa using hjk
      cases ha : as[j]? with
      | none => rw [ha] at hv; cases hv
      | some a =>
        rw [ha] at hv;cases hv;obtain ⟨xs, ds, g1, g2, g3⟩ := e5.get ha;have ham : a ∈ as := mem_of_getElem? ha;refine ⟨.inl ⟨rfl, xs, dZ.of (s12.at g2)⟩, _, (aF S false fr).same s12, (S.env hl false fr).same s12, fun w H3 s3 i3 => ?_⟩;have s13 := s12.trans s3;have i3 : In X.K H3 (zn F (aG A) fr) d w := i3.plain ((aF S false fr).same s12);have hdl : ds.length < 1000 := hz2 ds (mem_of_getElem? g1);refine ⟨a, xs, w, rfl, rfl, s13.at g2, by rw [<- g3.length]; exact aW (by omega), f.nx _ _ ⟨_, bP A i (l :: as), by simp [hl], ?_, rfl⟩⟩;have S3 := S.grow s13;have hal : a ≠ l := fun z => nl (z ▸ ham);have own : aG A a := ⟨i, by rw [e2]; simp [ham]⟩
        have nz : ¬ (zn F (aG A) fr).S a := by unfold zn; cases fr <;> exact fun z => z.2 own
        have key := S3.re (i := i) (v := .ref l) (sl := .gen (sE fr (oy ks k) (qZ ks dss k d))) (l := l :: as) (H2 := upd H3 a (.lst (xs ++ [w]))) (by rw [List.length_append]; omega) (by rw [List.length_append]; omega) (S3.same.write (S.new i a (by rw [e2]; simp [ham])) (s13.at g2)) (fun b u e _ hb => ?_) hnd (fun b hb => ⟨.inl (by rw [e2]; exact hb), ?_⟩) ⟨l, as, rfl, rfl, ?_, ?_, ?_⟩
        . rw [cn (by rw [getElem?_append_left hi]; exact e1), aX (by omega)] at key;exact key
        . rw [e2] at hb;rw [ae (fun z => hb (by rw [z]; simp [ham]))]; exact e
        . by_cases hba : b = a
          . exact ⟨.l (xs ++ [w]), by rw [hba]; exact ak⟩
          . obtain ⟨o, eo⟩ := S3.lst i b (by rw [e2]; exact hb);exact ⟨o, by rw [ae hba]; exact eo⟩
        . unfold oy;rw [q];exact e3
        . unfold oy;rw [q, ae (Ne.symm hal)];exact s13.at e4
        . have eqA : bP A i (l :: as) = A := by
            funext n;by_cases q : n = i
            . rw [q, aY, e2]
            . rw [bM q]
          rw [eqA];unfold qZ;rw [q];show aU X.K _ _ (dss.set j (dss.getD j [] ++ [d])) as;rw [List.getD_eq_getElem?_getD, g1];have c : Carry X.K H3 (zn F (aG A) fr) (upd H3 a (.lst (xs ++ [w]))) (zn F (aG A) fr) := Carry.ju (xs := .l xs) (s13.at g2) nz;exact (e5.carry (fun b ys _ q => s13.at q) (.same s13)).upd nas ha c (((g3.same s13).append (aH.one i3)).carry c)
  . rw [nj ks (as.map V.ref) k (by rw [length_map]; exact e3)] at hn;have q : ks.findIdx? (· = k) = none := by
      cases q : ks.findIdx? (· = k) with
      | none => rfl
      | some j =>
        obtain ⟨hj, _⟩ := List.findIdx?_eq_some_iff_getElem.mp q;rw [q] at hn;have hn : (as.map V.ref)[j]? = none := hn;rw [List.getElem?_eq_none_iff, length_map] at hn;omega
    have hkn : k ∉ ks := fun z => by
      have := List.findIdx?_eq_none_iff.mp q k z;simp at this
    have hzl : zl ≠ l := fun z => by rw [z, e4] at zH; cases zH
    have ownl : aG A l := ⟨i, by rw [e2]; simp⟩
    have nzl : ¬ (zn F (aG A) fr).S l := by unfold zn; cases fr <;> exact fun z => z.2 ownl
    have e42 := s12.at e4;have c4 : Carry X.K H2 (zn F (aG A) fr) (upd H2 l (.dK (ks.zip (as.map V.ref) ++ [(k, .ref zl)]))) (zn F (aG A) fr) := Carry.ju (xs := .d (.k _)) e42 nzl;have oz4 : (zn F (aG A) fr).Open (upd H2 l (.dK (ks.zip (as.map V.ref) ++ [(k, .ref zl)]))) := by
      have o := d5 (S.grow s12) fr;refine ⟨fun a ha => o.op a ?_, o.tb.upd (.inr ⟨.d (.k _), e42⟩)⟩;by_cases z : a = l
      . rw [z, ak] at ha; cases ha
      . rw [ae z] at ha; exact ha
    have en4 : bZ X.K (upd H2 l (.dK (ks.zip (as.map V.ref) ++ [(k, .ref zl)]))) (zn F (aG A) fr) σ (view false fr ρ) := bZ.carry c4 ((S.grow s12).env hl false fr);have zl4 : (upd H2 l (.dK (ks.zip (as.map V.ref) ++ [(k, .ref zl)]))) zl = some (.lst []) := by rw [ae hzl]; exact z1
    refine ⟨.inl ⟨rfl, [], dZ.of zl4⟩, _, oz4, en4, fun w H5 s5 i5 => ?_⟩;have i5 : In X.K H5 (zn F (aG A) fr) d w := i5.plain oz4;refine ⟨zl, [], w, rfl, rfl, s5.at zl4, aW (by decide), f.nx _ _ ⟨_, bP A i (l :: (as ++ [zl])), by simp [hl], ?_, rfl⟩⟩;have zas : zl ∉ as := fun z => by
      obtain ⟨o, eo⟩ := S.lst i zl (by rw [e2]; simp [z]);rw [zH] at eo; cases eo
    have nd2 : (l :: (as ++ [zl])).Nodup := by
      refine nodup_cons.mpr ⟨fun z => ?_, List.nodup_append.mpr ⟨nas, by simp, fun a ha b hb z => ?_⟩⟩
      . rcases mem_append.mp z with z | z
        . exact nl z
        . have q0 : l = zl := by simpa using z
          exact hzl q0.symm
      . have : b = zl := by simpa using hb
        exact zas (this ▸ z ▸ ha)
    have sF : au F.H H5 := (((S.grow s12).same).ju (xs := .d (.k _)) (S.new i l (by rw [e2]; simp)) e42).trans s5;have zF : F.H zl = none := S.same.free zH;have keep : ∀ b u, H b = some u -> xI u = false -> b ≠ l -> H5 b = some u := fun b u e n hb => s5.get b u (by rw [ae hb]; exact s12.get b u e n) n;have hzb : ∀ {b : Addr} {u : HO}, H b = some u -> b ≠ zl := fun {b u} e z => by rw [z, zH] at e; cases e
    have own2 : ∀ a, H a ≠ none -> ¬ aG A a -> ¬ aG (bP A i (l :: (as ++ [zl]))) a := fun a hn n ⟨j, hj⟩ => by
      by_cases q : j = i
      . rw [q, aY] at hj;rcases mem_cons.mp hj with z | z
        . exact n ⟨i, by rw [e2, z]; simp⟩
        . rcases mem_append.mp z with z | z
          . exact n ⟨i, by rw [e2]; simp [z]⟩
          . have : a = zl := by simpa using z
            exact hn (this ▸ zH)
      . rw [bM q] at hj;exact n ⟨j, hj⟩
    have key := S.re (i := i) (v := .ref l) (sl := .gen (sE fr (oy ks k) (qZ ks dss k d))) (l := l :: (as ++ [zl])) (H2 := upd H5 zl (.lst ([] ++ [w]))) (by rw [List.length_append]; omega) (by rw [List.length_append]; omega) (sF.write zF (s5.at zl4)) (fun b u e n hb => ?_) nd2 (fun b hb => ⟨?_, ?_⟩) ⟨l, as ++ [zl], rfl, rfl, ?_, ?_, ?_⟩
    . rw [cn (by rw [getElem?_append_left hi]; exact e1), aX (by omega)] at key;exact key
    . rw [e2] at hb;rw [ae (hzb e)];exact keep b u e n fun z => hb (by rw [z]; simp)
    . rcases mem_cons.mp hb with z | z
      . exact .inl (by rw [e2, z]; simp)
      . rcases mem_append.mp z with z | z
        . exact .inl (by rw [e2]; simp [z])
        . exact .inr (by have : b = zl := by simpa using z
                         rw [this]; exact zH)
    . rcases mem_cons.mp hb with z | z
      . exact ⟨.d (.k (ks.zip (as.map V.ref) ++ [(k, .ref zl)])), by rw [z, ae (Ne.symm hzl)]; exact s5.at ak⟩
      . rcases mem_append.mp z with z | z
        . obtain ⟨j, hj⟩ := List.getElem?_of_mem z;obtain ⟨xs, ds, _, g2, _⟩ := e5.get hj;exact ⟨.l xs, by rw [ae (hzb g2)]; exact keep b _ g2 rfl fun q => nl (q ▸ z)⟩
        . have : b = zl := by simpa using z
          exact ⟨.l ([] ++ [w]), by rw [this]; exact ak⟩
    . unfold oy;rw [q];show (ks ++ [k]).length = _;rw [List.length_append, List.length_append, e3];rfl
    . unfold oy;rw [q];show _ = some (HO.dK ((ks ++ [k]).zip _));rw [map_append, List.zip_append (by rw [length_map]; exact e3), ae (Ne.symm hzl)];exact s5.at ak
    . unfold qZ;rw [q];have ck : Carry X.K H (zn F (aG A) fr) (upd H5 zl (.lst ([] ++ [w]))) (zn F (aG (bP A i (l :: (as ++ [zl])))) fr) := by
        refine ⟨fun a o e z => ?_, fun m => ⟨?_, fun a xs e => ?_⟩, fun a xs e => ?_⟩
        . have hn : H a ≠ none := by rw [e]; simp
          have hal : a ≠ l := fun q => nzl (q ▸ z);refine ⟨by rw [ae (hzb e)]; exact keep a _ e o.nt hal, ?_⟩;unfold zn at z ⊢;cases fr
          . exact ⟨z.1, own2 a hn z.2⟩
          . exact ⟨z.1, own2 a hn z.2⟩
        . unfold zn at m ⊢;cases fr
          . exact m
          . exact m
        . rcases e with ⟨o, e⟩ | e
          . exact .inl ⟨o, by rw [ae (hzb e)]; exact keep a _ e rfl fun q => by rw [q, e4] at e; cases e⟩
          . exact .inr e
        . rw [ae (hzb e)];exact keep a _ e rfl fun q => by rw [q, e4] at e; cases e
      have c5 : In X.K (upd H5 zl (.lst ([] ++ [w]))) (zn F (aG (bP A i (l :: (as ++ [zl])))) fr) d w := by
        refine i5.flat (fun a xs e => ?_) fl;rw [ae (fun z => by rw [z, s5.at zl4] at e; cases e)];exact e
      refine aU.snoc (e5.carry (fun b ys hb q => ?_) ck) ak (aH.one c5);rw [ae (hzb q)];exact keep b _ q rfl fun z => nl (z ▸ hb)
end
def i6 (H : Hp) (dx : Addr) : Hp := fun b => if b = dx then none else H b
theorem eL {H : Hp} {dx b : Addr} (h : b ≠ dx) : i6 H dx b = H b := if_neg h
theorem vj {H : Hp} {dx : Addr} : i6 H dx dx = none := if_pos rfl
theorem fO {H : Hp} {dx b : Addr} (h : H b = none) : i6 H dx b = none := by
 unfold i6;split
 . rfl
 . exact h
theorem xE {H : Hp} {dx b : Addr} {o : HO} (h : i6 H dx b = some o) : H b = some o /\ b ≠ dx := by
 by_cases z : b = dx
 . rw [z, vj] at h; cases h
 . rw [eL z] at h; exact ⟨h, z⟩
theorem Inv.i6 {X : Cx} {pins : HI} {σ : St} {H : Hp} {s : Shared} {dx : Addr} {kvs : List (Key × V)} (I : Inv X pins σ H s) (hd : H dx = some (.dK kvs)) : Inv X pins σ (i6 H dx) s := by
 have keep : ∀ {b : Addr} {o : HO}, H b = some o -> (∀ kvs, o ≠ .dK kvs) -> Y.i6 H dx b = some o := fun {b o} e n => by
  rw [eL fun z => by rw [z, hd] at e; exact n kvs (Option.some.inj e).symm];exact e
 refine ⟨I.ok, I.os, I.bare, ⟨I.base.keep, I.base.slot, fun b o e n x => fO (I.base.free b o e n x), I.base.there, fun b xs e => keep (I.base.tups b xs e) (by intro _ z; cases z), fun b o u e => keep (I.base.frzs b o u e) (by intro _ z; cases z), fun b ps e => let ⟨more, q⟩ := I.base.tbls b ps e; ⟨more, keep q (by intro _ z; cases z)⟩⟩, I.loc, I.cell, fO I.free, fun x c e => fO (I.freeC x c e), fun p hp => ?_, fun b o e => ?_, I.len⟩
 . obtain ⟨h1, h2, h3⟩ := I.pin p hp;exact ⟨h1, fO h2, h3⟩
 . exact (I.hok b o (xE e).1).mq (fun _ _ _ q => q) (fun c q => keep q (by intro _ z; cases z)) fun c xs q => keep q (by intro _ z; cases z)
theorem xn {H0 H : Hp} {dx : Addr} {kvs : List (Key × V)} (s : au H0 H) (hn : H0 dx = none) (hd : H dx = some (.dK kvs)) : au H0 (i6 H dx) := by
 have no : ∀ {b : Addr} {o : HO}, H0 b = some o -> b ≠ dx := fun {b o} q z => by rw [z, hn] at q; cases q
 refine ⟨fun b o e n => by rw [eL (no e)]; exact s.get b o e n, fun b ps e => by rw [eL (no e)]; exact s.tbl b ps e, fun t P hP => ?_⟩;obtain ⟨ps, e, tr, k⟩ := s.tabs t P hP;have ne : ∀ {b : Addr} {o : HO}, H b = some o -> (∀ kvs, o ≠ .dK kvs) -> b ≠ dx := fun {b o} e n z => by rw [z, hd] at e; exact n kvs (Option.some.inj e).symm
 refine ⟨ps, by rw [eL (ne e (by intro _ z; cases z))]; exact e, tr, fun pos cv q => ?_⟩;obtain ⟨c, rfl, hc⟩ := k pos cv q;exact ⟨c, rfl, by rw [eL (ne hc (by intro _ z; cases z))]; exact hc⟩
def Itm (kvs : List (Key × V)) : It := ⟨fun i _ => i < kvs.length, fun i H x H' => ∃ p kv, kvs[i]? = some kv /\ H p = none /\ x = .ref p /\ H' = upd H p (.tup [kV kv.1, kv.2]), fun i _ => kvs.length <= i⟩
theorem uz {P : Program} {w : World} {K : Frag} {es : List Expr} {kt : Nat} {pt : Pos} (it d : Addr) {kvs : List (Key × V)} {vs : List (Key × Value)} {ep : Nat} (ne : d ≠ it) (kv : KV kvs vs) :
 Turn P w K (.Tuple es kt pt) (Itm kvs) [it, d] it (fun i h => (∃ ok ov, IsItemIter h it d i vs.length ep ok ov) /\ h.DictAt (bt P w) d vs ep) where
 mem := by simp
 obj := fun i h st c hc => by
  obtain ⟨⟨ok, ov, hit⟩, o, es', h1, _, h3, _⟩ := st;simp only [mem_cons, not_mem_nil, or_false] at hc;rcases hc with rfl | rfl
  . exact ⟨_, hit, fun v q => by
     have q' : Data.fields _ = Data.cell v := q;cases q'⟩
  . exact ⟨o, h1, fun v q => by rw [h3] at q; cases q⟩
 keep := fun i h h' st k => by
  obtain ⟨⟨ok, ov, hit⟩, o, es', h1, h2⟩ := st;exact ⟨⟨ok, ov, k it (by simp) _ hit⟩, o, es', k d (by simp) _ h1, h2⟩
 item := by
  intro X hP hw hK hc i pins s σ H E I hf st hg;subst hP hw hK;obtain ⟨⟨ok, ov, hit⟩, hm⟩ := st;have hi : i < kvs.length := hg;have hl := kv.length;obtain ⟨q2, g2, r1, r2⟩ := t7 kv (i := i) (x := kvs[i]) (by simp [hi]);refine wpAny_pyNext_items_item (k := q2.1) (v := q2.2) hit hm g2 fun key h' hk hout htup hsz hkeep => ?_;refine ⟨_, rfl, wpAny_letOwnedTupleGo_items (s := { s with heap := h' }) hout fun h2 hit2 sb => ?_⟩;have hlt : it < s.heap.objs.size := lt_size hit;have kk : ∀ c o, c ∉ [it, d] -> s.heap.get? c = some o -> h2.get? c = some o := fun c o hc q => by
   simp only [mem_cons, not_mem_nil, or_false, not_or] at hc;exact (sb.2 c hc.1).trans (hkeep c o hc.1 q)
  have I2 : Inv X pins σ H { s with heap := h2, toks := s.toks } := iE I kk hf;have fresh := I.hok.fresh (Nat.le_refl s.heap.objs.size);have tup : h2.get? s.heap.objs.size = some { cls := .type "tuple", data := .seq #[key, q2.2] } := (sb.2 _ (Nat.ne_of_gt hlt)).trans htup;have rk : RelV (kV kvs[i].1) key := by
   have := x4 hk;rw [<- r1] at this;exact this
  have I3 := yB (o := .tup [kV kvs[i].1, kvs[i].2]) I2 (I.ou (Nat.le_refl _) fresh) (Nat.le_trans I.sz (Nat.le_refl _)) ⟨by show 2 <= sizeLine; exact Nat.le_of_lt (aW (by decide)), [key, q2.2], .cons rk (.cons r2 .nil), ⟨_, tup, rfl, _, rfl⟩⟩;refine ⟨.ref s.heap.objs.size, _, I3, rfl, ⟨s.heap.objs.size, kvs[i], by simp [hi], fresh, rfl, rfl⟩, ⟨⟨_, _, hit2⟩, ?_⟩, fun c hc => ?_⟩
  . obtain ⟨o, es', h1, h3⟩ := hm;exact ⟨o, es', (sb.2 d ne).trans (hkeep d o ne h1), h3⟩
  . have hcn := (hf c hc).1;have hc' : c ≠ s.heap.objs.size := by
     simp only [mem_cons, not_mem_nil, or_false] at hc;rcases hc with rfl | rfl
     . exact Nat.ne_of_lt hlt
     . obtain ⟨o, es', h1, _⟩ := hm;exact Nat.ne_of_lt (lt_size h1)
    rw [ae hc'];exact hcn
 done := by
  intro X hP hw hK hc i pins s σ H E I hf st hg;subst hP hw hK;obtain ⟨⟨ok, ov, hit⟩, hm⟩ := st;have hi : kvs.length <= i := hg;have hl := kv.length;refine wpAny_pyNext_items_end (I.ok.hd hc) hit hm (by simp; omega) fun h' hx => ⟨rfl, ?_⟩
  refine iE (t' := s.toks) I (fun b o hb e => hx b o (fun z => hb (by simp [z])) e) hf
 self := by
  intro A i s Q E st q;obtain ⟨⟨ok, ov, hit⟩, _⟩ := st;exact PySem.W.kcp_self hit q
section
variable {X : Cx} {td : TE} {o : Expr} {ap cp pt : Pos} {es : List Expr} {kt : Nat}
def Gr (X : Cx) (td : TE) : TI := fun σ H R => td σ H fun x H1 => ∃ d kvs, x = .ref d /\ H1 d = some (.dK kvs) /\ X.H₀ d = none /\ R (Itm kvs) (i6 H1 d)
theorem yv (ho : PE X o td) (hex : X.ex = []) (hbase : attributeBase o "items" X.env (eval o X.env) = eval o X.env) (hline : (ap.endLine == cp.line) = true) : PI X (.Tuple es kt pt) (.Call (.Attribute o "items" ap) [] [] cp) (Gr X td) := by
 intro pins s σ H R I h;refine wpAny_Call_method (T := "dict") (id := "dict.items") hbase rfl hline PySem.F.plainAttrs_dict PySem.F.slot_dict_items PySem.F.type_dict_items (cy (ho pins s σ H _ I h) fun u s1 ⟨x, H1, I1, rx, d, kvs, ex, hd, h0, q⟩ => ?_);subst ex;obtain rfl : u = .ref d := rx;obtain ⟨z, nS, vs, kv, dd⟩ := sT I1.hok hd;refine ⟨dd.typeIs, dd.mapOf.noDict, ?_⟩;show wpAny _ _ (callWith cp (.builtin "dict.items") [.ref d] [] []) _ _ s1;refine method_meetsIn PySem.F.slot_dict_items PySem.F.entry_dict_items rfl (PySem.evalArgs_none ⟨rfl, dd.typeIs, PySem.F.args_dict_items_1 _, _, meets_dict_items (bt X.prog X.w) d nS, ⟨vs, dd⟩, ?_⟩);obtain ⟨ep, od, es', a1, a2⟩ := dd.dictAt;have hlt : d < s1.heap.objs.size := lt_size a1;refine wpAny_pyIter_items (v := s1.heap.objs.size) (d := d) (knd := bt X.prog X.w) (kvs := vs) (ep := ep) ⟨_, get?_push_size _ rfl, rfl, rfl⟩ ⟨od, es', get?_push_of_some _ a1, a2⟩ ?_;have big : X.s₀.heap.get? d = none := by
  cases e0 : X.s₀.heap.get? d with
  | none => rfl
  | some ob =>
   have := I1.base.free d ob e0 h0 (by rw [hex]; simp);rw [hd] at this; cases this
 have I2 := Inv.i6 (I1.kept (t' := s1.toks) (h' := (s1.heap.push { cls := .type "dict_items", data := .fields #[.ref d] }).push { cls := .type "dict_itemiterator", data := .fields #[.none, .bool false, .ref d, .int 0 0, .int vs.length 0, .int ep 0, .none, .none] }) fun b o e => get?_push_of_some _ (get?_push_of_some _ e)) hd;have sz1 : (s1.heap.push { cls := .type "dict_items", data := .fields #[.ref d] }).objs.size = s1.heap.objs.size + 1 := Heap.size_push _ _;refine ⟨_, [_, d], _, _, i6 H1 d, rfl, I2, uz (ep := ep) _ d (Nat.ne_of_lt (by rw [sz1]; exact Nat.lt_succ_of_lt hlt)) kv, ⟨⟨.none, .none, get?_push_size _ rfl⟩, od, es', get?_push_of_some _ (get?_push_of_some _ a1), a2⟩, fun b hb => ?_, q⟩;simp only [mem_cons, not_mem_nil, or_false] at hb;rcases hb with rfl | rfl
 . exact I1.ou (by rw [sz1]; omega) (fO (I1.hok.fresh (by rw [sz1]; omega)))
 . refine ⟨vj, fun z => ?_, fun z => ?_, .inr big, fun x c e z => ?_, fun p hp z => ?_⟩
   . have := I1.free;rw [<- z, hd] at this; cases this
   . obtain ⟨_, ob, e0, _⟩ := I1.ok.gH.mem z;rw [big] at e0; cases e0
   . have := I1.freeC x c e;rw [z, hd] at this; cases this
   . have := (I1.pin p hp).2.1;rw [z, hd] at this; cases this
end
def C3 (K : Frag) (H0 : Hp) (ks : List Key) (dss : List (List D)) (H : Hp) (v : V) : Prop := ∃ l as, v = .ref l /\ (l :: as).Nodup /\ (∀ a ∈ l :: as, H0 a = none) /\ ks.length = as.length /\ H l = some (.dK (ks.zip (as.map V.ref))) /\ aU K H ⟨true, fun a => H0 a = none /\ a ∉ l :: as⟩ dss as
def Hg (K : Frag) (G : List D -> List Key -> List (List D) -> Prop) : Sp := fun vs H Q _ => ∃ (Z : aE) (ds : List D) (ks : List Key) (dss : List (List D)), Z.Open H /\ aH K H Z ds vs /\ G ds ks dss /\ ∀ v H', au H H' -> C3 K H ks dss H' v -> Q v H'
structure yK (P : Program) (w : World) (K : Frag) (mg : HE) (base : Heap) (k : Nat) (x : Str) (G : List D -> List Key -> List (List D) -> Prop) : Prop where
 ex : ∃ f fd ps, fi P w K mg base lM k f fd ps (Hg K G) /\ mg x = some (.ref f) /\ keepIn K (.ref f) = true /\ Binds K fd ps []
section
variable {X : Cx} {F : Fn} {ρ : b0} {Q : iu} {rest : List Stmt} {pos p : Pos}
theorem BY (i : Nat) {x : Str} {ks : List Key} {dss : List (List D)} (h : ρ[i]? = some (some (.gen (sE true ks dss)))) (hq : ∀ r A H v, C3 X.K F.H ks dss H v -> Q.rtS r A H v) (hN : X.N[i]? = some x := by rfl) (hv : sx X.env.scope x := by first | exact Or.inl rfl | exact Or.inr (Or.inl rfl) | exact Or.inr (Or.inr rfl))
 (hd : NdX x := by decide) (hcd : NcX x := by decide) : SD X F (.Return (some (.Name x p)) pos :: rest) ρ Q :=
 gL (N := fun _ => False) (PS.mono (zP (dg hN hv hd hcd)) fun Q' σ H z0 => fF z0 fun hv hρ A hl S f => by
  obtain ⟨l, as, e1, e2, e3, e4, e5⟩ := S.GW hl h;have hnd := S.nd i;rw [e2] at hnd;refine ⟨.ref l, e1, f.rtS σ H ρ A (.ref l) hl S (hq _ _ _ _ ⟨l, as, rfl, hnd, fun a ha => S.new i a (by rw [e2]; exact ha), e3, e4, e5.carry (fun _ _ _ q => q) ?_⟩)⟩;exact ⟨fun a o e z => ⟨e, z.1, fun q => z.2 ⟨i, by rw [e2]; exact q⟩⟩, fun m => Bool.noConfusion (show true = false from m), fun _ _ e => e⟩) fun _ n => n.elim
end
section
variable {P : Program} {w : World} {K : Frag} {mg : HE} {base : Heap} {f : Addr} {fd : FuncData}
theorem Cm {x qual : Str} {st : Stmt} {f : Addr} {fd : FuncData} {N ps : HL} {k : Nat} {G : List D -> List Key -> List (List D) -> Prop} (Fx : eg K x qual st f fd) (S : aB N ps (ah st)) (hmg : mg x = some (.ref f)) (hb : Binds K fd ps [])
 (hlen : ∀ ds ks dss, G ds ks dss -> ds.length = ps.length)
 (body : ∀ (cdv : Value) (A : Around) (outer : List Env) (s : Shared) (H : Hp) (E : XK) (Z : aE) (ds : List D) (ks : List Key) (dss : List (List D)), bx k (A.deeper (envOfC qual (ah st) s.heap.objs.size f cdv)) -> G ds ks dss ->
  SD (lO lM P w K mg base N qual (ah st) f cdv A outer s H E).zL ⟨true, Z, H⟩ (bA st) (df N ds) { nx := fun _ => False, rt := fun _ => False, rtS := fun _ _ H' v => C3 K H ks dss H' v }) : yK P w K mg base (k + 1) x G := by
 refine ⟨f, fd, ps, Fx.ok S (fun vs H Q E ⟨Z, ds, ks, dss, oz, i, g, kk⟩ => ?_) (fun cdv A outer s H vs Q E hr ⟨Z, ds, ks, dss, oz, i, g, kk⟩ => ?_), hmg, Fx.kp, hb⟩
 . rw [<- i.length]; exact hlen ds ks dss g
 . refine ⟨_, body cdv A outer s H E Z ds ks dss hr g, [], [], fun _ => [], ?_, jR oz i, ⟨rfl, fun σ H' ⟨_, _, _, _, e⟩ => e.elim, fun σ H' ⟨_, _, _, _, e⟩ => e.elim, fun σ H' ⟨_, _, _, _, e⟩ => e.elim, fun _ _ _ _ _ e => e.elim, fun _ _ _ _ _ _ _ _ e => e.elim, fun _ _ _ _ _ _ _ _ _ _ _ _ _ e => e.elim, fun σ H' r A' v hl S' e => kk v H' S'.same e⟩⟩;have := i.length;simp [L2.start, df]; omega
end
def xC (l : Addr) (o : DO) : SP where
 p _ _ H _ mine v := mine = [l] /\ v = .ref l /\ H l = some o.ho
 vw ow _ := if ow then some (.dct o) else none
 carry {K F H H' O O' mine v} h k c := by
  obtain ⟨rfl, e, hs⟩ := h;exact ⟨rfl, e, k l (.d o) (by simp) hs⟩
 env {K F H O mine v ow fr' d'} op inS h e := by
  by_cases q : ow = true
  . rw [if_pos q] at e;cases e;obtain ⟨rfl, rfl, hs⟩ := h;exact (bw.mpr ⟨l, rfl, hs, inS q l (by simp)⟩).top
  . rw [if_neg q] at e; cases e
section
variable {X : Cx} {F : Fn} {ρ : b0} {Q : iu} {rest body : List Stmt} {pos : Pos} {fr : Bool}
theorem bz.xC {K : Frag} {H : Hp} {σ hv : St} {hρ : b0} {A : Nat -> List Addr} {i : Nat} {l : Addr} {o : DO} (S : bz K F H (σ ++ hv) (ρ ++ hρ) A) (hl : σ.length = ρ.length) (h : ρ[i]? = some (some (.gen (xC l o)))) :
 σ[i]? = some (some (.ref l)) /\ A i = [l] /\ H l = some o.ho := by
 have hi : i < ρ.length := (List.getElem?_eq_some_iff.mp h).1;obtain ⟨v, a, e1, rfl, e2⟩ := S.at' i _ (by rw [getElem?_append_left hi]; exact h);rw [getElem?_append_left (by omega)] at a;exact ⟨a, e1, e2⟩
theorem yk {tg iter : Expr} {ds : List D} {mi : Bool} {g : TG} (fr : Bool) (G : D -> b0 -> b0) (P : Nat -> b0 -> Prop) (Ls : List Addr) (hL : ∀ l ∈ Ls, ∃ (i : Nat) (o : DO), ρ[i]? = some (some (Slot.gen (xC l o)))) (hi : PI X tg iter fun σ H R => (au F.H H /\ ∀ l ∈ Ls, H l ≠ none) /\ Ei X.K mi (view false fr ρ) ds σ H R) (h0 : P 0 ρ) (hg : PG X tg g)
 (hG : ∀ n d r (hv : St) (hρ : b0) (σ : St) (H H1 : Hp) (A : Nat -> List Addr) (v : V) (Q : St -> Hp -> Prop), ds[n]? = some d -> P n r -> σ.length = r.length -> bz X.K F H (σ ++ hv) (r ++ hρ) A -> au H H1 -> In X.K H1 (zn F (aG A) fr) d v ->
  (∀ σ' H', lK X.K F hv hρ (fun r' => r' = G d r) σ' H' -> Q σ' H') -> g v σ H1 Q)
 (hb : ∀ n d r, ds[n]? = some d -> P n r -> SD X F body (G d r) { Q with nx := P (n + 1), ct := P (n + 1), bk := fun r => SD X F rest r Q }) (hd : ∀ r, P ds.length r -> SD X F rest r Q)
 (hc : X.calm = true := by rfl) (hs : ∀ x, foldedSetIterable iter X.env x = pure x := by intro _; rfl) (hp : PassesOwn (model X.prog X.w) X.A X.env X.xe := by exact PassesOwn.never) : SD X F (.For tg iter body [] pos :: rest) ρ Q := by
 refine gL (N := fun r => SD X F rest r Q) ?_ fun _ h => h;refine PS.mono (AG (g := g) (tb := fun Q' σ H => ∃ n d r, ds[n]? = some d /\ P n r /\ tS X.K F (G d r) { Q with nx := P (n + 1), ct := P (n + 1), bk := fun r => SD X F rest r Q } Q' σ H) hp hc hi hg
  (fun pins s σ H Q' I ⟨n, d, r, e, pr, q⟩ => hb n d r e pr pins s σ H Q' I q) hs) fun Q' σ H z0 => fF z0 fun hv hρ A hl S f => ?_
 refine ⟨⟨S.same, fun l hl' z => ?_⟩, _, aF S false fr, S.env hl false fr, fun J H1 vs cS s1 i1 Y => ?_⟩
 . obtain ⟨i0, o0, e0⟩ := hL l hl';obtain ⟨_, _, e3⟩ := bz.xC S hl e0;rw [z] at e3; cases e3
 . have iz : aH X.K H1 (zn F (aG A) fr) cS vs := by
    cases mi
    . exact i1
    . exact i1.up (d5 S fr)
   have hsv := iz.length;refine ⟨fun n m σ H => m = ds.length - n /\ n <= ds.length /\ ∃ r A, P n r /\ σ.length = r.length /\ bz X.K F H (σ ++ (hv ++ vs.map some)) (r ++ (hρ ++ AL fr cS)) A, ⟨_, rfl, Nat.zero_le _, ρ, A, h0, hl, (S.grow s1).hide hl f.hl iz⟩, ?_⟩;rintro n m σ1 H2 ⟨rfl, hn, r, A1, pr, hl1, S1⟩;have iz1 := S1.cS hl1 f.hl hsv;by_cases hlt : n < ds.length
   . have hdn : ds[n]? = some ds[n] := by simp [hlt]
     obtain ⟨go, yl⟩ := Y.go _ H2 (d5 S1 fr) iz1 n ds[n] hdn;refine .inr ⟨go, lK X.K F (hv ++ vs.map some) (hρ ++ AL fr cS) (P (n + 1)), fun σ' H' ⟨r', A', hl', S', p'⟩ => ⟨ds.length - (n + 1), by omega, rfl, hlt, r', A', p', hl', S'⟩, fun y H3 hy => ?_⟩;obtain ⟨s3, iy⟩ := yl y H3 hy;refine hG n ds[n] r _ _ σ1 H2 H3 A1 y _ hdn pr hl1 S1 s3 iy fun σ4 H4 ⟨r4, A4, hl4, S4, e4⟩ => ?_;subst e4;refine ⟨n, ds[n], r, hdn, pr, _, _, A4, hl4, S4, ⟨by simp [AL, f.hl, hsv], fun _ _ h => h, fun σ5 H5 ⟨r5, A5, hl5, S5, q5⟩ => f.nx σ5 H5 ⟨r5, A5, hl5, S5.gQ hl5 f.hl, q5⟩, fun _ _ h => h, f.rt, f.rtT, fun σ6 H6 r6 A6 v6 d6 as6 hl6 S6 => f.rtM σ6 H6 r6 A6 v6 d6 as6 hl6 (S6.gQ hl6 f.hl), fun σ6 H6 r6 A6 v6 hl6 S6 => f.rtS σ6 H6 r6 A6 v6 hl6 (S6.gQ hl6 f.hl)⟩⟩
   . have e : n = ds.length := by omega
     subst e;exact .inl ⟨Y.stop _ H2 (d5 S1 fr) iz1, f.nx _ _ ⟨r, A1, hl1, S1.gQ hl1 f.hl, hd r pr⟩⟩
end
def lB (ks : List Key) (dss : List (List D)) : List D := (ks.zip dss).map fun q => .tup [kD q.1, .lst q.2]
section
variable {X : Cx} {F : Fn} {ρ : List (Option D)} {e : Expr} {es ts : List Expr} {ds : List D} {k : Nat} {x : Str} {G : List D -> List Key -> List (List D) -> Prop} {p pos ap cp pt : Pos} {kt : Nat} {ks : List Key} {dss : List (List D)}
theorem zc (Df : yK X.prog X.w X.K X.mg X.base k x G) (hr : bx k X.A) (ha : EA X ρ (e :: es) ds) (h : G ds ks dss) (Ls : List Addr) (hF : ∀ a, F.H a = none -> a ∈ Ls \/ X.H₀ a = none) (hex : X.ex = []) (hg : Gl X x := by rfl) (hdb : NdX x := by decide)
 (he : starEach (e :: es) X.env = (false, eval e X.env) :: starEach es X.env := by rfl) (hpl : (backTo pos (starEach es X.env)).any (·.1) = false := by rfl)
 (hbase : attributeBase (.Call (.Name x p) (e :: es) [] pos) "items" X.env (eval (.Call (.Name x p) (e :: es) [] pos) X.env) = eval (.Call (.Name x p) (e :: es) [] pos) X.env := by rfl) (hline : (ap.endLine == cp.line) = true := by rfl) :
 PI X (.Tuple ts kt pt) (.Call (.Attribute (.Call (.Name x p) (e :: es) [] pos) "items" ap) [] [] cp) fun σ H R => (au F.H H /\ ∀ l ∈ Ls, H l ≠ none) /\ Ei X.K true ρ (lB ks dss) σ H R := by
 obtain ⟨f, fd, ps, a, b, c, dd⟩ := Df.ex;refine PI.mono (yv (qh a hr hg b c dd .nil vg ha hdb he hpl) hex hbase hline) fun σ H R ⟨⟨s0, tr⟩, Z, oz, en, kq⟩ => ?_;refine ⟨Z, oz, en, fun vs H1 s1 i1 => ?_⟩;show Hg X.K G (vs ++ []) H1 _ _;rw [append_nil];refine ⟨Z, ds, ks, dss, oz.same s1, i1, h, fun v H2 s2 ⟨l, as, ev, nd, new, hk, hl, hrw⟩ => ?_⟩;have nl : ∀ a ∈ l :: as, H a = none := fun a ha => s1.free (new a ha);refine ⟨l, _, ev, hl, ?_, ?_⟩
 . rcases hF l (s0.free (nl l (by simp))) with z | z
   . exact absurd (nl l (by simp)) (tr l z)
   . exact z
 . have s3 : au H (i6 H2 l) := xn (s1.trans s2) (nl l (by simp)) hl;obtain ⟨n1, n2⟩ := nodup_cons.mp nd;have rows3 : aU X.K (i6 H2 l) (nw H) dss as := by
    refine hrw.carry (fun b xs hb q => by rw [eL (fun z => n1 (by rw [<- z]; exact hb))]; exact q) ⟨fun a o e z => ?_, fun m => Bool.noConfusion (show true = false from m), fun a xs e => ?_⟩
    . have hal : a ≠ l := fun q => z.2 (by rw [q]; simp);exact ⟨by rw [eL hal]; exact e, s1.free z.1⟩
    . rw [eL (fun z => by rw [z, hl] at e; cases e)]; exact e
   refine kq (Itm _) (i6 H2 l) (as.map V.ref) (dss.map D.lst) s3 (kj rows3 ⟨fun a o e z => ⟨e, z⟩, fun m => Bool.noConfusion (show true = false from m), fun _ _ e => e⟩ fun a ha => nl a (by simp [ha])) ⟨fun Z2 H3 o3 j3 i d hd => ?_, fun Z2 H3 o3 j3 => ?_⟩
   . unfold lB at hd;rw [getElem?_map] at hd
     cases hz : (ks.zip dss)[i]? with
     | none => rw [hz] at hd; cases hd
     | some q =>
      rw [hz] at hd;cases hd;obtain ⟨z1, z2⟩ := List.getElem?_zip_eq_some.mp hz;have hlt : i < ks.length := (List.getElem?_eq_some_iff.mp z1).1;have hlas : i < as.length := by omega
      have hkv : (ks.zip (as.map V.ref))[i]? = some (q.1, .ref as[i]) := List.getElem?_zip_eq_some.mpr ⟨z1, by simp [hlas]⟩;refine ⟨by show i < (ks.zip (as.map V.ref)).length; rw [List.length_zip, length_map]; omega, fun y H4 ⟨pp, kv, e1, e2, e3, e4⟩ => ?_⟩;rw [hkv] at e1;cases e1;subst e3 e4;obtain ⟨v2, w1, w2⟩ := j3.get (i := i) (d := .lst q.2) (by rw [getElem?_map, z2]; rfl);have w1 : v2 = .ref as[i] := by
       rw [getElem?_map, List.getElem?_eq_getElem hlas] at w1;exact (Option.some.inj w1).symm
      subst w1;have sm : au H3 (upd H3 pp (.tup [kV q.1, .ref as[i]])) := az e2;exact ⟨sm, cF.mpr ⟨pp, _, rfl, ak, ar.mpr ⟨_, _, rfl, Cr q.1, aH.one (w2.same sm)⟩⟩⟩
   . show (ks.zip (as.map V.ref)).length <= (lB ks dss).length;have := hrw.length;unfold lB;rw [length_map, List.length_zip, List.length_zip, length_map];omega
end
section
variable {X : Cx} {F : Fn} {ρ : b0} {Q : iu} {rest body : List Stmt} {pos : Pos}
theorem Au (k l : Nat) (fr : Bool) {x y : Str} {px py pt : Pos} {kt : Nat} {iter : Expr} {ds : List D} {mi : Bool} (P : Nat -> b0 -> Prop) (Ls : List Addr) (hL : ∀ l ∈ Ls, ∃ (i : Nat) (o : DO), ρ[i]? = some (some (Slot.gen (xC l o)))) (hi : PI X (.Tuple [.Name x px, .Name y py] kt pt) iter fun σ H R => (au F.H H /\ ∀ l ∈ Ls, H l ≠ none) /\ Ei X.K mi (view false fr ρ) ds σ H R) (h0 : P 0 ρ)
 (hlen : ∀ n r, P n r -> k < r.length /\ l < r.length) (hpair : ∀ d ∈ ds, ∃ d1 d2, d = .tup [d1, d2])
 (hb : ∀ n d1 d2 r, ds[n]? = some (.tup [d1, d2]) -> P n r -> SD X F body ((r.set k (some (.pl fr d1))).set l (some (.pl fr d2))) { Q with nx := P (n + 1), ct := P (n + 1), bk := fun r => SD X F rest r Q }) (hd : ∀ r, P ds.length r -> SD X F rest r Q)
 (hN : X.N.Nodup) (hx : X.N[k]? = some x := by rfl) (hy : X.N[l]? = some y := by rfl) (hxl : Loc X.env.scope x := by first | exact Or.inl rfl | exact Or.inr rfl) (hyl : Loc X.env.scope y := by first | exact Or.inl rfl | exact Or.inr rfl)
 (hf : HfX X x := by first | exact .inl rfl | exact .inr rfl) (hf' : X.fn y = true \/ X.env.scope.names.lookup y = some .local := by first | exact .inl rfl | exact .inr rfl) (hc : X.calm = true := by rfl)
 (hs : ∀ x, foldedSetIterable iter X.env x = pure x := by intro _; rfl) (hp : PassesOwn (model X.prog X.w) X.A X.env X.xe := by exact PassesOwn.never)
 (hes : (assignEach [.Name x px, .Name y py] X.env).map (·.2) = [assign (.Name x px) X.env, assign (.Name y py) X.env] := by rfl) (hes2 : (assignEach [.Name y py] X.env).map (·.2) = [assign (.Name y py) X.env] := by rfl)
 (hen : (assignEach [.Name x px, .Name y py] X.env).length = 2 := by rfl) (hst : (assignEach [.Name x px, .Name y py] X.env).findIdx? (·.1) = none := by rfl) : SD X F (.For (.Tuple [.Name x px, .Name y py] kt pt) iter body [] pos :: rest) ρ Q := by
 refine yk (g := yH X.K 2 (jX (eE k) (jX (eE l) ye))) fr (fun d r => match d with | .tup [d1, d2] => (r.set k (some (.pl fr d1))).set l (some (.pl fr d2)) | _ => r) P Ls hL hi h0
  (uy hc (fM (eG hN hx hxl hf) (fM (eG hN hy hyl hf') qv (by rw [hes2]; rfl)) (by rw [hes, hes2])) hen hst) (fun n d r hv hρ σ H H1 A v q e pr hl S s i h => ?_) (fun n d r e pr => ?_) hd hc hs hp
 . obtain ⟨d1, d2, rfl⟩ := hpair d (mem_of_getElem? e);obtain ⟨a, xs, rfl, t, j⟩ := aN i;obtain ⟨v1, r1, rfl, i1, j1⟩ := ar.mp j;obtain ⟨v2, r2, rfl, i2, j2⟩ := ar.mp j1;cases aC.mp j2;refine ⟨a, _, rfl, t, rfl, v1, _, rfl, v2, _, rfl, rfl, ?_⟩;exact h _ _ (jE (by simp [hl]) (pM (fr := fr) hl S (hlen n r pr).1 s i1) (by simpa using (hlen n r pr).2) (au.refl _) (i2.carry lY))
 . obtain ⟨d1, d2, rfl⟩ := hpair d (mem_of_getElem? e);exact hb n d1 d2 r e pr
end
end Y
namespace Y
open PySem PySem.Spec PyProof.Rows L2
section
variable {prog : Program} {w : World} {A : Around} {E : HB} {s : Shared} {d S : Addr} {ep : Nat} {es : Array DictEntry} {sm : HD}
abbrev CY (es : Array DictEntry) (ep : Nat) (sm : HD) : Obj := ⟨.type "dict", none, .dict es ep, sm⟩
theorem wO {it : Addr} (hh : A.handled = none) (ne : d ≠ it) : Walks prog w A it [it, d] [it] es.size (fun i v => (es[i]?).map (·.key) = some v) (fun i h => h.IsKeyIter it d i es.size ep /\ h.get? d = some (CY es ep sm)) where
 sub := fun b hb => by rw [List.mem_singleton.mp hb]; exact mem_cons_self
 frame := fun i h h' ⟨⟨o, e1, e2⟩, st⟩ k => ⟨⟨o, k it (by simp) _ e1, e2⟩, k d (by simp) _ st⟩
 item := fun i s Q E hi ⟨st, sd⟩ q => wL st sd hi fun h' k1 k2 => q _ h' s.toks (by simp [hi]) ⟨k1, (k2.2 d ne).trans sd⟩ fun b o hb e => (k2.2 b fun z => hb (by rw [z]; exact List.mem_singleton.mpr rfl)).trans e
 done := fun s Q E ⟨st, sd⟩ q => zV hh st sd (Nat.le_refl _) fun h' k1 => q h' s.toks fun b o hb e => k1 b o (fun z => hb (by rw [z]; exact List.mem_singleton.mpr rfl)) e
 self := fun i s Q E ⟨st, _⟩ q => wpAny_pyIter_slot st.typeIs F.slot_dict_keyiterator_iter (wpAny_call_entry F.slot_dict_keyiterator_iter st.typeIs F.entry_dict_keyiterator_iter (wpAny_pure ⟨_, rfl, "dict_keyiterator", _, st.typeIs, F.slot_dict_keyiterator_next.lookup, q⟩) (F.args_dict_keyiterator_iter_1 _))
theorem p6 {R : HK} {c0 : Nat} {res : Value} (hh : A.handled = none) (hn : (d == sysModules) = false) (hd : s.heap.get? d = some (CY es ep sm)) (hS : s.heap.get? S = some { cls := .type "list", data := .seq #[] c0 }) (hSa : S ≠ d) (hz : es.size + 2 <= sizeLine)
 (hR : ∀ h' tk acc c, (∀ b o, b ≠ S -> s.heap.get? b = some o -> h'.get? b = some o) -> h'.get? S = some { cls := .type "list", dict := none, data := .seq acc c, slots := #[] } -> acc.toList = es.toList.map (·.key) -> R (.ok (.ret res)) { s with heap := h', toks := tk }) :
 wpAny (model prog w) A.in1 (Builtin.List.listExtendWith (.ref S) (.ref d) res) (Gk prog w A R) (fun e s' => R (.error e) s') s := by
 have Ty : s.TypeIs (.ref d) "dict" := ⟨_, hd, rfl⟩
 have same : Builtin.List.listSameRef (.ref S) (.ref d) = false := by simp [Builtin.List.listSameRef, hSa]
 have hh1 : A.in1.handled = none := hh;unfold Builtin.List.listExtendWith;refine wpAny_bind (wpAny_typeOf Ty ?_);rw [if_neg (by rw [same]; decide)];have ld := lt_size hd;have lS := lt_size hS;refine wpAny_bind (xS hn hd ?_);generalize hh2 : s.heap.push { cls := .type "dict_keyiterator", data := .fields #[.ref d, .int 0 0, .int es.size 0, .int ep 0] } = h1;have k1 : ∀ b o, s.heap.get? b = some o -> h1.get? b = some o := fun b o e => by rw [<- hh2]; exact get?_push_of_some _ e
 have it1 : h1.IsKeyIter s.heap.objs.size d 0 es.size ep := by rw [<- hh2]; exact ⟨_, get?_push_size _ rfl, rfl, rfl⟩
 have T1 : Shared.TypeIs { s with heap := h1 } (.ref d) "dict" := ⟨_, k1 _ _ hd, rfl⟩
 refine wpAny_bind (wpAny_holding (PySem.W.kdl_hint_dict T1 ?_));rw [if_pos (by decide)];refine wpAny_bind (wpAny_rule (wpAny_bind ?_));have W := wO (prog := prog) (w := w) (A := A.in1) (es := es) (ep := ep) (sm := sm) (d := d) (it := s.heap.objs.size) hh1 (Nat.ne_of_lt ld);have nS : ∀ b ∈ [s.heap.objs.size, d], b ≠ S := fun b hb z => by
  simp only [mem_cons, not_mem_nil, or_false] at hb;rcases hb with e | e
  . exact absurd lS (by rw [<- z, e]; exact Nat.lt_irrefl _)
  . exact hSa (z.symm.trans e)
 refine EJ (s := { s with heap := h1 }) (k1 _ _ hS) fun h2 c2 oth hS3 => ?_;refine wpAny_pure ⟨plainId_quiet PySem.F.plain_extend_loop _, codeAny_extend_loopS W.toS (by omega) S (fun z => nS S z rfl) res es.size 0 _ #[] _ rfl (Nat.zero_le _) (W.frame 0 _ _ ⟨it1, k1 _ _ hd⟩ fun b hb o e => oth b o (nS b hb) e) hS3 (ItemsOf.nil _) fun s' acc c m e1 e2 => ?_⟩;obtain ⟨h', g', d', tk', os'⟩ := s';have q1 : g' = s.gens := m.gens;have q2 : d' = s.drawn := m.drawn;have q3 : os' = s.os := m.os;subst q1 q2 q3;refine hR h' tk' acc c (fun b o hb e => m.heap b o (fun z => ?_) (oth b o hb (k1 b o e))) e1 ?_
 . rcases mem_cons.mp z with z | z
   . exact hb z
   . exact absurd (lt_size e) (by rw [List.mem_singleton.mp z]; exact Nat.lt_irrefl _)
 . apply List.ext_getElem?;intro i;by_cases hi : i < acc.size
   . have := e2.2 i acc[i] (Array.getElem?_eq_getElem hi);rw [getElem?_map, Array.getElem?_toList, Array.getElem?_toList, Array.getElem?_eq_getElem hi];exact this.symm
   . have h1 := e2.1;rw [List.getElem?_eq_none (by rw [Array.length_toList]; omega), List.getElem?_eq_none (by rw [length_map, Array.length_toList]; omega)]
theorem n5 {Q : List Value -> Shared -> Prop} (hh : A.handled = none) (hn : (d == sysModules) = false) (hd : s.heap.get? d = some (CY es ep sm)) (hz : es.size + 2 <= sizeLine)
 (q : ∀ h' tk, (∀ b o, s.heap.get? b = some o -> h'.get? b = some o) -> Q (es.toList.map (·.key)) { s with heap := h', toks := tk }) : wpAny (model prog w) A (collect (.ref d)) Q E s := by
 have la := lt_size hd;unfold collect;refine wpAny_bind (wpAny_runValue (codeAny_builtin PySem.F.entry_proto_collect ?_));rw [Around.under_plainId PySem.F.plain_proto_collect _];refine wpAny_bind (m := newList []) (wpAny_newObj_type (wpAny_pure ⟨plainId_quiet PySem.F.plain_list_iadd _, codeAny_builtin PySem.F.entry_list_iadd ?_⟩));rw [Around.under_plainId PySem.F.plain_list_iadd _];have hS : (s.heap.push { cls := .type "list", data := .seq ([] : HF).toArray }).get? s.heap.objs.size = some { cls := .type "list", data := .seq #[] } := get?_push_size _ rfl;have run := p6 (prog := prog) (w := w) (A := A) (s := { s with heap := s.heap.push { cls := .type "list", data := .seq ([] : HF).toArray } }) (res := .ref s.heap.objs.size) (R := fun r s' => ∃ h' tk acc c, r = .ok (.ret (.ref s.heap.objs.size)) /\ s' = { s with heap := h', toks := tk } /\ (∀ b o, s.heap.get? b = some o -> h'.get? b = some o) /\ h'.get? s.heap.objs.size = some { cls := .type "list", dict := none, data := .seq acc c, slots := #[] } /\ acc.toList = es.toList.map (·.key))
  hh hn (get?_push_of_some _ hd) hS (Nat.ne_of_gt la) hz fun h' tk acc c k1 k2 k3 => ⟨h', tk, acc, c, rfl, rfl, fun b o e => k1 b o (Nat.ne_of_lt (lt_size e)) (get?_push_of_some _ e), k2, k3⟩
 show wpAny _ A.in1 (Builtin.List.listExtendWith (.ref s.heap.objs.size) (.ref d) (.ref s.heap.objs.size)) _ _ _;refine wpAny_mono run (fun x s' z => ?_) fun e s' z => ?_
 . cases x with
   | done f =>
    obtain ⟨h', tk, acc, c, e, rfl, k1, k2, k3⟩ := z;cases e;exact wpAny_bind (wpAny_load k2 (wpAny_pure (k3 ▸ q h' tk k1)))
   | again c =>
    refine ⟨z.1, codeAny_mono z.2 fun r s2 y => ?_⟩;obtain ⟨h', tk, acc, c, rfl, rfl, k1, k2, k3⟩ := y;exact wpAny_bind (wpAny_load k2 (wpAny_pure (k3 ▸ q h' tk k1)))
 . obtain ⟨_, _, _, _, e', _⟩ := z;cases e'
end
end Y
namespace Y
open PySem PySem.Spec PyProof.Rows L2 PySem.SeqAt
variable [cq]
section
variable {X : Cx} {ρ : List (Option D)} {m1 : Bool} {o : Expr} {p pos : Pos} {P : D -> Prop} {kd : SortKind} {kvs : List (List Key × V)}
def Cd (k : List Key) : D := .tup (k.map kD)
theorem vI {H : Hp} : ∀ {kvs : List (List Key × V)} {xs : List (List Key × Addr × Value)}, KT H kvs xs -> Paired (fun (k : List Key) (b : Addr) => H b = some (.tup (k.map kV))) (kvs.map (·.1)) (xs.map (·.2.1))
 | _, _, .nil => .nil
 | _, _, .cons hq t => .cons hq.2.1 (vI t)
theorem vq {K : Frag} {H : Hp} {Z : aE} : ∀ k : List Key, aH K H Z (k.map kD) (k.map kV)
 | [] => aC.mpr rfl
 | q :: k => ar.mpr ⟨_, _, rfl, Cr q, vq k⟩
theorem rQ {K : Frag} {H : Hp} {Z : aE} : ∀ {ks : List (List Key)} {bs : List Addr}, Paired (fun (k : List Key) (b : Addr) => H b = some (.tup (k.map kV))) ks bs -> aH K H Z (ks.map Cd) (bs.map V.ref)
 | _, _, .nil => aC.mpr rfl
 | _, _, .cons h t => ar.mpr ⟨_, _, rfl, cF.mpr ⟨_, _, rfl, h, vq _⟩, rQ t⟩
theorem oe : lu X (.builtin "sorted") (fun xs H Q => ∃ (d : Addr) (kvs : List (List Key × V)) (P : D -> Prop) (kd : SortKind), xs = [V.ref d] /\ H d = some (.dT kvs) /\ i4 P /\ eA P kd /\ (∀ q ∈ kvs, P (Cd q.1) /\ X.A.units + 2 + (Cd q.1).dep < cLine) /\ kvs.length < 64 /\ X.A.handled = none /\
 ∀ a H' ys, H a = none -> H' = upd H a (.lst ys) -> (∀ Z : aE, aH X.K H' Z (qW id (kvs.map fun q => Cd q.1)) ys) -> Q (.ref a) H') := by
 intro pins s σ H xs us Q I r h;obtain ⟨d, kvs, P, kd, rfl, hd, L, kk, hP, h64, hh, fin⟩ := h;obtain ⟨u, rfl, ru⟩ := vals1 r;cases ru;obtain ⟨z, nS, ys, kt, ⟨⟨c, dc, da, sl⟩, es, ep, h1, ⟨h2, h3, h3'⟩, h4, h5, h6, h7⟩⟩ := z8 I.hok hd;subst h2 h3 h3' h4;have hl : es.size = kvs.length := by rw [size_of_entries h5]; exact kt.length.symm
 have ek : es.toList.map (·.key) = (ys.map (·.2.1)).map Value.ref := by rw [h5, map_map, map_map]; rfl
 refine Calls.call_function_entry kind_sorted plain_sorted entry_sorted (args_sorted1 _) ?_;unfold Builtin.«sorted»;refine wpAny_bind (m := checkCount "sorted" 1 1 _) (wpAny_pure ?_);refine wpAny_bind (n5 (show X.A.in1.handled = none from hh) nS h1 (by rw [sizeLine_eq]; omega) fun h' tk keep => ?_);rw [ek];have I1 : Inv X pins σ H { s with heap := h', toks := tk } := I.kept keep;have hys : ys.length = kvs.length := kt.length.symm;refine wpAny_bind (wpAny_newList ?_ (by rw [length_map, length_map, sizeLine_eq]; omega));generalize hbs : ys.map (·.2.1) = bs;have pk := vI kt;rw [hbs] at pk;have hbl : bs.length = kvs.length := by have := Paired.length pk; rw [length_map] at this; exact this.symm
 have hoL : (h'.push (seqObj "list" (bs.map Value.ref).toArray 0)).get? h'.objs.size = some (seqObj "list" (bs.map Value.ref).toArray 0) := get?_push_size _ rfl;have kp : ∀ b o, h'.get? b = some o -> (h'.push (seqObj "list" (bs.map Value.ref).toArray 0)).get? b = some o := fun b o e => get?_push_of_some _ e;have rv : Vals (bs.map V.ref) (bs.map Value.ref) := by
  clear hoL kp pk hbl hbs
  induction bs with
  | nil => exact .nil
  | cons a as ih => exact .cons rfl ih
 have jU : ∀ Z : aE, aH X.K H Z (kvs.map fun q => Cd q.1) (bs.map V.ref) := fun Z => by
  have := rQ (K := X.K) (Z := Z) pk
  rwa [map_map] at this
 refine wpAny_bind (wpAny_holding (wpAny_call_entry slot_list_sort ⟨_, hoL, rfl⟩ entry_list_sort (ud (s := { s with heap := h', toks := tk }) (Z := ⟨true, fun _ => True⟩) (t1 := tk) L kk (fun d hd => by
  obtain ⟨q, hq, rfl⟩ := mem_map.mp hd;exact hP q hq) I1 (jU _) rv (by rw [length_map]; omega) kp (Nat.le_refl _) hoL fun s3 prs I3 pp e3 => ⟨_, rfl, ?_⟩) (args_list_sort _)))
 have Ha : H h'.objs.size = none := I1.hok.fresh (Nat.le_refl _);refine wpAny_pure ⟨_, rfl, .ref h'.objs.size, _, I3, rfl, fin _ _ _ Ha rfl fun Z => ?_⟩;have j0 := i9 fun z hz => qa (jU Z) z (pp.mem_iff.mp hz);rw [e3] at j0;exact j0.same (az Ha)
theorem tM (ho : E X m1 ρ o (.dct (.t kvs))) (L : i4 P) (kk : eA P kd) (hP : ∀ q ∈ kvs, P (Cd q.1) /\ X.A.units + 2 + (Cd q.1).dep < cLine) (h64 : kvs.length < 64) (hh : X.A.handled = none) (hm : X.mg "sorted" = none)
 (hg : Gl X "sorted" := by rfl) (hs : starEach [o] X.env = [(false, eval o X.env)] := by rfl) :
 E X true ρ (.Call (.Name "sorted" p) [o] [] pos) (.lst (qW id (kvs.map fun q => Cd q.1))) :=
 PE.mono (gU oe hg hm boot_sorted (aK ho bu (by rw [hs]; rfl)) (by decide) (by decide) (by rw [hs]; rfl) rfl) fun σ H Q z0 => bo z0 fun Z oz en k => ⟨Z, oz, en, fun x H1 s1 i1 => by
  obtain ⟨d, rfl, e, _⟩ := bw.mp i1;refine ⟨d, kvs, P, kd, rfl, e, L, kk, hP, h64, hh, fun a H' ys ha eH j => ?_⟩;subst eH;exact k (.ref a) _ (s1.trans (az ha)) (av.mpr ⟨a, ys, rfl, .inl ⟨ak, s1.free ha⟩, j _⟩)⟩
end
end Y
namespace Y
open PySem PySem.Spec PyProof.Rows L2
variable [cq]
theorem rH {H : Hp} {l : Addr} {m : MO} (hl : H l = some m.ho) (t : TabsOk H) : TabsOk (xx H [l]) := fun P hP => by
 obtain ⟨ps, e, tr, k⟩ := t P hP;have no : ∀ {b : Addr} {o : HO}, H b = some o -> (∀ m : MO, o ≠ m.ho) -> b ∉ [l] := fun {b o} q n z => by
  rw [List.mem_singleton.mp z, hl] at q;exact n m (Option.some.inj q).symm
 refine ⟨ps, by rw [jo (no e (by intro m z; rcases m with xs | (kvs | kvs) | _ <;> cases z))]; exact e, tr, fun pos cv q => ?_⟩;obtain ⟨c, rfl, hc⟩ := k pos cv q;exact ⟨c, rfl, by rw [jo (no hc (by intro m z; rcases m with xs | (kvs | kvs) | _ <;> cases z))]; exact hc⟩
theorem yu {H0 H : Hp} {l : Addr} {m : MO} (s : au H0 H) (hn : H0 l = none) (hl : H l = some m.ho) : au H0 (xx H [l]) := by
 have no : ∀ {b : Addr} {o : HO}, H0 b = some o -> b ∉ [l] := fun {b o} q z => by rw [List.mem_singleton.mp z, hn] at q; cases q
 exact ⟨fun b o e n => by rw [jo (no e)]; exact s.get b o e n, fun b ps e => by rw [jo (no e)]; exact s.tbl b ps e, fun t => rH hl (s.tabs t)⟩
def FW (K : Frag) (ds : List D) (o o' : DO) : Sp := fun vs H Q _ => ∃ (Z : aE) (xs : List V) (l : Addr), vs = .ref l :: xs /\ Z.Open H /\ ¬ Z.S l /\ aH K H Z ds xs /\ H l = some o.ho /\
 ∀ H', au (xx H [l]) H' -> H' l = some o'.ho -> Q .non H'
def qi (N : HL) (ds : List D) (l : Addr) (o : DO) : b0 := some (.gen (xC l o)) :: (ds.map (fun d => some (.pl false d)) ++ List.replicate (N.length - (ds.length + 1)) none)
theorem xp {K : Frag} {Z : aE} {H : Hp} {N : HL} {ds : List D} {xs : List V} {l : Addr} {o : DO} (oz : Z.Open H) (nl : ¬ Z.S l) (h : aH K H Z ds xs) (hl : H l = some o.ho) :
 bz K ⟨true, ⟨Z.m, fun a => Z.S a \/ a = l⟩, xx H [l]⟩ H (L2.start N (.ref l :: xs) ++ []) (qi N ds l o ++ []) (bP (fun _ => []) 0 [l]) := by
 have hlen := h.length;have own : ∀ {i : Nat} {a : Addr}, a ∈ bP (fun _ => []) 0 [l] i -> i = 0 /\ a = l := fun {i a} ha => by
  by_cases q : i = 0
  . rw [q, aY] at ha; exact ⟨q, by simpa using ha⟩
  . rw [bM q] at ha; cases ha
 refine ⟨AV, ⟨fun a q => ?_, rH (m := .d o) hl oz.tb⟩, fun i => ?_, fun i j a ha hb => (own ha).1.trans (own hb).1.symm, fun i a ha => Cs (by rw [(own ha).2]; simp), fun i a ha => ⟨.d o, by rw [(own ha).2]; exact hl⟩, fun i sl e => ?_⟩
 . rcases vn q with z | z
   . exact .inr (by simpa using z)
   . exact .inl (oz.op a z)
 . by_cases q : i = 0
   . rw [q, aY]; simp
   . rw [bM q]; exact List.nodup_nil
 . rw [append_nil] at e ⊢;unfold qi at e;unfold L2.start
   cases i with
   | zero =>
    cases e;exact ⟨.ref l, rfl, by rw [aY], rfl, hl⟩
   | succ i =>
    rw [List.getElem?_cons_succ] at e;by_cases hi : i < ds.length
    . rw [getElem?_append_left (by simpa using hi), getElem?_map, List.getElem?_eq_getElem hi] at e;have e' : some (Slot.pl false ds[i]) = some sl := by simpa using e
      cases e';obtain ⟨v, e1, e2⟩ := h.get (i := i) (d := ds[i]) (by simp [hi]);refine ⟨v, by rw [map_cons, cons_append, List.getElem?_cons_succ, getElem?_append_left (by rw [length_map]; omega), getElem?_map, e1]; rfl, ?_⟩;refine In.carry (Z' := zn ⟨true, ⟨Z.m, fun a => Z.S a \/ a = l⟩, xx H [l]⟩ (aG (bP (fun _ => []) 0 [l])) false) ⟨fun a m q z => ⟨q, .inl z, fun ⟨j, hj⟩ => nl ((own hj).2 ▸ z)⟩, fun m => ⟨m, fun _ _ q => q⟩, fun _ _ q => q⟩ e2
    . rw [getElem?_append_right (by simpa using hi), List.getElem?_replicate] at e;split at e <;> cases e
section
variable {P : Program} {w : World} {K : Frag} {mg : HE} {base : Heap} {f : Addr} {fd : FuncData}
theorem Hj {x qual : Str} {st : Stmt} {f : Addr} {fd : FuncData} {N ps : HL} {k : Nat} {ds : List D} {o o' : DO} (Fx : eg K x qual st f fd) (S : aB N ps (ah st)) (hlen : ds.length + 1 = ps.length) (hN : ds.length + 1 <= N.length)
 (body : ∀ (cdv : Value) (A : Around) (outer : List Env) (s : Shared) (H : Hp) (E : XK) (F : Fn) (l : Addr), bx k (A.deeper (envOfC qual (ah st) s.heap.objs.size f cdv)) ->
  (∀ a, F.H a = none -> a = l \/ H a = none) -> SD (lO lM P w K mg base N qual (ah st) f cdv A outer s H E).zL F (bA st) (qi N ds l o) { nx := fun r => r[0]? = some (some (.gen (xC l o'))), rt := fun _ => False }) : fi P w K mg base lM (k + 1) f fd ps (FW K ds o o') := by
 refine Fx.ok S (fun vs H Q E ⟨Z, xs, l, e, oz, nl, i, hl, kk⟩ => ?_) (fun cdv A outer s H vs Q E hr ⟨Z, xs, l, e, oz, nl, i, hl, kk⟩ => ?_)
 . rw [e, length_cons, <- i.length]; exact hlen
 . subst e;have hil := i.length;refine ⟨_, body cdv A outer s H E _ l hr (fun a q => (vn q).imp (fun z => by simpa using z) id), [], [], _, ?_, xp oz nl i hl, ⟨rfl, fun σ H' ⟨r, A', hl', S', e⟩ => ?_, fun σ H' ⟨r, A', hl, S', e⟩ => e.elim, fun σ H' ⟨r, A', hl, S', e⟩ => e.elim, fun _ _ _ _ _ e => e.elim, fun _ _ _ _ _ _ _ _ e => e.elim, fun _ _ _ _ _ _ _ _ _ _ _ _ _ e => e.elim, fun _ _ _ _ _ _ _ e => e.elim⟩⟩
   . simp [L2.start, qi]; omega
   . have hi : 0 < r.length := (List.getElem?_eq_some_iff.mp e).1;obtain ⟨v, a, _, _, q⟩ := S'.at' 0 _ (by rw [getElem?_append_left hi]; exact e);exact kk H' S'.same q
end
section
variable {X : Cx} {F : Fn} {ρ : b0} {Q : iu} {rest : List Stmt} {e key : Expr} {es : List Expr} {ds : List D} {o o' : DO} {pos p py cp sp : Pos} {m1 m2 : Bool}
theorem yU (i : Nat) {x : Str} {l : Addr} {dk dv : D} {v : V} (h : ρ[i]? = some (some (.gen (xC l o)))) (hk : E X m1 (view true false ρ) key dk) (he : E X m2 (view true false ρ) e dv) (hv : EB dv = some v) (hp : o.put dk v o') (hu : X.A.units + 1 < cLine)
 (hr : SD X F rest (ρ.set i (some (.gen (xC l o')))) Q) (hN : X.N[i]? = some x := by rfl) (hvis : sx X.env.scope x := by first | exact Or.inl rfl | exact Or.inr (Or.inl rfl) | exact Or.inr (Or.inr rfl)) (hd : NdX x := by decide) (hcd : NcX x := by decide)
 (hs : swapsWith e (some (.Subscript (.Name x p) key sp)) pos.line X.env = pure false := by rfl) : SD X F (.Assign [.Subscript (.Name x p) key sp] e pos :: rest) ρ Q := by
 refine bB (PS.mono (Ci hu (dg hN hvis hd hcd) hk he hs) fun Q' σ H ⟨hv', hρ, A, hl, S, f⟩ => ?_) hr;obtain ⟨e1, e2, e3⟩ := S.xC hl h;have hi : i < σ.length := (List.getElem?_eq_some_iff.mp e1).1;refine ⟨_, aF S true false, S.env hl true false, fun w H1 s1 i1 => ?_⟩;refine ⟨.ref l, e1, _, (aF S true false).same s1, (S.env hl true false).same s1, fun y H2 s2 i2 => ?_⟩;have s12 := s1.trans s2;have hw := CO i1 hv;subst hw;refine ⟨l, _, rfl, dput (s12.at e3 o.nt) i2 hp, f.nx _ _ ⟨_, bP A i [l], by simp [hl], ?_, rfl⟩⟩;have S2 := S.grow s12;have key := S2.re (i := i) (v := .ref l) (sl := .gen (xC l o')) (l := [l]) (H2 := upd H2 l o'.ho) (by rw [List.length_append]; omega) (by rw [List.length_append]; omega) (S2.same.ju (xs := .d o) (S.new i l (by rw [e2]; simp)) (s12.at e3 o.nt)) (fun b u e _ hb => ?_) kX (fun a ha => ?_) ⟨rfl, rfl, ak⟩
 . rw [cn (by rw [getElem?_append_left hi]; exact e1), aX (by omega)] at key;exact key
 . rw [e2] at hb;have : b ≠ l := by simpa using hb
   rw [ae this]; exact e
 . have : a = l := by simpa using ha
   subst this;exact ⟨.inl (by rw [e2]; simp), .d o', ak⟩
theorem zN (j : Nat) {f : Addr} {fd : FuncData} {ps : HL} {x y : Str} {k : Nat} (Fk : fi X.prog X.w X.K X.mg X.base lM k f fd ps (FW X.K ds o o')) (hb : Binds X.K fd ps []) (hk : keepIn X.K (.ref f) = true) (hmg : X.mg x = some (.ref f)) (hr0 : bx k X.A)
 (h : ρ[j]? = some (some (.od o))) (ha : EA X (view false false ρ) es ds) (hr : SD X F rest (ρ.set j (some (.od o'))) Q) (hN : X.N[j]? = some y := by rfl) (hv : sx X.env.scope y := by first | exact Or.inl rfl | exact Or.inr (Or.inl rfl) | exact Or.inr (Or.inr rfl))
 (hd : NdX y := by decide) (hcd : NcX y := by decide) (hg : Gl X x := by rfl) (hdb : NdX x := by decide)
 (h1 : starEach (.Name y py :: es) X.env = (false, eval (.Name y py) X.env) :: starEach es X.env := by rfl) (hpl : (backTo cp (starEach es X.env)).any (·.1) = false := by rfl)
 (hsw : swapsWith (.Call (.Name x p) (.Name y py :: es) [] cp) none pos.line X.env = pure false := by rfl) : SD X F (.Expr (.Call (.Name x p) (.Name y py :: es) [] cp) pos :: rest) ρ Q := by
 refine bB (PS.mono (dX (qh Fk hr0 hg hmg hk hb .nil vg (aK (dg hN hv hd hcd) ha h1) hdb h1 hpl) hsw) ?_) hr;rintro Q' σ H ⟨hv, hρ, A, hl, S, ff⟩;obtain ⟨l, e1, e2, e3⟩ := S.od hl h;have hj : j < σ.length := (List.getElem?_eq_some_iff.mp e1).1;refine ⟨.ref l, e1, _, aF S false false, S.env hl false false, fun xs H1 s1 i1 => ?_⟩;show FW X.K ds o o' ((.ref l :: xs) ++ []) H1 _ _;rw [append_nil];have nz : ¬ (vz F (aG A) false false).S l := fun z => z.2 ⟨j, by rw [e2]; simp⟩;refine ⟨_, xs, l, rfl, (aF S false false).same s1, nz, i1, s1.at e3 o.nt, fun H' sm hl' => ff.nx _ _ ⟨_, bP A j [l], by simp [hl], ?_, rfl⟩⟩;have key := S.re (i := j) (v := .ref l) (sl := .od o') (l := [l]) (H2 := H') (by rw [List.length_append]; omega) (by rw [List.length_append]; omega) ((yu (m := .d o) (S.same.trans s1) (S.new j l (by rw [e2]; simp)) (s1.at e3 o.nt)).trans sm) (fun b u e n hb => sm.get b u (by rw [jo (by rw [e2] at hb; exact hb)]; exact s1.get b u e n) n) kX (fun a ha => ?_) ⟨l, rfl, rfl, hl'⟩
 . rw [cn (by rw [getElem?_append_left hj]; exact e1), aX (by omega)] at key;exact key
 . have : a = l := by simpa using ha
   subst this;exact ⟨.inl (by rw [e2]; simp), .d o', hl'⟩
end
def pk (p : HQ) : List Key := [.inl (p.1 : Int), .inl (p.2 : Int)]
theorem tX {p q : HQ} (h : pk p = pk q) : p = q := by
 unfold pk at h;injection h with h1 h2;injection h2 with h2 _;injection h1 with h1;injection h2 with h2;exact Prod.ext (by omega) (by omega)
def e9 (m : List (HQ × Nat)) : List (List Key × V) := m.map fun q => (pk q.1, V.int (q.2 : Nat))
theorem nF : ∀ (m : List (HQ × Nat)) (p : HQ), cQ (e9 m) (pk p) = if p ∈ m.map (·.1) then some (V.int (cR m p : Nat)) else none
 | [], p => by rfl
 | a :: m, p => by
  have e : e9 (a :: m) = (pk a.1, V.int (a.2 : Nat)) :: e9 m := rfl;rw [e];by_cases h : a.1 = p
  . rw [jN (by rw [h]), if_pos (by simp [h])];unfold cR;rw [if_pos h]
  . have n : ¬ pk a.1 = pk p := fun z => h (tX z);have i2 : cQ ((pk a.1, V.int (a.2 : Nat)) :: e9 m) (pk p) = cQ (e9 m) (pk p) := by simp [cQ, n]
    have ev : cR (a :: m) p = cR m p := by simp only [cR]; rw [if_neg h]
    rw [i2, nF m p, ev];by_cases z : p ∈ m.map (·.1)
    . rw [if_pos z, if_pos (by simp only [map_cons, mem_cons]; exact .inr z)]
    . rw [if_neg z, if_neg (by simp only [map_cons, mem_cons, not_or]; exact ⟨Ne.symm h, z⟩)]
theorem yq (m : List (HQ × Nat)) (p : HQ) : (cQ (e9 m) (pk p)).getD (V.int 0) = V.int (cR m p : Nat) := by
 rw [nF];by_cases z : p ∈ m.map (·.1)
 . rw [if_pos z]; rfl
 . rw [if_neg z, qH z]; rfl
theorem Ar {p : List Key × V} {r : List (List Key × V)} {k : List Key} {v : V} (h : p.1 = k) (hn : k ∉ r.map (·.1)) : putK (p :: r) k v = (k, v) :: r := by
 unfold putK;rw [if_pos (by simp [h]), map_cons, if_pos h, h];congr 1;have : ∀ q ∈ r, (if q.1 = k then (q.1, v) else q) = q := fun q hq => if_neg fun z => hn (mem_map.mpr ⟨q, hq, z⟩);rw [map_congr_left this, List.map_id']
theorem zg {p : List Key × V} {r : List (List Key × V)} {k : List Key} {v : V} (h : ¬ p.1 = k) : putK (p :: r) k v = p :: putK r k v := by
 unfold putK;by_cases z : (r.any fun kv => decide (kv.1 = k)) = true
 . rw [if_pos (by simp only [List.any_cons, Bool.or_eq_true]; exact .inr z), if_pos z, map_cons, if_neg h]
 . rw [if_neg (by simp only [List.any_cons, Bool.or_eq_true, not_or]; exact ⟨by simpa using h, z⟩), if_neg z]; rfl
theorem sZ : ∀ (m : List (HQ × Nat)) (p : HQ) (v : Nat), (m.map (·.1)).Nodup -> putK (e9 m) (pk p) (V.int (v : Nat)) = e9 (xi m p v)
 | [], p, v, _ => rfl
 | a :: m, p, v, nd => by
  have e : e9 (a :: m) = (pk a.1, V.int (a.2 : Nat)) :: e9 m := rfl;obtain ⟨n1, n2⟩ := nodup_cons.mp nd;rw [e];unfold xi;by_cases h : a.1 = p
  . rw [if_pos h, Ar (by rw [h])]
    . rfl
    . intro z;unfold e9 at z;rw [map_map] at z;obtain ⟨q, hq, e2⟩ := mem_map.mp z;exact n1 (mem_map.mpr ⟨q, hq, by show q.1 = a.1; rw [h]; exact tX e2⟩)
  . rw [if_neg h, zg (fun z => h (tX z)), sZ m p v n2];rfl
theorem sM (m : List (HQ × Nat)) : (e9 m).length = m.length := by unfold e9; rw [length_map]
def gK (g : List (Nat × List Nat)) : List Key := g.map fun e => (.inl (e.1 : Int) : Key)
def gD (g : List (Nat × List Nat)) : List (List D) := g.map fun e => e.2.map fun a => D.int (a : Nat)
theorem yL : ∀ (g : List (Nat × List Nat)) (p : HQ), oy (gK g) (.inl (p.1 : Int)) = gK (jf g p) /\ qZ (gK g) (gD g) (.inl (p.1 : Int)) (.int (p.2 : Nat)) = gD (jf g p)
 | [], p => ⟨rfl, rfl⟩
 | e :: g, p => by
  obtain ⟨i1, i2⟩ := yL g p;have ek : gK (e :: g) = (.inl (e.1 : Int) : Key) :: gK g := rfl;have ed : gD (e :: g) = (e.2.map fun a => D.int (a : Nat)) :: gD g := rfl;unfold jf;by_cases h : e.1 = p.1
  . rw [if_pos h, ek, ed];have q : ((.inl (e.1 : Int) : Key) :: gK g).findIdx? (· = (.inl (p.1 : Int) : Key)) = some 0 := by rw [List.findIdx?_cons, if_pos (by rw [h]; simp)]
    unfold oy qZ;rw [q];refine ⟨rfl, ?_⟩;simp [gD]
  . have hn : ¬ ((.inl (e.1 : Int) : Key) = .inl (p.1 : Int)) := fun z => h (by injection z with z; omega);rw [if_neg h, ek, ed];unfold oy at i1 ⊢;unfold qZ at i2 ⊢;rw [List.findIdx?_cons, if_neg (by simpa using hn)]
    cases q : (gK g).findIdx? (· = (.inl (p.1 : Int) : Key)) with
    | none =>
     rw [q] at i1 i2;refine ⟨?_, ?_⟩
     . show (Sum.inl (e.1 : Int) :: gK g) ++ [_] = _;rw [cons_append];exact congrArg _ i1
     . show ((e.2.map fun a => D.int (a : Nat)) :: gD g) ++ [_] = _;rw [cons_append];exact congrArg _ i2
    | some j =>
     rw [q] at i1 i2;refine ⟨congrArg _ i1, ?_⟩;show ((e.2.map fun a => D.int (a : Nat)) :: gD g).set (j + 1) _ = _;rw [List.set_cons_succ];exact congrArg _ i2
theorem BC {Q : Nat -> Prop} {ps : HC} : (∀ p ∈ ps, Q p.1) -> ∀ e ∈ lQ ps, Q e.1 := by
 have add : ∀ (g : List (Nat × List Nat)) (p : HQ), Q p.1 -> (∀ e ∈ g, Q e.1) -> ∀ e ∈ jf g p, Q e.1 := fun g p hp => by
  induction g with
  | nil => intro _ e he; simp [jf] at he; subst he; exact hp
  | cons a g ih =>
   intro h e he;unfold jf at he;split at he
   . rcases mem_cons.mp he with rfl | he
     . exact h a (by simp)
     . exact h e (by simp [he])
   . rcases mem_cons.mp he with rfl | he
     . exact h e (by simp)
     . exact ih (fun x hx => h x (by simp [hx])) e he
 refine dI (p := fun ps => (∀ p ∈ ps, Q p.1) -> ∀ e ∈ lQ ps, Q e.1) (fun _ e he => by simp [lQ] at he) (fun ps p ih h => ?_) ps;rw [kh];exact add _ _ (h p (by simp)) (ih fun q hq => h q (by simp [hq]))
def qA (ds : List D) (d : D) : Prop := ∃ ps : List Pt, ps.length <= 900 /\ ds = [bC ps] /\ d = aj (fw ps)
def qM (ds : List D) (d : D) : Prop := ∃ (rows : HA) (ws : HL), lI rows < 64 /\ rows.length <= 60 /\ ds = [bg rows, ei (ax rows), aj ws] /\ d = ei (fV rows ws)
def tZ (ds : List D) (ks : List Key) (dss : List (List D)) : Prop := ∃ ps : List HQ, ps.length <= 200 /\ ds = [ei ps] /\ ks = gK (lQ ps) /\ dss = gD (lQ ps)
def qY (k : Nat) (ds : List D) (d : D) : Prop := ∃ (rows : HA) (q : List (List Pt)), nU q k /\ (∀ ps ∈ q, ps.length <= 900) /\ q.length <= 900 /\ rows.length <= 14 /\ lI rows <= 13 /\ ds = [bg rows, ei (ax rows), aL q] /\ d = .lst ((jd rows q rows.length).map wD)
theorem pV {rows : HA} {r : Nat} (h : r < rows.length) : (rows.getD r []).length <= lI rows := ug (by rw [List.getD_eq_getElem?_getD, List.getElem?_eq_getElem h]; exact getElem_mem h)
theorem vb {rows : HA} {m : List (HQ × Nat)} (h : d8 rows m) : m.length <= lI rows + rows.length := by
 have a := (gJ h).length_eq;rw [length_map] at a;have b := length_filter_le (fun p => decide (p ∈ m.map (·.1))) (ot rows);have c : (ot rows).length = lI rows + rows.length := by
  have e : ot rows = (List.range rows.length).flatMap fun r => (List.range ((rows.getD r []).length + 1)).map fun a => (r, a) := rfl;have : ∀ n, n <= rows.length -> ((List.range n).flatMap fun r => (List.range ((rows.getD r []).length + 1)).map fun a => (r, a)).length = (dj rows n).length + n := fun n hn => by
   induction n with
   | zero => simp [dj]
   | succ n ih =>
    rw [range_succ, List.flatMap_append, List.length_append, ih (by omega), gi, List.length_append];simp;omega
  rw [e, this _ (Nat.le_refl _)];have := nE rows;unfold gh at this;omega
 unfold cW at a;omega
theorem zJ {rows : HA} (h1 : rows.length <= 14) (h2 : lI rows <= 13) (q : List (List Pt)) {ps : HC} (hp : ∀ p ∈ ps, placeOk rows p) : (dh rows q ps).length <= ps.length * 14 := by
 induction ps with
 | nil => simp [dh]
 | cons p ps ih =>
  have ih := ih fun x hx => hp x (mem_cons_of_mem _ hx);obtain ⟨a, b⟩ := hp p (by simp);have c := pV a;have e : dh rows q (p :: ps) = ((dH (mQ (rows.getD p.1 []) q (1 <<< p.2))).map fun t => (p.1, p.2, t)) ++ dh rows q ps := by simp [dh]
  have l := i8 (oX q (eR (show p.2 < (rows.getD p.1 []).length + 1 by omega)));rw [e, List.length_append, length_map, length_cons];omega
section
variable {X : Cx} {F : Fn} {ρ : b0} {Q : iu} {rest : List Stmt} {pos p : Pos}
theorem xU (i : Nat) {x : Str} {p2 : Pos} (fr : Bool) (hr : SD X F rest (ρ.set i (some (.gen (sE fr [] [])))) Q) (hN : X.N.Nodup) (hi : X.N[i]? = some x := by rfl)
 (hx : Loc X.env.scope x := by first | exact Or.inl rfl | exact Or.inr rfl) (hρ : i < ρ.length := by exact of_decide_eq_true rfl) (hs : swapsWith (.Dict [] [] p2) (some (.Name x p)) pos.line X.env = pure false := by rfl) (hf : HfX X x := by first | exact .inl rfl | exact .inr rfl) :
 SD X F (.Assign [.Name x p] (.Dict [] [] p2) pos :: rest) ρ Q :=
 bB (PS.mono (jK hN hi hx (B2 (ρ := view true false ρ)) hs hf) fun Q' σ H z0 => fF z0 fun hv hρ' A hl S f => ⟨_, aF S true false, S.env hl true false, fun v H1 s1 i1 => by
  obtain ⟨l, rfl, e1, e2⟩ := bw.mp i1;refine f.nx _ H1 ⟨_, bP A i [l], by simp [hl], ?_, rfl⟩;rw [<- aX (by omega), <- aX hρ];exact S.put (by rw [List.length_append]; omega) (by rw [List.length_append]; omega) s1 kX (fun a ha => by
   have : a = l := by simpa using ha
   subst this;exact ⟨e2, .d (.k []), e1⟩) ⟨l, [], rfl, rfl, rfl, e1, .nil⟩⟩) hr
theorem xB (i : Nat) {st : List Stmt} {o : DO} (h : ρ[i]? = some (some (.od o)) := by rfl) (hr : SD X F st (ρ.set i (some (.pl true (.dct o)))) Q) : SD X F st ρ Q := nV.mono hr fun Q' σ H z0 => fF z0 fun hv hρ A hl S f => by
 obtain ⟨l, e1, e2, e3⟩ := S.od hl h;have hi : i < σ.length := (List.getElem?_eq_some_iff.mp e1).1;refine ⟨hv, hρ, bP A i [], by simp [hl], ?_, f⟩;have key := S.re (i := i) (v := .ref l) (sl := .pl true (.dct o)) (l := []) (H2 := H) (by rw [List.length_append]; omega) (by rw [List.length_append]; omega) S.same (fun b o e _ hb => e) List.nodup_nil (fun a ha => by simp at ha) ((bw (K := X.K) (H := H) (Z := zn F (aG (bP A i [])) true)).mpr ⟨l, rfl, e3, ?_⟩)
 . rw [cn (by rw [getElem?_append_left hi]; exact e1), aX (by omega)] at key;exact key
 . refine ⟨S.new i l (by rw [e2]; simp), fun ⟨k, hk⟩ => ?_⟩;by_cases q : k = i
   . rw [q, aY] at hk; simp at hk
   . rw [bM q] at hk; exact q (S.one k i l hk (by rw [e2]; simp))
end
def fN (c : Int) (k : Nat) : Nat := (1 + part c (52 + (k : Nat)) 3).toNat
theorem rN (c : Int) (k : Nat) : fN c k <= 3 /\ 1 <= fN c k /\ ((fN c k : Nat) : Int) = 1 + part c (52 + (k : Nat)) 3 := by
 have a := cL c (52 + (k : Nat)) (m := 3) (by decide);have b := eJ c (52 + (k : Nat)) (m := 3) (by decide);unfold fN;omega
def u5 (ws : HL) (c : Int) (n : Nat) : List Str := (List.range n).map fun j => ws.getD (part c (60 + (j : Nat)) 4).toNat ""
def gT (ws row : HL) (c : Int) (k : Nat) : List Str :=
 if (decide (row.take (fN c k) = []) || decide (part c (55 + (k : Nat)) 2 = 1)) = true then u5 ws c (fN c k) else row.take (fN c k)
def oN (c : Int) : Nat := (1 + part c 51 2).toNat
theorem rA (c : Int) : oN c <= 2 /\ ((oN c : Nat) : Int) = 1 + part c 51 2 := by
 have a := cL c 51 (m := 2) (by decide);have b := eJ c 51 (m := 2) (by decide);unfold oN;omega
def uD (rows : HA) (c : Int) : Nat := (part c 50 (rows.length : Nat)).toNat
theorem vO {rows : HA} (h : 0 < rows.length) (c : Int) : uD rows c < rows.length /\ ((uD rows c : Nat) : Int) = part c 50 (rows.length : Nat) := by
 have a := cL c 50 (m := (rows.length : Nat)) (by omega);have b := eJ c 50 (m := (rows.length : Nat)) (by omega);unfold uD;omega
def eB (ws row : HL) (c : Int) (n : Nat) : List (List Pt) := (List.range n).map fun k => (gT ws row c k).map Pt.word
def kN (ws : HL) (rows : HA) (c : Int) : List (List Pt) := eB ws (rows.getD (uD rows c) []) c (oN c)
theorem oH (ws row : HL) (c : Int) (k : Nat) : (gT ws row c k).length <= 3 := by
 have := (rN c k).1;unfold gT u5;split
 . rw [length_map, length_range]; exact this
 . rw [length_take]; omega
theorem zp {ws : HL} (h : bH ws) {c : Int} {n : Nat} {z : Str} (hz : z ∈ u5 ws c n) : z ∈ ws := by
 obtain ⟨j, _, rfl⟩ := mem_map.mp hz;have a := cL c (60 + (j : Nat)) (m := 4) (by decide);have b := eJ c (60 + (j : Nat)) (m := 4) (by decide);exact (h.get (i := (part c (60 + (j : Nat)) 4).toNat) (by omega)).1
theorem xR {ws row : HL} (h : bH ws) (hr : ∀ z ∈ row, z ∈ ws) {c : Int} {k : Nat} {z : Str} (hz : z ∈ gT ws row c k) : z ∈ ws := by
 unfold gT at hz;split at hz
 . exact zp h hz
 . exact hr z (List.mem_of_mem_take hz)
theorem wJ (ws row : HL) (c : Int) (n : Nat) : nU (eB ws row c n) 9 := jm fun ps hps => by
 obtain ⟨k, _, rfl⟩ := mem_map.mp hps;exact gp fun p hp => by
  obtain ⟨z, _, rfl⟩ := mem_map.mp hp;simp [eD]
theorem xO {ws row : HL} (h : bH ws) (hr : ∀ z ∈ row, z ∈ ws) (c : Int) (n : Nat) : tm (eB ws row c n) := g9 fun ps hps => by
 obtain ⟨k, _, rfl⟩ := mem_map.mp hps;exact iI fun p hp => by
  obtain ⟨z, hz, rfl⟩ := mem_map.mp hp;have := (h.2 z (xR h hr hz)).2;unfold gI;omega
theorem t9 {ws row : HL} {c : Int} {n : Nat} : ∀ ps ∈ eB ws row c n, ps.length <= 3 := fun ps hps => by
 obtain ⟨k, _, rfl⟩ := mem_map.mp hps;rw [length_map];exact oH _ _ _ _
def Af (ds : List D) (d : D) : Prop := ∃ (ws : HL) (rows : HA) (c : Int), bH ws /\ 0 < rows.length /\ rows.length <= 14 /\ (∀ r ∈ rows, r.length <= 13) /\ ds = [aj ws, bg rows, .int c] /\ d = aL (kN ws rows c)
def CC (ds : List D) (d : D) : Prop := ∃ (rows : HA) (q : List (List Pt)), nU q 9 /\ tm q /\ rows.length <= 14 /\ (∀ r ∈ rows, r.length <= 13 /\ ∀ z ∈ r, z.length <= 1000) /\ ds = [bg rows, aL q] /\ d = .lst ((jd rows q rows.length).map wD)
end Y
namespace Z
open PySem PySem.Spec PyProof.Rows L2 Y
section
variable [cq]
def top (i : Nat) : Stmt := PySem.Challenge.pw_besidewords_k46_whole_asked_by_ends.main.body.getD i (.Pass ⟨0, 0, 0, 0⟩)
abbrev fS : Stmt := top 1
abbrev mS : Stmt := top 2
abbrev bL : Stmt := top 3
abbrev cj : Stmt := top 4
abbrev cK : Stmt := top 5
abbrev fJ : Stmt := top 6
abbrev fI : Stmt := top 7
abbrev lg : Stmt := top 8
abbrev tT : Stmt := top 9
abbrev fW : Stmt := top 11
abbrev nc : Stmt := top 12
abbrev jh : Stmt := top 13
abbrev qx : Stmt := top 14
abbrev cZ : Stmt := top 15
abbrev cX : Stmt := top 16
abbrev fD : Stmt := top 18
abbrev iK : Stmt := top 19
abbrev fE : Stmt := top 20
abbrev gR : Stmt := top 21
abbrev m6 : Stmt := top 22
abbrev fH : Stmt := top 24
abbrev jk : Stmt := top 25
abbrev gW : Stmt := top 26
abbrev jJ : Stmt := top 27
abbrev du : Stmt := top 28
abbrev e7 : Stmt := top 29
abbrev h9 : Stmt := top 30
abbrev eO : Stmt := top 31
abbrev eK : Stmt := top 32
abbrev cU : Stmt := top 33
abbrev cY : Stmt := top 34
abbrev kK : Stmt := top 35
abbrev kz : Stmt := top 36
theorem nZ : aB ["whole"] ["whole"] (ah fS) := fs
theorem xH : aB ["wholes", "others"] ["wholes", "others"] (ah mS) := fs
theorem fb : aB ["question", "row", "wholes", "met", "parts"] ["question", "row", "wholes"] (ah bL) := fs
theorem gB : aB ["parts", "row", "wholes", "part"] ["parts", "row", "wholes"] (ah cj) := fs
theorem mF : aB ["part", "row", "wholes"] ["part", "row", "wholes"] (ah cK) := fs
theorem gM : aB ["most", "row", "wholes", "every", "more"] ["most", "row", "wholes"] (ah fJ) := fs
theorem mw : aB ["places", "wholes"] ["places", "wholes"] (ah fI) := fs
theorem nB : aB ["part", "row", "places", "at", "word"] ["part", "row"] (ah lg) := fs
theorem v7 : aB ["part", "word", "kind"] ["part", "word"] (ah tT) := fs
theorem iW : aB ["rows", "places", "row", "words", "at"] ["rows"] (ah fW) := fs
theorem xq : aB ["rows", "place"] ["rows", "place"] (ah nc) := fs
theorem se : aB ["rows", "place"] ["rows", "place"] (ah jh) := fs
theorem Bo : aB ["rows"] ["rows"] (ah qx) := fs
theorem iU : aB ["rows", "places", "words", "low", "high"] ["rows", "places", "words"] (ah cZ) := fs
theorem gw : aB ["rows", "places", "is_ahead", "low", "high", "middle"] ["rows", "places", "is_ahead"] (ah cX) := fs
theorem hJ : aB ["rows", "places", "question", "met", "parts", "told", "begin"] ["rows", "places", "question"] (ah fD) := fs
theorem mG : aB ["met", "rows", "places", "parts", "words", "rest", "row", "ats", "overs", "at", "whole"] ["met", "rows", "places", "parts"] (ah iK) := fs
theorem g5 : aB ["parts", "words", "part"] ["parts"] (ah fE) := fs
theorem jT : aB ["rows", "places", "words", "stretch"] ["rows", "places", "words"] (ah gR) := fs
theorem pJ : aB ["begins", "ats", "begin"] ["begins"] (ah m6) := fs
theorem nK : aB ["_law_script", "_law_k"] ["_law_script", "_law_k"] (ah fH) := fs
theorem sO : aB ["_law_cell", "_law_k", "_law_many"] ["_law_cell", "_law_k", "_law_many"] (ah jk) := fs
theorem kE : aB ["_law_one", "_law_other", "_law_signs", "_law_size", "_law_at", "_law_words_here", "_law_k", "_law_word", "_law_j", "_law_number"] ["_law_one", "_law_other"] (ah gW) := fs
theorem lC : aB ["_law_words_here", "_law_cells", "_law_rows_here", "_law_cell", "_law_k"] ["_law_words_here", "_law_cells"] (ah jJ) := fs
theorem fu : aB ["_law_words_here", "_law_cell", "_law_way", "_law_word", "_law_size"] ["_law_words_here", "_law_cell"] (ah du) := fs
theorem gz : aB ["_law_words_here", "_law_cells", "_law_question_here", "_law_cell", "_law_way"] ["_law_words_here", "_law_cells"] (ah e7) := fs
theorem qr : aB ["_law_part_here", "_law_word"] ["_law_part_here", "_law_word"] (ah h9) := fs
theorem iY : aB ["_law_part_here", "_law_row", "_law_froms", "_law_tos", "_law_to"] ["_law_part_here", "_law_row", "_law_froms"] (ah eO) := fs
theorem iT : aB ["_law_question_here", "_law_row", "_law_froms", "_law_tos", "_law_parts", "_law_here", "_law_part_here"] ["_law_question_here", "_law_row", "_law_froms"] (ah eK) := fs
theorem eV : aB ["_law_question_here", "_law_row", "_law_due_here", "_law_at"] ["_law_question_here", "_law_row"] (ah cU) := fs
theorem fg : aB ["_law_words_here", "_law_rows_here", "_law_cell", "_law_row", "_law_choices", "_law_k", "_law_size", "_law_some"] ["_law_words_here", "_law_rows_here", "_law_cell"] (ah cY) := fs
theorem mO : aB ["_law_rows_here", "_law_question_here", "_law_due_here", "_law_number"] ["_law_rows_here", "_law_question_here"] (ah kK) := fs
theorem yi : aB ["_law_script", "_law_words_here", "_law_rows_here", "_law_others", "_law_first", "_law_second", "_law_question_here", "_law_some", "_law_handed", "_law_places", "_law_found"] ["_law_script"] (ah kz) := fs
abbrev FI : List Str := ["_law_cell", "_law_k", "_law_many"]
structure gE (mg : HE) : Prop where
 enumerate : mg "enumerate" = none
 isinstance : mg "isinstance" = none
 len : mg "len" = none
 list : mg "list" = none
 range : mg "range" = none
 sorted : mg "sorted" = none
 tuple : mg "tuple" = none
 zip : mg "zip" = none
section
variable {P : Program} {w : World} {K : Frag} {mg : HE} {base : Heap} {f : Addr} {fd : FuncData}
theorem nR (Fx : eg K "_law_cell_at" "_law_cell_at" fH f fd) (hmg : mg "_law_cell_at" = some (.ref f)) (hb : Binds K fd ["_law_script", "_law_k"] []) (B : gE mg) : Def P w K mg base 1 "_law_cell_at" true qR := by
 refine bq Fx nK hmg hb (by rintro ds d ⟨ns, k, hz, e1, e2⟩; subst e1; rfl) ?_;rintro cdv A outer s H Ex Z ds d hr ⟨ns, k, hz, e1, e2⟩;subst e1 e2;refine aO (y4 (aa 1) (dw (aa 0) B.len)) (fun h => ?_) (fun h => ?_)
 . refine aD false (m1 := true) (E.flat (gx (d := .int (cellAt ns k)) (aa 0) (aa 1) ?_) rfl) rfl;simp at h;refine dY ?_;simp [cellAt, h]
 . refine ai ?_;refine aD false (E.cast ag ?_) rfl;simp at h;simp [cellAt, h]
theorem r9 (Fx : eg K "_law_part" "_law_part" jk f fd) (hmg : mg "_law_part" = some (.ref f)) (hb : Binds K fd FI []) (B : gE mg) : Def P w K mg base 1 "_law_part" true pg := by
 refine bq Fx sO hmg hb (by rintro ds d ⟨c, k, m, hm, e1, e2⟩; subst e1; rfl) ?_;rintro cdv A outer s H Ex Z ds d hr ⟨c, k, m, hm, e1, e2⟩;subst e1 e2;have h1 := Int.emod_nonneg c (show (99991 : Int) ≠ 0 by decide);have h2 := Int.emod_lt_of_pos c (show (0 : Int) < 99991 by decide);have h3 := Int.emod_nonneg ((c % 99991 + 17) * (48271 + 7919 * k)) (show (65537 : Int) ≠ 0 by decide);have h4 := Int.emod_lt_of_pos ((c % 99991 + 17) * (48271 + 7919 * k)) (show (0 : Int) < 65537 by decide);exact aD false (oE (oE (zZ (oE (zZ (cE (oE (aa 0) ag (by decide)) ag) (cE ag (zZ ag (aa 1) (.inl ⟨by decide, by decide⟩))) (.inl ⟨by omega, by omega⟩)) ag (by decide)) (cE (aa 1) ag) (.inl ⟨by omega, by omega⟩)) ag (by decide)) (aa 2) hm) rfl
theorem qk (Fx : eg K "_law_words" "_law_words" gW f fd) (hmg : mg "_law_words" = some (.ref f)) (hb : Binds K fd ["_law_one", "_law_other"] []) (B : gE mg) (dP : Def P w K mg base 1 "_law_part" true pg) : Def P w K mg base 2 "_law_words" true vY := by
 refine bq Fx kE hmg hb (by rintro ds d ⟨one, other, e1, e2⟩; subst e1; rfl) ?_;rintro cdv A outer s H Ex Z ds d hr ⟨one, other, e1, e2⟩;subst e1 e2;have nd := kE.nd;have hsz : 1 <= eh one := by have := cL one 0 (show (0 : Int) < 12 by decide); unfold eh; omega
 refine aQ 2 aS rfl ?_ nd;refine aQ 3 (d := .int (eh one)) (cE ag (ay dP hr (ab (aa 0) (ab ag (aq ag))) ⟨_, _, _, by decide, rfl, rfl⟩)) rfl ?_ nd;refine aQ 4 (d := .int (EU one other)) (ay dP hr (ab (aa 1) (ab ag (aq (aa 3)))) ⟨_, _, _, by omega, rfl, rfl⟩) rfl ?_ nd;refine fG 5 (cN bV) rfl ?_ nd;refine cC 6 (ds := bE 0 4) (fun n r => ∃ o6 o7 o8 o9, r = [some (.pl false (.int one)), some (.pl false (.int other)), some (.pl true (.str AM)), some (.pl true (.int (eh one))), some (.pl true (.int (EU one other))), some (.ow true (((List.range n).map fun k => g7 one other (0 + (k : Nat))).map D.str)), o6, o7, o8, o9] /\ n <= 4)
  (kB (n := 4) (m := true) ag (by decide) (by decide) B.range) (fun d hd => by obtain ⟨i, _, rfl⟩ := mem_map.mp hd; rfl) ⟨_, _, _, _, rfl, by decide⟩ (by rintro n r ⟨_, _, _, _, e, _⟩; subst e; simp) ?_ ?_ nd
 . rintro n d r hd ⟨o6, o7, o8, o9, e, hn⟩;subst e;obtain ⟨hn4, rfl⟩ := gm hd;refine aQ 7 aS rfl ?_ nd;refine cC 8 (ds := bE 0 12) (fun m r => ∃ o8 o9, r = [some (.pl false (.int one)), some (.pl false (.int other)), some (.pl true (.str AM)), some (.pl true (.int (eh one))), some (.pl true (.int (EU one other))), some (.ow true (((List.range n).map fun k => g7 one other (0 + (k : Nat))).map D.str)), some (.pl true (.int (0 + (n : Nat)))), some (.pl true (.str (d7 one other (0 + (n : Nat)) m))), o8, o9] /\ m <= 12)
    (kB (n := 12) (m := true) ag (by decide) (by decide) B.range) (fun d hd => by obtain ⟨i, _, rfl⟩ := mem_map.mp hd; rfl) ⟨_, _, rfl, by decide⟩ (by rintro n r ⟨_, _, e, _⟩; subst e; simp) (fun m d r hd ⟨o8, o9, e, hm⟩ => ?_) (fun r ⟨o8, o9, e, hm⟩ => ?_) nd
   . subst e;obtain ⟨hm12, rfl⟩ := gm hd;refine aQ 9 (ay dP hr (ab (aa 0) (ab (cE (aa 8) ag) (aq ag))) ⟨_, _, _, by decide, rfl, rfl⟩) rfl ?_ nd;have hlen := iH one other (0 + (n : Nat)) m;refine yr [some (.pl false (.int one)), some (.pl false (.int other)), some (.pl true (.str AM)), some (.pl true (.int (eh one))), some (.pl true (.int (EU one other))), some (.ow true (((List.range n).map fun k => g7 one other (0 + (k : Nat))).map D.str)), some (.pl true (.int (0 + (n : Nat)))), some (.pl true (.str (d7 one other (0 + (n : Nat)) m))), some (.pl true (.int (0 + (m : Nat)))), some (.pl true (.int (uo one other (0 + (n : Nat)) (0 + (m : Nat)))))]
      (TW.t (um (gv (aa 8) (aa 4)) fun _ => uY (gv (ay dP hr (ab (aa 1) (ab ag (aq ag))) ⟨_, _, _, by decide, rfl, rfl⟩) ag))) (fun h => ?_) (fun h => ?_) ?_
     . refine aQ 9 (cE (aa 9) (aa 6)) rfl ?_ nd;refine ai ?_;simp at h;unfold uo;rw [if_pos (by simpa using h)];rfl
     . refine ai ?_;unfold uo;rw [if_neg (by simpa using h)];rfl
     . refine aQ 7 (DZ (aa 7) (FC (aa 2) (oE (aa 9) ag (by decide)) (by decide +kernel) (Bz _)) (bh (by show _ + 1 <= 1000; omega))) rfl ?_ nd;refine ai ⟨some (.pl true (.int (0 + (m : Nat)))), some (.pl true (.int (uo one other (0 + (n : Nat)) (0 + (m : Nat))))), ?_, hm12⟩;rw [uJ];rfl
   . subst e;have hlen := iH one other (0 + (n : Nat)) (bE 0 12).length;have h12 : (bE 0 12).length = 12 := bp;rw [h12] at hlen;have nx : ∀ (l : Int), l = (if part other 20 2 = 0 then eh one else 1 + (eh one + (0 + (n : Nat))) % 12) -> ((List.range n).map fun k => g7 one other (0 + (k : Nat))).map D.str ++ [D.str (Txt.slice (d7 one other (0 + (n : Nat)) 12) none (some l))] = ((List.range (n + 1)).map fun k => g7 one other (0 + (k : Nat))).map D.str := fun l hl => by
      rw [range_succ, map_append, map_append, hl]; rfl
     refine aO (gv (ay dP hr (ab (aa 1) (ab ag (aq ag))) ⟨_, _, _, by decide, rfl, rfl⟩) ag) (fun h => ?_) (fun h => ?_)
     . refine fR 5 true rfl (oR (aa 7) d4 (bI (aa 3)) (bh (by rw [h12, hlen]; decide))) rfl (by simp; omega) ?_;refine ai (ai ⟨some (.pl true (.int (0 + (n : Nat)))), some (.pl true (.str (d7 one other (0 + (n : Nat)) 12))), o8, o9, ?_, hn4⟩);rw [h12, <- nx _ (by simp at h; rw [if_pos h])];rfl
     . refine fR 5 true rfl (oR (aa 7) d4 (bI (cE ag (oE (cE (aa 3) (aa 6)) ag (by decide)))) (bh (by rw [h12, hlen]; decide))) rfl (by simp; omega) ?_;refine ai (ai ⟨some (.pl true (.int (0 + (n : Nat)))), some (.pl true (.str (d7 one other (0 + (n : Nat)) 12))), o8, o9, ?_, hn4⟩);rw [h12, <- nx _ (by simp at h; rw [if_neg h])];rfl
 . rintro r ⟨o6, o7, o8, o9, e, hn⟩;subst e;have h4 : (bE 0 4).length = 4 := bp;refine aD true (E.cast (aa 5) ?_) rfl;rw [h4];rfl
theorem sD (Fx : eg K "_law_rows" "_law_rows" jJ f fd) (hmg : mg "_law_rows" = some (.ref f)) (hb : Binds K fd ["_law_words_here", "_law_cells"] []) (B : gE mg) (dP : Def P w K mg base 1 "_law_part" true pg) : Def P w K mg base 2 "_law_rows" true ym := by
 refine bq Fx lC hmg hb (by rintro ds d ⟨ws, cells, h4, hc, e1, e2⟩; subst e1; rfl) ?_;rintro cdv A outer s H Ex Z ds d hr ⟨ws, cells, h4, hc, e1, e2⟩;subst e1 e2;have nd := lC.nd;refine yW 2 (m9 (d9 (cN bV) iO)) ?_ nd;refine cC 3 (ds := cells.map D.int) (fun n r => ∃ o3 o4, r = [some (.pl false (aj ws)), some (.pl false (vd cells)), some (.kI true ((bY ws (cells.take n)).map fun r => r.map D.str)), o3, o4])
  (bc (aa 1)) (fun d hd => by obtain ⟨i, _, rfl⟩ := mem_map.mp hd; rfl) ⟨_, _, rfl⟩ (by rintro n r ⟨_, _, e⟩; subst e; simp) ?_ ?_ nd
 . rintro n d r hd ⟨o3, o4, e⟩;subst e;rw [getElem?_map] at hd
   cases hcn : cells[n]? with
   | none => rw [hcn] at hd; cases hd
   | some c =>
    rw [hcn] at hd;cases hd;have hn : n < cells.length := (List.getElem?_eq_some_iff.mp hcn).1;have ht : cells.take (n + 1) = cells.take n ++ [c] := by rw [take_add_one, hcn]; rfl
    have hl := oZ ws (cells.take n);obtain ⟨init, last, er⟩ := eZ ws (cells.take n);rw [er] at hl;have hlast : last.length <= 63 := by
     have := (hl.2 last (by simp)).1;simp at this; omega
    have hinit : init.length <= 63 := by
     have := hl.1;simp at this; omega
    refine aQ 4 (ay dP hr (ab (aa 3) (ab ag (aq ag))) ⟨_, _, _, by decide, rfl, rfl⟩) rfl ?_ nd;have p0 := cL c 21 (show (0 : Int) < 6 by decide);rw [er, map_append];refine aO (y4 (aa 4) ag) (fun h => ?_) (fun h => ?_)
    . have h5 : part c 21 6 < 5 := by simpa using h
      have hi := uT p0 h5;refine nh 2 (dss := init.map fun r => r.map D.str) (ds := last.map D.str) true rfl (zB ag) (gx (d := .str (nH ws c)) (aa 0) (gx (cN (ab ag (ab ag (ab ag (ab ag (aq ag)))))) (aa 4) (Gd p0 h5)) (dY (jY (by omega)))) rfl (by simp; omega) ?_;refine ai (ai ⟨some (.pl true (.int c)), some (.pl true (.int (part c 21 6))), ?_⟩);rw [ht, dy, er];unfold lD;rw [if_pos h5];simp [List.set]
    . have h5 : ¬ part c 21 6 < 5 := by simpa using h
      refine rS 2 true rfl (cN bV) (by simp; omega) ?_;refine ai (ai ⟨some (.pl true (.int c)), some (.pl true (.int (part c 21 6))), ?_⟩);rw [ht, dy, er];unfold lD;rw [if_neg h5];simp [List.set]
 . rintro r ⟨o3, o4, e⟩;subst e;refine aD true (E.cast (aa 2) ?_) rfl;rw [length_map, take_length, map_map];rfl
theorem AQ (Fx : eg K "fits" "fits" tT f fd) (hmg : mg "fits" = some (.ref f)) (hb : Binds K fd ["part", "word"] []) (B : gE mg) : Def P w K mg base 1 "fits" true CM := by
 refine bq Fx v7 hmg hb (by rintro ds d ⟨p, z, hp, e1, e2⟩; subst e1; rfl) ?_;rintro cdv A outer s H Ex Z ds d hr ⟨p, z, hp, e1, e2⟩;subst e1 e2;have nd := v7.nd
 cases p with
 | upto n => exact False.elim hp
 | eY q => exact False.elim hp
 | beg u =>
  rw [show cH (.beg u) = .tup [.str "begin", .str u] by simp [cH]];refine aQ 2 (d := .str "begin") (aI (aa 0) ag (aP _ _)) rfl ?_ nd;refine aO (bS (i := "begin") (j := "begin") (aa 2) aS) (fun h => ?_) (fun h => by exfalso; revert h; decide +kernel);exact aD false (yh (aa 1) (aI (d := .str u) (aa 0) ag rfl)) rfl
 | fin u =>
  rw [show cH (.fin u) = .tup [.str "end", .str u] by simp [cH]];refine aQ 2 (d := .str "end") (aI (aa 0) ag (aP _ _)) rfl ?_ nd;refine aO (bS (i := "end") (j := "begin") (aa 2) aS) (fun h => by exfalso; revert h; decide +kernel) (fun h => ai ?_);refine aO (bS (i := "end") (j := "end") (aa 2) aS) (fun h => ?_) (fun h => by exfalso; revert h; decide +kernel);exact aD false (DJ (aa 1) (aI (d := .str u) (aa 0) ag rfl)) rfl
 | any =>
  rw [show cH .any = .tup [.str "any"] by simp [cH]];refine aQ 2 (d := .str "any") (aI (aa 0) ag (aP _ _)) rfl ?_ nd;refine aO (bS (i := "any") (j := "begin") (aa 2) aS) (fun h => by exfalso; revert h; decide +kernel) (fun h => ai ?_);refine aO (bS (i := "any") (j := "end") (aa 2) aS) (fun h => by exfalso; revert h; decide +kernel) (fun h => ai ?_);refine aD false (E.cast (EE (q := true) (m2 := true) (pF (i := "any") (j := "any") (aa 2) aS) (fun h => by exfalso; revert h; decide +kernel)) ?_) rfl;simp [fm]
 | word u =>
  rw [show cH (.word u) = .tup [.str "word", .str u] by simp [cH]];refine aQ 2 (d := .str "word") (aI (aa 0) ag (aP _ _)) rfl ?_ nd;refine aO (bS (i := "word") (j := "begin") (aa 2) aS) (fun h => by exfalso; revert h; decide +kernel) (fun h => ai ?_);refine aO (bS (i := "word") (j := "end") (aa 2) aS) (fun h => by exfalso; revert h; decide +kernel) (fun h => ai ?_);refine aD false (E.cast (EE (q := decide (z = u)) (pF (i := "word") (j := "any") (aa 2) aS) (fun h => Y.Cz (pF (aa 1) (aI (d := .str u) (aa 0) ag rfl)))) ?_) rfl;rw [show decide (("word" : Str) = "any") = false by decide +kernel, Bool.false_or];rfl
theorem uF (Fx : eg K "fitting" "fitting" lg f fd) (hmg : mg "fitting" = some (.ref f)) (hb : Binds K fd ["part", "row"] []) (B : gE mg) (dF : Def P w K mg base 1 "fits" true CM) : Def P w K mg base 2 "fitting" true hW := by
 refine bq Fx nB hmg hb (by rintro ds d ⟨p, row, hp, hl, e1, e2⟩; subst e1; rfl) ?_;rintro cdv A outer s H Ex Z ds d hr ⟨p, row, hp, hl, e1, e2⟩;subst e1 e2;have nd := nB.nd;refine aQ 2 Fl rfl ?_ nd;refine p5 3 4 false (ds := nk (row.map D.str)) (fun n r => ∃ o3 o4, r = [some (.pl false (cH p)), some (.pl false (aj row)), some (.pl true (.int ((fB (fun i => fm p (row.getD i "")) n : Nat) : Int))), o3, o4])
  (vH (aa 1) B.enumerate) ⟨_, _, rfl⟩ (by rintro n r ⟨_, _, e⟩; subst e; simp) (fun d hd => by
   obtain ⟨i, _, rfl⟩ := mem_map.mp hd;exact ⟨_, _, rfl⟩) (fun n d1 d2 r hd ⟨o3, o4, e⟩ => ?_) (fun r ⟨o3, o4, e⟩ => ?_) nd
 . subst e;obtain ⟨d', hd', e⟩ := kU hd;cases e;rw [getElem?_map] at hd'
   cases hrow : row[n]? with
   | none => rw [hrow] at hd'; cases hd'
   | some z =>
    rw [hrow] at hd';cases hd';have hn := (List.getElem?_eq_some_iff.mp hrow).1;have hz : row.getD n "" = z := by rw [List.getD_eq_getElem?_getD, hrow]; rfl
    refine aO (yY (ay dF hr (ab (aa 0 (hn := cM p)) (aq (aa 4))) ⟨p, z, hp, rfl, rfl⟩)) (fun h => ?_) (fun h => ?_)
    . refine aQ 2 (uA (aa 2) (tL (i := 1) (n := n) Bj (aa 3) (by decide) (by omega))) rfl ?_ nd;refine ai (ai ⟨some (.pl false (.int (n : Nat))), some (.pl false (.str z)), ?_⟩);rw [show fB (fun i => fm p (row.getD i "")) (n + 1) = fB (fun i => fm p (row.getD i "")) n ||| 1 <<< n by
       show (if _ then _ else _) = _;rw [if_pos (by show fm p (row.getD n "") = true; rw [hz]; exact h)]]
      rfl
    . refine ai (ai ⟨some (.pl false (.int (n : Nat))), some (.pl false (.str z)), ?_⟩);rw [show fB (fun i => fm p (row.getD i "")) (n + 1) = fB (fun i => fm p (row.getD i "")) n by
       show (if _ then _ else _) = _;rw [if_neg (by show ¬ fm p (row.getD n "") = true; rw [hz, h]; simp)]]
      rfl
 . subst e;refine aD true (E.cast (aa 2) ?_) rfl;rw [kS, length_map];rfl
theorem mJ (Fx : eg K "behind_word" "behind_word" fI f fd) (hmg : mg "behind_word" = some (.ref f)) (hb : Binds K fd ["places", "wholes"] []) (B : gE mg) : Def P w K mg base 1 "behind_word" true ny := by
 refine bq Fx mw hmg hb (by rintro ds d ⟨pl, ws, h1, h2, e1, e2⟩; subst e1; rfl) ?_;rintro cdv A outer s H Ex Z ds d hr ⟨pl, ws, h1, h2, e1, e2⟩;subst e1 e2;refine aD false (E.cast (kc (m := true) (me := true) ["places"] [0] (fun d => match d with | .int i => .int ((dq pl i.toNat : Nat) : Int) | d => d) (bc (aa 1))
  (fun C s H fp d hd => ?_) (by rw [length_map]; exact bh h2)) ?_) rfl
 . obtain ⟨x, hx, rfl⟩ := mem_map.mp hd;have hlt : x &&& pl < 2 ^ 64 := Nat.lt_of_le_of_lt Nat.and_le_right (Nat.lt_trans h1 (by decide));exact tL (uU (aa 0) (aa 1)) Bj hlt (by decide)
 . simp [aJ, Function.comp_def]
theorem w5 (Fx : eg K "united" "united" mS f fd) (hmg : mg "united" = some (.ref f)) (hb : Binds K fd ["wholes", "others"] []) (B : gE mg) : Def P w K mg base 1 "united" true jZ := by
 refine bq Fx xH hmg hb (by rintro ds d ⟨a, b, h1, e1, e2⟩; subst e1; rfl) ?_;rintro cdv A outer s H Ex Z ds d hr ⟨a, b, h1, e1, e2⟩;subst e1 e2;have hpair : ∀ d ∈ lL (a.map fun n => D.int (n : Nat)) (b.map fun n => D.int (n : Nat)), ∃ x y, d = .tup [x, y] := fun d hd => by
  obtain ⟨i, _, rfl⟩ := mem_map.mp hd;exact ⟨_, _, rfl⟩
 refine aD false (E.cast (Aw (m := true) (me := true) [] [] (fun _ _ => true) G5 (yJ (aa 0) (aa 1) B.zip) hpair
  (fun C s H fp x y hd => t5) (fun C s H fp x y hd _ => ?_) (by rw [nD, length_map]; exact bh (by omega))).val ?_) rfl
 . obtain ⟨q, hq, e⟩ := mem_map.mp hd;cases e;obtain ⟨i, hi, e1⟩ := mem_map.mp (List.of_mem_zip hq).1;obtain ⟨j, hj, e2⟩ := mem_map.mp (List.of_mem_zip hq).2;rw [<- e1, <- e2];exact uA (aa 0) (aa 1)
 . rw [uf hpair];unfold aJ;rw [mj]
theorem mz (Fx : eg K "behind_upto" "behind_upto" fJ f fd) (hmg : mg "behind_upto" = some (.ref f)) (hb : Binds K fd ["most", "row", "wholes"] []) (B : gE mg) (dF : Def P w K mg base 2 "fitting" true hW) (dU : Def P w K mg base 1 "united" true jZ) (dW : Def P w K mg base 1 "behind_word" true ny) : Def P w K mg base 3 "behind_upto" false pQ := by
 refine bq Fx gM hmg hb (by rintro ds d ⟨n, row, ws, h1, h2, h3, e1, e2⟩; subst e1; rfl) ?_;rintro cdv A outer s H Ex Z ds d hr ⟨n, row, ws, h1, h2, h3, e1, e2⟩;subst e1 e2;have nd := gM.nd;have hr1 : bx 1 _ := hr.mono (by decide);refine aQ 3 (d := .int (ke .any row : Nat)) (ay dF hr (ab (E.cast (ee (aq aS)) (show D.tup [.str "any"] = cH .any by simp [cH])) (aq (aa 1))) ⟨.any, row, trivial, h2, rfl, rfl⟩) rfl ?_ nd;have hlt : ke .any row < 2 ^ 61 := Nat.lt_of_lt_of_le (fY _ _) (Nat.pow_le_pow_right (by decide) h2);generalize hev : ke .any row = ev at hlt;refine cC 4 (ds := bE 0 n) (fun k r => ∃ fr o4, r = [some (.pl false (.int (n : Nat))), some (.pl false (aj row)), some (.pl fr (aJ (ws.map (e8 ev k)))), some (.pl true (.int (ev : Nat))), o4])
  (cA (n := n) (aa 0) B.range) cb ⟨false, _, by simp [e8]; rfl⟩ (by rintro n r ⟨_, _, e⟩; subst e; simp) (fun k d r hd ⟨fr, o4, e⟩ => ?_) (fun r ⟨fr, o4, e⟩ => ?_) nd
 . subst e;refine cB 2 (d := aJ (ws.map (e8 ev (k + 1)))) (E.cast (ay dU hr1 (ab (aa 2) (aq (ay dW hr1 (ab (aa 3) (aq (aa 2))) ⟨ev, _, hlt, by rw [length_map]; exact h3, rfl, rfl⟩))) ⟨_, _, by rw [length_map]; exact h3, rfl, rfl⟩) ?_) ?_ nd
   . congr 1;rw [map_map, List.zipWith_map, List.zipWith_self];refine map_congr_left fun x _ => ?_;rw [jA];rfl
   . exact ai ⟨true, _, rfl⟩
 . subst e;rw [bp];cases fr <;> exact aD false (aa 2) rfl
theorem n4 (Fx : eg K "numbers_in" "numbers_in" fS f fd) (hmg : mg "numbers_in" = some (.ref f)) (hb : Binds K fd ["whole"] []) (B : gE mg) : Def P w K mg base 1 "numbers_in" true sk := by
 refine bq Fx nZ hmg hb (by rintro ds d ⟨x, h1, e1, e2⟩; subst e1; rfl) ?_;rintro cdv A outer s H Ex Z ds d hr ⟨x, h1, e1, e2⟩;subst e1 e2;have hbl := CU h1;refine aD false (E.cast (ub (m := true) (me := false) ["whole"] [0] (fun d => match d with | .int i => x.testBit i.toNat | _ => false) (fun d => d) (cA (n := bl x) (Aq (aa 0)) B.range (by omega))
  (fun C s H fp d hd => ?_) (fun C s H fp d hd _ => aa 0 (hn := by obtain ⟨i, _, rfl⟩ := mem_map.mp hd; rfl)) (by rw [bp]; exact bh (by omega)) (fun _ => .inr cb)) ?_) rfl
 . obtain ⟨i, hi, rfl⟩ := mem_map.mp hd;refine Am (T.gu (gv (E.cast (uU (n := 1) (Dl (i := x) (n := i) (aa 1) (E.cast (aa 0) (by simp))) Bj) rfl) ag) ?_);rw [yp];simp
 . unfold aJ dH bE;rw [filter_map, map_map];congr 1;rw [List.filter_congr (q := x.testBit) fun i _ => by simp [Function.comp]];refine map_congr_left fun i _ => ?_;simp [Function.comp]
theorem eX (Fx : eg K "behind_part" "behind_part" cK f fd) (hmg : mg "behind_part" = some (.ref f)) (hb : Binds K fd ["part", "row", "wholes"] []) (B : gE mg) (dU : Def P w K mg base 3 "behind_upto" false pQ) (dW : Def P w K mg base 1 "behind_word" true ny) (dF : Def P w K mg base 2 "fitting" true hW)
 (n : Nat) (dQ : ∀ j, n = j + 1 -> Def P w K mg base (3 * j + 6) "behind_question" true (jL j)) : Def P w K mg base (3 * n + 4) "behind_part" false (zd n) := by
 refine bq (k := 3 * n + 3) Fx mF hmg hb (by rintro ds d ⟨p, row, ws, h1, h2, h3, e1, e2⟩; subst e1; rfl) ?_;rintro cdv A outer s H Ex Z ds d hr ⟨p, row, ws, h1, h2, h3, e1, e2⟩;subst e1 e2;have hr3 : bx 3 _ := hr.mono (by omega);have hr2 : bx 2 _ := hr.mono (by omega);have hr1 : bx 1 _ := hr.mono (by omega);rcases rp p with hp | ⟨m, rfl⟩ | ⟨q, rfl⟩
 . obtain ⟨k, ts, ek, k2, k1⟩ := si hp;refine aO (bS (i := k) (j := "in") (aI (d := .str k) (E.cast (aa 0 (hn := by first | exact cM _ | rfl)) ek) ag (aP _ _)) aS) (fun h => by exfalso; exact k1 (by simpa using h)) (fun h => ai ?_);refine aO (bS (i := k) (j := "upto") (aI (d := .str k) (E.cast (aa 0 (hn := by first | exact cM _ | rfl)) ek) ag (aP _ _)) aS) (fun h => by exfalso; exact k2 (by simpa using h)) (fun h => ai ?_);refine aD false (ay dW hr1 (ab (ay dF hr2 (ab (aa 0 (hn := cM p)) (aq (aa 1))) ⟨p, row, hp, h2, rfl, rfl⟩) (aq (aa 2))) ⟨_, ws, Nat.lt_of_lt_of_le (fY p row) (Nat.pow_le_pow_right (by decide) h2), h3, rfl, rfl⟩) ?_;show aJ _ = aJ _;congr 1;refine map_congr_left fun x _ => ?_;rw [vt hp]
 . have ek : cH (.upto m) = .tup [.str "upto", .int (m : Nat)] := by simp [cH]
   unfold eD at h1;refine aO (bS (i := "upto") (j := "in") (aI (d := .str "upto") (E.cast (aa 0 (hn := by first | exact cM _ | rfl)) ek) ag (aP _ _)) aS) (fun h => by exfalso; revert h; decide +kernel) (fun h => ai ?_);refine aO (bS (i := "upto") (j := "upto") (aI (d := .str "upto") (E.cast (aa 0 (hn := by first | exact cM _ | rfl)) ek) ag (aP _ _)) aS) (fun h => ?_) (fun h => by exfalso; revert h; decide +kernel);refine aD false (ay dU hr3 (ab (aI (d := .int (m : Nat)) (E.cast (aa 0) ek) ag rfl) (ab (aa 1) (aq (aa 2)))) ⟨m, row, ws, h1, h2, h3, rfl, rfl⟩) ?_;show aJ _ = aJ _;congr 1
 . have ek : cH (.eY q) = .tup [.str "in", aL q] := by simp [cH, aL]
   unfold eD at h1;obtain ⟨j, hj, hq⟩ := h1;have hrj : bx (3 * j + 6) _ := hr.mono (by omega);refine aO (bS (i := "in") (j := "in") (aI (d := .str "in") (E.cast (aa 0 (hn := by first | exact cM _ | rfl)) ek) ag (aP _ _)) aS) (fun h => ?_) (fun h => by exfalso; revert h; decide +kernel);refine aD false (ay (dQ j hj) hrj (ab (aI (d := aL q) (E.cast (aa 0) ek) ag rfl) (ab (aa 1) (aq (aa 2)))) ⟨q, row, ws, hq, h2, h3, rfl, rfl⟩) ?_;show aJ _ = aJ _;congr 1
theorem et (Fx : eg K "behind_parts" "behind_parts" cj f fd) (hmg : mg "behind_parts" = some (.ref f)) (hb : Binds K fd ["parts", "row", "wholes"] []) (B : gE mg) {n : Nat} (dP : Def P w K mg base (3 * n + 4) "behind_part" false (zd n)) : Def P w K mg base (3 * n + 5) "behind_parts" false (kG n) := by
 refine bq (k := 3 * n + 4) Fx gB hmg hb (by rintro ds d ⟨p, row, ws, h1, h2, h3, e1, e2⟩; subst e1; rfl) ?_;rintro cdv A outer s H Ex Z ds d hr ⟨ps, row, ws, h1, h2, h3, e1, e2⟩;subst e1 e2;have nd := gB.nd;have hpd : bC ps = .lst (ps.map cH) := by unfold bC; rw [cJ]
 rw [hpd];refine g6 3 false (ds := ps.map cH) (fun k r => ∃ o3, r = [some (.pl false (.lst (ps.map cH))), some (.pl false (aj row)), some (.pl false (aJ (ws.map (kH row (ps.take k))))), o3])
  (bc (aa 0)) ⟨_, by simp [kH]; rfl⟩ (by rintro n r ⟨_, e⟩; subst e; simp) (fun k d r hd ⟨o3, e⟩ => ?_) (fun r ⟨o3, e⟩ => ?_) nd
 . subst e;rw [getElem?_map] at hd
   cases hp : ps[k]? with
   | none => rw [hp] at hd; cases hd
   | some p =>
    rw [hp] at hd;cases hd;have hk : ps.take (k + 1) = ps.take k ++ [p] := by rw [take_add_one, hp]; rfl
    refine kP 2 false (d := aJ (ws.map (kH row (ps.take (k + 1))))) (E.cast (ay dP hr (ab (aa 3 (hn := cM p)) (ab (aa 1) (aq (aa 2)))) ⟨p, row, _, fP h1 p (mem_of_getElem? hp), h2, by rw [length_map]; exact h3, rfl, rfl⟩) ?_) ?_ nd
    . congr 1;rw [map_map];refine map_congr_left fun x _ => ?_;rw [hk, rE];rfl
    . exact ai ⟨_, rfl⟩
 . subst e;rw [length_map, take_length];exact aD false (aa 2) rfl
theorem eW (Fx : eg K "behind_question" "behind_question" bL f fd) (hmg : mg "behind_question" = some (.ref f)) (hb : Binds K fd ["question", "row", "wholes"] []) (B : gE mg) (dU : Def P w K mg base 1 "united" true jZ) {n : Nat} (dP : Def P w K mg base (3 * n + 5) "behind_parts" false (kG n)) : Def P w K mg base (3 * n + 6) "behind_question" true (jL n) := by
 refine bq (k := 3 * n + 5) Fx fb hmg hb (by rintro ds d ⟨p, row, ws, h1, h2, h3, e1, e2⟩; subst e1; rfl) ?_;rintro cdv A outer s H Ex Z ds d hr ⟨q, row, ws, h1, h2, h3, e1, e2⟩;subst e1 e2;have nd := fb.nd;have hr1 : bx 1 _ := hr.mono (by omega);have hqd : aL q = .lst (q.map fun ps => D.lst (cP ps)) := by unfold aL; rw [iP]
 rw [hqd];refine nq 3 (d := aJ (ws.map fun _ => 0)) (EC.cast (uE (m := true) (me := true) [] [] (fun _ => .int ((0 : Nat) : Int)) (bc (aa 2)) (fun C s H fp d hd => Fl) (by rw [length_map]; exact bh h3)) (by simp [aJ, Function.comp_def])) ?_ nd;refine g6 4 false (ds := q.map fun ps => D.lst (cP ps)) (fun k r => ∃ o4, r = [some (.pl false (.lst (q.map fun ps => D.lst (cP ps)))), some (.pl false (aj row)), some (.pl false (aJ ws)), some (.pl true (aJ (ws.map (mQ row (q.take k))))), o4])
  (bc (aa 0)) ⟨_, by simp [mQ]; rfl⟩ (by rintro n r ⟨_, e⟩; subst e; simp) (fun k d r hd ⟨o4, e⟩ => ?_) (fun r ⟨o4, e⟩ => ?_) nd
 . subst e;rw [getElem?_map] at hd
   cases hp : q[k]? with
   | none => rw [hp] at hd; cases hd
   | some ps =>
    rw [hp] at hd;cases hd;have hk : q.take (k + 1) = q.take k ++ [ps] := by rw [take_add_one, hp]; rfl
    refine cB 3 (d := aJ (ws.map (mQ row (q.take (k + 1))))) (E.cast (ay dU hr1 (ab (aa 3) (aq (ay dP hr (ab (aa 4) (ab (aa 1) (aq (aa 2)))) ⟨ps, row, ws, eN h1 ps (mem_of_getElem? hp), h2, h3, rfl, rfl⟩))) ⟨_, _, by rw [length_map]; exact h3, rfl, rfl⟩) ?_) ?_ nd
    . congr 1;rw [List.zipWith_map, List.zipWith_self];refine map_congr_left fun x _ => ?_;rw [hk, qy]
    . exact ai ⟨_, rfl⟩
 . subst e;rw [length_map, take_length];exact aD true (aa 3) rfl
theorem yg {f1 f2 f3 : Addr} {fd1 fd2 fd3 : FuncData} (Fp : eg K "behind_part" "behind_part" cK f1 fd1) (m1 : mg "behind_part" = some (.ref f1)) (b1 : Binds K fd1 ["part", "row", "wholes"] []) (Fs : eg K "behind_parts" "behind_parts" cj f2 fd2) (m2 : mg "behind_parts" = some (.ref f2)) (b2 : Binds K fd2 ["parts", "row", "wholes"] []) (Fq : eg K "behind_question" "behind_question" bL f3 fd3) (m3 : mg "behind_question" = some (.ref f3)) (b3 : Binds K fd3 ["question", "row", "wholes"] []) (B : gE mg)
 (dU : Def P w K mg base 3 "behind_upto" false pQ) (dW : Def P w K mg base 1 "behind_word" true ny) (dF : Def P w K mg base 2 "fitting" true hW) (dUn : Def P w K mg base 1 "united" true jZ) : ∀ n, Def P w K mg base (3 * n + 6) "behind_question" true (jL n)
 | 0 => eW Fq m3 b3 B dUn (et Fs m2 b2 B (eX Fp m1 b1 B dU dW dF 0 fun j hj => absurd hj (by omega)))
 | n + 1 => eW Fq m3 b3 B dUn (et Fs m2 b2 B (eX Fp m1 b1 B dU dW dF (n + 1) fun j hj => by
  cases hj;exact yg Fp m1 b1 Fs m2 b2 Fq m3 b3 B dU dW dF dUn n))
theorem kl (Fx : eg K "_law_plain_part" "_law_plain_part" du f fd) (hmg : mg "_law_plain_part" = some (.ref f)) (hb : Binds K fd ["_law_words_here", "_law_cell"] []) (B : gE mg) (dP : Def P w K mg base 1 "_law_part" true pg) : Def P w K mg base 2 "_law_plain_part" true (vQ 6 4) := by
 refine bq Fx fu hmg hb (by rintro ds d ⟨ws, c, hw, e1, e2⟩; subst e1; rfl) ?_;rintro cdv A outer s H Ex Z ds d hr ⟨ws, c, hw, e1, e2⟩;subst e1 e2;have nd := fu.nd;have p32 := cL c 32 (show (0 : Int) < 4 by decide);have p32' := eJ c 32 (show (0 : Int) < 4 by decide);obtain ⟨hm, g1, g2⟩ := hw.get (i := (part c 32 4).toNat) (by omega);have hget := jY (ws := ws) (n := (part c 32 4).toNat) (by rw [hw.1]; omega);refine aQ 2 (d := .int (part c 30 6)) (ay dP hr (ab (aa 1) (ab ag (aq ag))) ⟨_, _, _, by decide, rfl, rfl⟩) rfl ?_ nd;refine aO (gv (aa 2) ag) (fun h => ?_) (fun h => ai ?_)
 . refine aD false (m1 := true) (E.cast (E.flat (ee (aq (aS (x := "any")))) rfl) ?_) rfl;simp at h;unfold g8;rw [if_pos h];simp [cH]
 simp at h;refine aO (gv (aa 2) ag) (fun h2 => ?_) (fun h2 => ai ?_)
 . refine aD false (m1 := true) (E.cast (E.flat (ee (ab (aS (x := "upto")) (aq (ay dP hr (ab (aa 1) (ab ag (aq ag))) ⟨c, 31, 4, by decide, rfl, rfl⟩)))) rfl) ?_) rfl;simp at h2;have p31 := cL c 31 (show (0 : Int) < 4 by decide);unfold g8;rw [if_neg h, if_pos h2];simp only [cH];rw [Int.toNat_of_nonneg p31]
 simp at h2;have hq : g8 6 4 ws c = (if part c 30 6 = 2 then .beg (Txt.slice (ws.getD (part c 32 4).toNat "") none (some (1 + part c 33 (ws.getD (part c 32 4).toNat "").length))) else if part c 30 6 = 3 then .fin (Txt.slice (ws.getD (part c 32 4).toNat "") (some (((ws.getD (part c 32 4).toNat "").length : Int) - (1 + part c 33 (ws.getD (part c 32 4).toNat "").length))) none) else .word (ws.getD (part c 32 4).toNat "")) := by
  unfold g8;rw [if_neg h, if_neg h2]
 rw [hq];generalize ws.getD (part c 32 4).toNat "" = z at g1 g2 hget;refine aQ 3 (d := .str z) (gx (aa 0) (ay dP hr (ab (aa 1) (ab ag (aq ag))) ⟨c, 32, 4, by decide, rfl, rfl⟩) (fo p32 hget)) rfl ?_ nd;have hsz : z.length <= sizeLine := bh (by omega);refine aQ 4 (d := .int (1 + part c 33 z.length)) (cE ag (ay dP hr (ab (aa 1) (ab ag (aq (je (aa 3) hsz B.len)))) ⟨c, 33, z.length, by omega, rfl, rfl⟩)) rfl ?_ nd;refine aO (gv (aa 2) ag) (fun h3 => ?_) (fun h3 => ai ?_)
 . simp at h3;rw [if_pos h3];refine aD false (m1 := true) (E.cast (E.flat (ee (ab (aS (x := "begin")) (aq (oR (aa 3) d4 (bI (aa 4)) hsz)))) rfl) ?_) rfl;simp only [cH]
 simp at h3;rw [if_neg h3];refine aO (gv (aa 2) ag) (fun h4 => ?_) (fun h4 => ai ?_)
 . simp at h4;rw [if_pos h4];refine aD false (m1 := true) (E.cast (E.flat (ee (ab (aS (x := "end")) (aq (oR (aa 3) (bI (oM (je (aa 3) hsz B.len) (aa 4))) d4 hsz)))) rfl) ?_) rfl;simp only [cH]
 . simp at h4;rw [if_neg h4];refine aD false (m1 := true) (E.cast (E.flat (ee (ab (aS (x := "word")) (aq (aa 3)))) rfl) ?_) rfl;simp only [cH]
theorem lR (Fx : eg K "_law_question" "_law_question" e7 f fd) (hmg : mg "_law_question" = some (.ref f)) (hb : Binds K fd ["_law_words_here", "_law_cells"] []) (B : gE mg) (dC : Def P w K mg base 1 "_law_cell_at" true qR) (dP : Def P w K mg base 1 "_law_part" true pg) (dL : Def P w K mg base 2 "_law_plain_part" true (vQ 6 4)) : Def P w K mg base 3 "_law_question" true pD := by
 refine bq Fx gz hmg hb (by rintro ds d ⟨ws, cells, hw, h8, e1, e2⟩; subst e1; rfl) ?_;rintro cdv A outer s H Ex Z ds d hr ⟨ws, cells, hw, h8, e1, e2⟩;subst e1 e2;have nd := gz.nd;have hr1 : bx 1 _ := hr.mono (by decide);refine sf 2 (ds := [cH (pp ws (cellAt cells 0 + 3))]) (vk (ay dL hr (ab (aa 0) (aq (cE (ay dC hr1 (ab (aa 1) (aq ag)) ⟨cells, 0, by omega, rfl, rfl⟩) ag))) ⟨ws, _, hw, rfl, rfl⟩) (gg (gO hw _)) zv) (by simp) ?_ nd;generalize cellAt cells 0 + 3 = c0;refine cC 3 (ds := cells.map D.int) (fun n r => ∃ o3 o4, r = [some (.pl false (aj ws)), some (.pl false (vd cells)), some (.kI true ((bX ws c0 (cells.take n)).map cP)), o3, o4])
  (bc (aa 1)) xX ⟨none, none, by simp [bX, cP]; rfl⟩ (by rintro n r ⟨_, _, e⟩; subst e; simp) ?_ ?_ nd
 . rintro n d r hd ⟨o3, o4, e⟩;subst e;rw [getElem?_map] at hd
   cases hc : cells[n]? with
   | none => rw [hc] at hd; cases hd
   | some c =>
    rw [hc] at hd;cases hd;have hn := (List.getElem?_eq_some_iff.mp hc).1;have ht : cells.take (n + 1) = cells.take n ++ [c] := by rw [take_add_one, hc]; rfl
    have I := jC hw c0 (cells.take n);have hln : (cells.take n).length <= 8 := by rw [length_take]; omega
    have hst : bX ws c0 (cells.take (n + 1)) = gX ws (bX ws c0 (cells.take n)) c := by rw [ht, iC]
    generalize bX ws c0 (cells.take n) = q at I hst;obtain ⟨init, last, eq⟩ := I.ne;have hlen := I.len;have hlast := I.rows last (by rw [eq]; simp);have hqm : q.map cP = init.map cP ++ [cP last] := by rw [eq]; simp
    have hpl : (cP last).length < 1000 := by rw [cJ, length_map]; omega
    have pl : ∀ c', kQ 9 (pp ws c') := gO hw;refine aQ 4 (d := .int (part c 40 6)) (ay dP hr1 (ab (aa 3) (ab ag (aq ag))) ⟨_, _, _, by decide, rfl, rfl⟩) rfl ?_ nd;refine aO (gv (aa 4) ag) (fun h => ?_) (fun h => ?_)
    . simp at h;refine sW 2 true rfl (es := [cH (pp ws c)]) (m9 (d9 (ay dL hr (ab (aa 0) (aq (aa 3))) ⟨ws, c, hw, rfl, rfl⟩) iO)) (by simp [bj, gg (pl c)]) (by rw [length_map]; omega) ?_;refine ai (ai ⟨some (.pl true (.int c)), some (.pl true (.int (part c 40 6))), ?_⟩);rw [hst];unfold gX;rw [if_pos h];simp [cP]
    simp at h;refine aO (gv (aa 4) ag) (fun h2 => ?_) (fun h2 => ?_)
    . simp at h2;refine wd 2 rfl ?_;refine sf 2 (ds := [.tup [.str "in", aL q], cH (pp ws c)]) (BJ (ee (ab aS (aq (E.cast (aa 2) (mR q).symm)))) (vk (ay dL hr (ab (aa 0) (aq (aa 3))) ⟨ws, c, hw, rfl, rfl⟩) (gg (pl c)) zv)) (by simp) ?_ nd;refine ai (ai (ai ⟨some (.pl true (.int c)), some (.pl true (.int (part c 40 6))), ?_⟩));rw [hst];unfold gX;rw [if_neg h, if_pos h2];simp [cP, cH, aL]
    simp at h2;rw [hqm];refine aO (gv (aa 4) ag) (fun h3 => ?_) (fun h3 => ?_)
    . simp at h3;refine rT 2 (dss := init.map cP) (ds := cP last) (d := .tup [.str "in", .lst [.lst [cH (pp ws c)], .lst [cH (pp ws (c + 1))]]]) rfl (zB ag) (C5 (d9 aS (d9 (m9 (d9 (m9 (d9 (ay dL hr (ab (aa 0) (aq (aa 3))) ⟨ws, c, hw, rfl, rfl⟩) iO)) (d9 (m9 (d9 (ay dL hr (ab (aa 0) (aq (cE (aa 3) ag))) ⟨ws, c + 1, hw, rfl, rfl⟩) iO)) iO))) iO))) hpl ?_;refine ai (ai (ai (ai ⟨some (.pl true (.int c)), some (.pl true (.int (part c 40 6))), ?_⟩)));rw [hst];unfold gX;rw [if_neg h, if_neg h2, if_pos h3, eq];simp [cJ, cP, cH, DN]
    simp at h3;refine nh 2 true (dss := init.map cP) (ds := cP last) rfl (zB ag) (ay dL hr (ab (aa 0) (aq (aa 3))) ⟨ws, c, hw, rfl, rfl⟩) (gg (pl c)) hpl ?_;refine ai (ai (ai (ai ⟨some (.pl true (.int c)), some (.pl true (.int (part c 40 6))), ?_⟩)));rw [hst];unfold gX;rw [if_neg h, if_neg h2, if_neg h3, eq];simp [cJ]
 . rintro r ⟨o3, o4, e⟩;subst e;rw [length_map, take_length];exact aD true (E.cast (aa 2) (mR _).symm) rfl
theorem qP (Fx : eg K "_law_meets" "_law_meets" h9 f fd) (hmg : mg "_law_meets" = some (.ref f)) (hb : Binds K fd ["_law_part_here", "_law_word"] []) (B : gE mg) : Def P w K mg base 1 "_law_meets" true uC := by
 refine bq Fx qr hmg hb (by rintro ds d ⟨p, z, hp, h1, h2, e1, e2⟩; subst e1; rfl) ?_;rintro cdv A outer s H Ex Z ds d hr ⟨p, z, hp, h1, h2, e1, e2⟩;subst e1 e2
 cases p with
 | upto n => exact False.elim hp
 | eY q => exact False.elim hp
 | word u =>
  rw [show cH (.word u) = .tup [.str "word", .str u] by simp [cH]];refine aO (bS (i := "word") (j := "word") (aI (d := .str "word") (aa 0) ag (aP _ _)) aS) (fun h => ?_) (fun h => by exfalso; revert h; decide +kernel);exact aD false (pF (aa 1) (aI (d := .str u) (aa 0) ag rfl)) rfl
 | beg u =>
  rw [show cH (.beg u) = .tup [.str "begin", .str u] by simp [cH]];have h1 : u.length <= 1000 := h1;refine aO (bS (i := "begin") (j := "word") (aI (d := .str "begin") (aa 0) ag (aP _ _)) aS) (fun h => by exfalso; revert h; decide +kernel) (fun h => ai ?_);refine aO (bS (i := "begin") (j := "begin") (aI (d := .str "begin") (aa 0) ag (aP _ _)) aS) (fun h => ?_) (fun h => by exfalso; revert h; decide +kernel);refine aD false (E.cast (pF (oR (aa 1) d4 (bI (je (aI (d := .str u) (aa 0) ag rfl) (bh h1) B.len)) (bh h2)) (aI (d := .str u) (aa 0) ag rfl)) ?_) rfl;show D.bl _ = D.bl (Txt.startswith z u);rw [pL]
 | fin u =>
  rw [show cH (.fin u) = .tup [.str "end", .str u] by simp [cH]];have h1 : u.length <= 1000 := h1;refine aO (bS (i := "end") (j := "word") (aI (d := .str "end") (aa 0) ag (aP _ _)) aS) (fun h => by exfalso; revert h; decide +kernel) (fun h => ai ?_);refine aO (bS (i := "end") (j := "begin") (aI (d := .str "end") (aa 0) ag (aP _ _)) aS) (fun h => by exfalso; revert h; decide +kernel) (fun h => ai ?_);refine aO (bS (i := "end") (j := "end") (aI (d := .str "end") (aa 0) ag (aP _ _)) aS) (fun h => ?_) (fun h => by exfalso; revert h; decide +kernel);refine aD false (E.cast (E9 (EY (je (aa 1) (bh h2) B.len) (je (aI (d := .str u) (aa 0) ag rfl) (bh h1) B.len)) fun _ => Y.Cz (pF (oR (aa 1) (bI (oM (je (aa 1) (bh h2) B.len) (je (aI (d := .str u) (aa 0) ag rfl) (bh h1) B.len))) d4 (bh h2)) (aI (d := .str u) (aa 0) ag rfl))) ?_) rfl;show D.bl _ = D.bl (Txt.endswith z u);rw [ua]
 | any =>
  rw [show cH .any = .tup [.str "any"] by simp [cH]];refine aO (bS (i := "any") (j := "word") (aI (d := .str "any") (aa 0) ag (aP _ _)) aS) (fun h => by exfalso; revert h; decide +kernel) (fun h => ai ?_);refine aO (bS (i := "any") (j := "begin") (aI (d := .str "any") (aa 0) ag (aP _ _)) aS) (fun h => by exfalso; revert h; decide +kernel) (fun h => ai ?_);refine aO (bS (i := "any") (j := "end") (aI (d := .str "any") (aa 0) ag (aP _ _)) aS) (fun h => by exfalso; revert h; decide +kernel) (fun h => ai ?_);exact aD false Ek rfl
theorem iX (Fx : eg K "_law_one_on" "_law_one_on" eO f fd) (hmg : mg "_law_one_on" = some (.ref f)) (hb : Binds K fd ["_law_part_here", "_law_row", "_law_froms"] []) (B : gE mg) (dM : Def P w K mg base 1 "_law_meets" true uC)
 (n : Nat) (dA : ∀ j, n = j + 1 -> Def P w K mg base (2 * j + 3) "_law_all_on" true (p8 j)) : Def P w K mg base (2 * n + 2) "_law_one_on" true (vM n) := by
 refine bq (k := 2 * n + 1) Fx iY hmg hb (by rintro ds d ⟨p, row, L, x, a1, a2, a3, a4, a5, e1, e2⟩; subst e1; rfl) ?_;rintro cdv A outer s H Ex Z ds d hr ⟨p, row, L, x, hok, hsm, hR, h1, h2, e1, e2⟩;subst e1 e2;have nd := iY.nd;have hr1 : bx 1 _ := hr.mono (by omega);have hL := hR.len;rcases rp p with hone | ⟨k, rfl⟩ | ⟨q, rfl⟩
 . obtain ⟨k, ts, ek, hk, hk2⟩ := si hone;rw [u9 hone];refine aO (bS (i := k) (j := "in") (aI (d := .str k) (E.cast (aa 0 (hn := cM p)) ek) ag (aP _ _)) aS) (fun h => by exfalso; exact hk2 (by simpa using h)) (fun h => ai ?_);refine fG 3 (cN bV) rfl ?_ nd;refine cC 4 (ds := bE 0 (row.length + 1)) (fun n r => ∃ o4, r = [some (.pl false (cH p)), some (.pl false (aj row)), some (.pl false (aJ L)), some (.ow true (((List.range n).filter (jt p row L)).map fun n => .int (n : Nat))), o4])
    (cA (n := row.length + 1) (E.cast (cE (dw (aa 1) B.len) ag) (by rw [length_map]; simp)) B.range (by omega)) cb ⟨_, rfl⟩ (by rintro n r ⟨_, e⟩; subst e; simp) ?_ ?_ nd
   . rintro n d r hd ⟨o4, e⟩;subst e;obtain ⟨hn, rfl⟩ := bT hd;have hz : ((List.range n).filter (jt p row L)).length <= n := Nat.le_trans (length_filter_le _ _) (by rw [length_range]; exact Nat.le_refl _);have hsu : (List.range (n + 1)).filter (jt p row L) = (List.range n).filter (jt p row L) ++ (if jt p row L n = true then [n] else []) := by
      rw [range_succ, filter_append];congr 1;cases h : jt p row L n <;> simp [h]
     refine aO (bS (i := k) (j := "upto") (aI (d := .str k) (E.cast (aa 0 (hn := cM p)) ek) ag (aP _ _)) aS) (fun h => by exfalso; exact hk (by simpa using h)) (fun h => ?_);by_cases hin : ((n : Int) - 1) ∈ fj L
     . have hn1 : 1 <= n := by
        unfold fj at hin;obtain ⟨a, _, e⟩ := mem_map.mp hin;omega
       have hlt : n - 1 < row.length := by omega
       have hgm : row.getD (n - 1) "" ∈ row := getD_mem hlt;refine aO (TW.t (um (CQ (E.cast (oM (aa 4) ag) rfl) (E.cast (aa 2) (fX L))) fun _ => uY (yY (ay dM hr1 (ab (aa 0 (hn := cM p)) (aq (gx (d := .str (row.getD (n - 1) "")) (aa 1) (oM (aa 4) ag) (fo (by omega) (by rw [show ((n : Int) - 1).toNat = n - 1 by omega]; exact jY hlt))))) ⟨p, _, hone, yS hsm, h2 _ hgm, rfl, rfl⟩)))) (fun h => ?_) (fun h => ?_)
       . refine m8 3 true rfl (aa 4) rfl (by rw [length_map]; omega) ?_;refine ai (ai (ai ⟨some (.pl true (.int (n : Nat))), ?_⟩));rw [hsu, if_pos (show jt p row L n = true from h)];simp
       . refine ai (ai (ai ⟨some (.pl true (.int (n : Nat))), ?_⟩));rw [hsu, if_neg (by rw [show jt p row L n = false from h]; simp), append_nil];rfl
     . refine aO (TW.t (um (q := false) (CQ (E.cast (oM (aa 4) ag) rfl) (E.cast (aa 2) (fX L))) fun h => absurd (of_decide_eq_true h) hin)) (fun h => ?_) (fun h => ?_)
       . exfalso; simp at h
       . refine ai (ai (ai ⟨some (.pl true (.int (n : Nat))), ?_⟩));rw [hsu, if_neg (by unfold jt; rw [decide_eq_false hin]; simp), append_nil];rfl
   . rintro r ⟨o4, e⟩;subst e;refine aD true (E.cast (aa 3) ?_) rfl;rw [bp];rfl
 . have ek : cH (.upto k) = .tup [.str "upto", .int (k : Nat)] := by simp [cH]
   have eo : xf row (.upto k) L = (List.range (row.length + 1)).filter (m4 k L) := by rw [xf]
   rw [eo];refine aO (bS (i := "upto") (j := "in") (aI (d := .str "upto") (E.cast (aa 0) ek) ag (aP _ _)) aS) (fun h => by exfalso; revert h; decide +kernel) (fun h => ai ?_);refine fG 3 (cN bV) rfl ?_ nd;refine cC 4 (ds := bE 0 (row.length + 1)) (fun n r => ∃ o4, r = [some (.pl false (cH (.upto k))), some (.pl false (aj row)), some (.pl false (aJ L)), some (.ow true (((List.range n).filter (m4 k L)).map fun n => .int (n : Nat))), o4])
    (cA (n := row.length + 1) (E.cast (cE (dw (aa 1) B.len) ag) (by rw [length_map]; simp)) B.range (by omega)) cb ⟨_, rfl⟩ (by rintro n r ⟨_, e⟩; subst e; simp) ?_ ?_ nd
   . rintro n d r hd ⟨o4, e⟩;subst e;obtain ⟨hn, rfl⟩ := bT hd;have hz : ((List.range n).filter (m4 k L)).length <= n := Nat.le_trans (length_filter_le _ _) (by rw [length_range]; exact Nat.le_refl _);have hsu : (List.range (n + 1)).filter (m4 k L) = (List.range n).filter (m4 k L) ++ (if m4 k L n = true then [n] else []) := by
      rw [range_succ, filter_append];congr 1;cases h : m4 k L n <;> simp [h]
     refine aO (bS (i := "upto") (j := "upto") (aI (d := .str "upto") (E.cast (aa 0) ek) ag (aP _ _)) aS) (fun h => ?_) (fun h => by exfalso; revert h; decide +kernel);refine aO (T.gu (b' := m4 k L n) (CD (bs := L.map fun a : Nat => decide (0 <= (n : Int) - (a : Int)) && decide ((n : Int) - (a : Int) <= (k : Int))) Ek (E.cast (kc (m := true) (me := true) ["_law_to", "_law_part_here"] [4, 0] (fun d => match d with | .int a => .bl (decide (0 <= (n : Int) - a) && decide ((n : Int) - a <= (k : Int))) | d => d) (bc (aa 2))
      (fun C s H fp d hd => ?_) (by rw [length_map]; exact bh (by omega))) (by simp [Function.comp_def]))) ?_) (fun h => ?_) (fun h => ?_)
     . obtain ⟨a, ha, rfl⟩ := mem_map.mp hd;exact wA ag (oM (aa 1) (aa 0)) (aI (d := .int (k : Nat)) (E.cast (aa 2) ek) ag rfl)
     . unfold m4;rw [List.any_map];simp [Function.comp_def]
     . refine m8 3 true rfl (aa 4) rfl (by rw [length_map]; omega) ?_;refine ai (ai (ai ⟨some (.pl true (.int (n : Nat))), ?_⟩));rw [hsu, if_pos h];simp
     . refine ai (ai (ai ⟨some (.pl true (.int (n : Nat))), ?_⟩));rw [hsu, if_neg (by rw [h]; simp), append_nil];rfl
   . rintro r ⟨o4, e⟩;subst e;refine aD true (E.cast (aa 3) ?_) rfl;rw [bp];rfl
 . have ek : cH (.eY q) = .tup [.str "in", aL q] := by simp [cH, aL]
   unfold eD at hok;obtain ⟨j, hj, hq⟩ := hok;unfold gI at hsm;have hrj : bx (2 * j + 3) _ := hr.mono (by omega);refine aO (bS (i := "in") (j := "in") (aI (d := .str "in") (E.cast (aa 0) ek) ag (aP _ _)) aS) (fun h => ?_) (fun h => by exfalso; revert h; decide +kernel);refine aD false (ay (dA j hj) hrj (ab (aI (d := aL q) (E.cast (aa 0) ek) ag rfl) (ab (aa 1) (aq (aa 2)))) ⟨q, row, L, x, hq, hsm, hR, h1, h2, rfl, rfl⟩) ?_;show aJ _ = aJ _;rw [xf]
theorem iZ (Fx : eg K "_law_all_on" "_law_all_on" eK f fd) (hmg : mg "_law_all_on" = some (.ref f)) (hb : Binds K fd ["_law_question_here", "_law_row", "_law_froms"] []) (B : gE mg) {n : Nat} (dO : Def P w K mg base (2 * n + 2) "_law_one_on" true (vM n)) : Def P w K mg base (2 * n + 3) "_law_all_on" true (p8 n) := by
 refine bq (k := 2 * n + 2) Fx iT hmg hb (by rintro ds d ⟨p, row, L, x, a1, a2, a3, a4, a5, e1, e2⟩; subst e1; rfl) ?_;rintro cdv A outer s H Ex Z ds d hr ⟨q, row, L, x, hok, hsm, hR, h1, h2, e1, e2⟩;subst e1 e2;have nd := iT.nd;have hqd : aL q = .lst (q.map fun ps => D.lst (cP ps)) := by unfold aL; rw [iP]
 refine fG 3 (cN bV) rfl ?_ nd;have rq : ∀ k, Rep (row.length + 1) (0 ||| mQ row (q.take k) x) (oQ row (q.take k) L []) := fun k => vf (q.take k) hR ⟨List.nodup_nil, fun i => by simp⟩;refine g6 4 false (ds := q.map fun ps => D.lst (cP ps)) (fun k r => ∃ o4 o5 o6, r = [some (.pl false (aL q)), some (.pl false (aj row)), some (.pl false (aJ L)), some (.ow true ((oQ row (q.take k) L []).map fun n => .int (n : Nat))), o4, o5, o6])
  (bc (E.cast (aa 0) hqd)) ⟨none, none, none, by simp [oQ]; rfl⟩ (by rintro n r ⟨_, _, _, e⟩; subst e; simp) (fun k d r hd ⟨o4, o5, o6, e⟩ => ?_) (fun r ⟨o4, o5, o6, e⟩ => ?_) nd
 . subst e;rw [getElem?_map] at hd
   cases hp : q[k]? with
   | none => rw [hp] at hd; cases hd
   | some ps =>
    rw [hp] at hd;cases hd;have hmem := mem_of_getElem? hp;have hk : q.take (k + 1) = q.take k ++ [ps] := by rw [take_add_one, hp]; rfl
    have hpd : D.lst (cP ps) = .lst (ps.map cH) := by rw [cJ]
    refine kP 5 false (d := aJ (qV row (ps.take 0) L)) (E.cast (aa 2) (by simp [qV])) ?_ nd;refine g6 6 false (ds := ps.map cH) (fun i r => ∃ o6, r = [some (.pl false (aL q)), some (.pl false (aj row)), some (.pl false (aJ L)), some (.ow true ((oQ row (q.take k) L []).map fun n => .int (n : Nat))), some (.pl false (D.lst (cP ps))), some (.pl false (aJ (qV row (ps.take i) L))), o6])
     (bc (E.cast (aa 4) hpd)) ⟨_, rfl⟩ (by rintro n r ⟨_, e⟩; subst e; simp) (fun i d r hd ⟨o6, e⟩ => ?_) (fun r ⟨o6, e⟩ => ?_) nd
    . subst e;rw [getElem?_map] at hd
      cases hpi : ps[i]? with
      | none => rw [hpi] at hd; cases hd
      | some p =>
       rw [hpi] at hd;cases hd;have hi : ps.take (i + 1) = ps.take i ++ [p] := by rw [take_add_one, hpi]; rfl
       have hm2 := mem_of_getElem? hpi;refine kP 5 false (d := aJ (qV row (ps.take (i + 1)) L)) (E.uv (ay dO hr (ab (aa 6 (hn := cM p)) (ab (aa 1) (aq (aa 5)))) ⟨p, row, _, _, fP (eN hok ps hmem) p hm2, ka (fZ hsm ps hmem) p hm2, qz (ps.take i) hR, h1, h2, rfl, by rw [hi, rK]⟩)) ?_ nd;exact ai ⟨_, rfl⟩
    . subst e;rw [length_map, take_length];have l1 := (rq k).len;have l2 := (qz ps hR).len;refine gn 3 true rfl (es := ((qV row ps L).filter fun t : Nat => !decide ((t : Int) ∈ fj (oQ row (q.take k) L []))).map fun n => .int (n : Nat)) (E.cast (ub (m := true) (me := false) ["_law_tos"] [3] (fun d => match d with | .int t => !decide (t ∈ fj (oQ row (q.take k) L [])) | _ => false) (fun d => d) (bc (aa 5))
       (fun C s H fp d hd => ?_) (fun C s H fp d hd _ => by obtain ⟨i, _, rfl⟩ := mem_map.mp hd; exact aa 0) (by rw [length_map]; exact bh (by omega)) (fun _ => .inr fun d hd => by obtain ⟨i, _, rfl⟩ := mem_map.mp hd; rfl)) ?_) (t4 _) (by
        rw [length_map, length_map];have := length_filter_le (fun t : Nat => !decide ((t : Int) ∈ fj (oQ row (q.take k) L []))) (qV row ps L);exact bh (by omega)) ?_
      . obtain ⟨t, ht, rfl⟩ := mem_map.mp hd;exact Am (z6 (aa 0) (E.cast (aa 1) (fX (oQ row (q.take k) L []))))
      . rw [filter_map];simp [Function.comp_def]
      . refine ai ⟨some (.pl false (D.lst (cP ps))), some (.pl false (aJ (qV row ps L))), o6, ?_⟩;rw [hk, uX, map_append];rfl
 . subst e;refine aD true (E.cast (aa 3) ?_) rfl;rw [length_map, take_length];rfl
theorem vL {f1 f2 : Addr} {fd1 fd2 : FuncData} (Fo : eg K "_law_one_on" "_law_one_on" eO f1 fd1) (m1 : mg "_law_one_on" = some (.ref f1)) (b1 : Binds K fd1 ["_law_part_here", "_law_row", "_law_froms"] []) (Fa : eg K "_law_all_on" "_law_all_on" eK f2 fd2) (m2 : mg "_law_all_on" = some (.ref f2)) (b2 : Binds K fd2 ["_law_question_here", "_law_row", "_law_froms"] []) (B : gE mg)
 (dM : Def P w K mg base 1 "_law_meets" true uC) : ∀ n, Def P w K mg base (2 * n + 3) "_law_all_on" true (p8 n)
 | 0 => iZ Fa m2 b2 B (iX Fo m1 b1 B dM 0 fun j hj => absurd hj (by omega))
 | n + 1 => iZ Fa m2 b2 B (iX Fo m1 b1 B dM (n + 1) fun j hj => by
  cases hj;exact vL Fo m1 b1 Fa m2 b2 B dM n)
theorem jG (Fx : eg K "_law_plain_spans" "_law_plain_spans" cU f fd) (hmg : mg "_law_plain_spans" = some (.ref f)) (hb : Binds K fd ["_law_question_here", "_law_row"] []) (B : gE mg) (dA : Def P w K mg base 21 "_law_all_on" true (p8 9)) : Def P w K mg base 22 "_law_plain_spans" true (ly 9) := by
 refine bq Fx eV hmg hb (by rintro ds d ⟨q, row, a1, a2, a3, a4, e1, e2⟩; subst e1; rfl) ?_;rintro cdv A outer s H Ex Z ds d hr ⟨q, row, hok, hsm, h1, h2, e1, e2⟩;subst e1 e2;have nd := eV.nd;refine fG 2 (cN bV) rfl ?_ nd;refine cC 3 (ds := bE 0 (row.length + 1)) (fun n r => ∃ o3, r = [some (.pl false (aL q)), some (.pl false (aj row)), some (.ow true ((ig row q n).map dJ)), o3])
  (cA (n := row.length + 1) (E.cast (cE (dw (aa 1) B.len) ag) (by rw [length_map]; simp)) B.range (by omega)) cb ⟨_, rfl⟩ (by rintro n r ⟨_, e⟩; subst e; simp) ?_ ?_ nd
 . rintro n d r hd ⟨o3, e⟩;subst e;obtain ⟨hn, rfl⟩ := bT hd;have hR := wQ hn;have hRq := vf q hR (y := 0) (acc := []) ⟨List.nodup_nil, fun i => by simp⟩;rw [Nat.zero_or] at hRq;have hlen := hRq.len;have hx := oX (row := row) q (eR hn);have hl1 := jI (row := row) q n (by omega);have hl2 := oW (row.length + 1) (mQ row q (1 <<< n));have hm : n * (row.length + 1) <= 62 * 62 := Nat.mul_le_mul (by omega) (by omega);refine gn 2 true rfl (es := (gr (row.length + 1) (mQ row q (1 <<< n))).map fun t => dJ (n, t)) (E.cast (kc (m := true) (me := false) ["_law_at"] [3] (fun d => .tup [.int (n : Nat), d]) (bc (xY (ns := fj (oQ row q [n] [])) (ns' := fj (gr (row.length + 1) (mQ row q (1 <<< n)))) (E.cast (ay dA hr (ab (aa 0) (ab (aa 1) (aq (E.cast (cN (aq (aa 3))) (show D.lst [.int (n : Nat)] = aJ [n] from rfl))))) ⟨q, row, [n], _, hok, hsm, hR, h1, h2, rfl, rfl⟩) (fX _)) (by unfold fj; rw [length_map]; omega) (xu hRq.perm) (zS _ _) B.sorted))
    (fun C s H fp d hd => by obtain ⟨i, _, rfl⟩ := mem_map.mp hd; exact ee (ab (aa 1) (aq (aa 0)))) (by unfold fj; rw [length_map, length_map]; exact bh (by omega)) (fun _ => .inr fun d hd => by obtain ⟨i, _, rfl⟩ := mem_map.mp hd; rfl)) (by simp [dJ, fj, Function.comp_def])) (by
     refine cO fun d hd => ?_;obtain ⟨i, _, rfl⟩ := mem_map.mp hd;rfl) (by rw [length_map, length_map]; exact mI (by omega)) ?_
   refine ai ⟨some (.pl true (.int (n : Nat))), ?_⟩;rw [lx, wV hx, map_append, map_map];rfl
 . rintro r ⟨o3, e⟩;subst e;refine aD true (E.cast (aa 2) ?_) rfl;rw [bp];rfl
theorem pG (Fx : eg K "end_of" "end_of" nc f fd) (hmg : mg "end_of" = some (.ref f)) (hb : Binds K fd ["rows", "place"] []) (B : gE mg) : Def P w K mg base 1 "end_of" true B6 := by
 refine bq Fx xq hmg hb (by rintro ds d ⟨rows, p, hp, e1, e2⟩; subst e1; rfl) ?_;rintro cdv A outer s H Ex Z ds d hr ⟨rows, p, hp, e1, e2⟩;subst e1 e2;refine aD false (E.cast (lz (m := true) (ds := (rows.getD p.1 []).map D.str) (gx (aa 0) (aI (d := .int p.1) (aa 1) ag rfl) (dY ?_)) (bI (aI (d := .int p.2) (aa 1) ag rfl)) d4 ?_) ?_) rfl
 . simp [hp, aj]
 . intro _;exact .inr (eT (fU _))
 . rw [sg];simp [aj, endAt]
theorem n9 (Fx : eg K "all_places" "all_places" fW f fd) (hmg : mg "all_places" = some (.ref f)) (hb : Binds K fd ["rows"] []) (B : gE mg) : Def P w K mg base 1 "all_places" true EK := by
 refine bq Fx iW hmg hb (by rintro ds d ⟨rows, ht, e1, e2⟩; subst e1; rfl) ?_;rintro cdv A outer s H Ex Z ds d hr ⟨rows, ht, e1, e2⟩;subst e1 e2;have nd := iW.nd;refine fG 1 (cN bV) rfl ?_ nd;refine p5 2 3 false (ds := nk (rows.map aj)) (fun n r => ∃ o2 o3 o4, r = [some (.pl false (bg rows)), some (.ow true ((dj rows n).map dJ)), o2, o3, o4])
  (vH (aa 0) B.enumerate) ⟨_, _, _, rfl⟩ (by rintro n r ⟨_, _, _, e⟩; subst e; simp) (fun d hd => by
   obtain ⟨i, _, rfl⟩ := mem_map.mp hd;exact ⟨_, _, rfl⟩) (fun n d1 d2 r hd ⟨o2, o3, o4, e⟩ => ?_) (fun r ⟨o2, o3, o4, e⟩ => ?_) nd
 . subst e;obtain ⟨d', hd', e⟩ := kU hd;cases e;rw [getElem?_map] at hd'
   cases hrow : rows[n]? with
   | none => rw [hrow] at hd'; cases hd'
   | some row =>
    rw [hrow] at hd';cases hd';have hrl : row.length <= lI rows := by have := p9 hrow row.length (Nat.le_refl _); omega
    refine cC 4 (ds := bE 0 (row.map D.str).length) (fun m r => ∃ o4, r = [some (.pl false (bg rows)), some (.ow true ((dj rows n ++ (List.range m).map fun a => (n, a)).map dJ)), some (.pl false (.int (n : Nat))), some (.pl false (aj row)), o4] /\ m <= row.length)
     (kB (n := ((row.map D.str).length : Int)) (m := true) (dw (aa 3) B.len) (by rw [length_map]; omega) (by omega) B.range) cb ⟨o4, by simp, by omega⟩ (by rintro n r ⟨_, e, _⟩; subst e; simp) (fun m d r hd ⟨o4, e, hm⟩ => ?_) (fun r ⟨o4, e, hm⟩ => ?_) nd
    . subst e;obtain ⟨hm2, rfl⟩ := bT hd;rw [length_map] at hm2;have hlen := p9 hrow m hm;refine fR 1 true rfl (ee (ab (aa 2) (aq (aa 4)))) rfl (by simp; omega) ?_;refine ai ⟨some (.pl true (.int (m : Nat))), ?_, hm2⟩;rw [range_succ];simp [dJ, List.set]
    . subst e;refine ai ⟨some (.pl false (.int (n : Nat))), some (.pl false (aj row)), o4, ?_⟩;rw [gi, bp, length_map];simp [hrow]
 . subst e;refine aD true (E.cast (aa 1) ?_) rfl;rw [kS, length_map];rfl
theorem sA (Fx : eg K "order_of" "order_of" jh f fd) (hmg : mg "order_of" = some (.ref f)) (hb : Binds K fd ["rows", "place"] []) (B : gE mg) (dE : Def P w K mg base 1 "end_of" true B6) : Def P w K mg base 2 "order_of" false Ac := by
 refine bq Fx se hmg hb (by rintro ds d ⟨rows, p, hp, e1, e2⟩; subst e1; rfl) ?_;rintro cdv A outer s H Ex Z ds d hr ⟨rows, p, hp, e1, e2⟩;subst e1 e2;exact aD false (ee (ab (ay dE hr (ab (aa 0) (aq (aa 1))) ⟨rows, p, hp, rfl, rfl⟩) (aq (aa 1)))) rfl
theorem By {f c Pt : Addr} {fd : FuncData} (Fx : ux K "ends" "ends" qx f fd c) (LK : qL K mg base c Pt "ends.<locals>.<lambda>") (hmg : mg "ends" = some (.ref f)) (hb : Binds K fd ["rows"] []) (B : gE mg) (dA : Def P w K mg base 1 "all_places" true EK) (dO : Def P w K mg base 2 "order_of" false Ac) : Def P w K mg base 6 "ends" true zX := by
 refine vZ Fx Bo hmg hb (by rintro ds d ⟨rows, ht, e1, e2⟩; subst e1; rfl) fun A outer s H Ex Z ds d hr ⟨rows, ht, e1, e2⟩ => ?_;subst e1 e2;refine aD false (xg (ds := (gh rows).map dJ) (g := w6 rows) (P := vN) (P0 := fun d => ∃ p, d = dJ p /\ p.1 < rows.length) (caps := [("rows", 0)]) (pn := "place") (c := c) (Pt := Pt) (qn := "ends.<locals>.<lambda>") (clos := [("rows", s.heap.objs.size + 1)]) (m1 := true) (mb := false) (ay dA (hr.mono (by decide)) (aq (aa 0)) ⟨rows, by omega, rfl, rfl⟩) ?LC ?LO ?cl ?body ?b lV kind_ord ?P ?inj ?len ?hh ?room ?m) rfl
 case LC => exact qL.cx LK rfl rfl
 case LO =>
  refine ⟨rfl, rfl, rfl, by decide +kernel, rfl, fun q hq => ?_, fun x c h => h, fun x hx => ?_⟩
  . have : q = (("rows" : Str), 0) := by simpa using hq
    subst this;exact ⟨rfl, rfl, rfl, rfl⟩
  . have h := (by decide +kernel : ∀ q ∈ Ao qx, q.2 = NameKind.free -> q.1 = ("rows" : Str)) _ (PySem.mem_of_lookup hx) rfl;have h' : x = ("rows" : Str) := h;subst h';exact ⟨_, rfl⟩
 case cl => rfl
 case b => exact fun _ _ _ _ => rfl
 case body =>
  rintro f' c' s' H' R d ⟨p, rfl, hp⟩;rw [iL];exact ay dO (k := 2) (((hr.in1).in1).deeper _) (ab (aa 1) (aq (aa 0))) ⟨rows, p, hp, rfl, rfl⟩
 case P =>
  intro d hd;obtain ⟨p, hp, rfl⟩ := mem_map.mp hd;rw [iL];exact ⟨⟨p, rfl, rD hp⟩, ⟨_, p, rfl⟩, xZ hr⟩
 case inj =>
  intro x hx y hy e;obtain ⟨p, _, rfl⟩ := mem_map.mp hx;obtain ⟨q, _, rfl⟩ := mem_map.mp hy;rw [iL, iL] at e;simp only [jQ] at e;injection e with e;injection e with _ e;injection e with e _
 case len => rw [length_map, nE]; exact ht
 case hh => exact hr.hd
 case room => exact hr.depth
 case m => exact B.sorted
def oI (st : Stmt) (n : Nat) : List (Str × NameKind) := match ((bA st)[n]? : Option Stmt) with
 | some (.Assign _ (.Call _ [_, _, .Lambda _ _ sc _] _ _) _) => sc.names
 | _ => []
theorem gy {f fl c : Addr} {fd : FuncData} (Fx : eg K "first_behind" "first_behind" cX f fd) (B : gE mg) (dE : Def P w K mg base 1 "end_of" true B6)
 {qn pn : Str} {params : Arguments} {lb : Expr} {scope : Scope} {clos : List (Str × Addr)} {pm ctv : Value} {capsv : List (Str × V)} {dcs : List D} (gb : List Str -> Bool) (L : An base scope clos pn capsv)
 (hbd : ∀ u, bindArgs (PySem.W.kla_fn "<lambda>" qn params lb scope clos pm (.ref c) ctv) ⟨[u], []⟩ = pure [(pn, u)])
 (hbody : ∀ (X0 : Cx) (s : Shared) (H : Hp) (R : HK) (e : HL), X0.mg = mg -> bx 2 X0.A -> E (fA X0 X0.A (pn :: capsv.map (·.1)) qn scope clos fl c s H R) false (some (aj e) :: dcs.map some) lb (.bl (gb e)))
 (rows : HA) (ps : HC) (hp : EL rows ps) (mono : sv rows ps gb) :
 fi P w K mg base lM 3 f fd ["rows", "places", "is_ahead"] (Gm K fl (rh K dcs (capsv.map (·.2)) fl c qn params lb scope clos pm ctv) true [bg rows, ei ps] (.int ((ps.countP fun p => gb (endAt rows p) : Nat) : Int))) := by
 refine Hs Fx gw rfl (by simp) fun cdv A outer s H Ex Z hr gd => ?_;have nd := gw.nd;have kk : ∀ (X : Cx), X.base = base -> X.mg = mg -> X.K = K -> bx 2 X.A -> ∀ σ, tQ X X.A σ fl (fun d => .bl (gb (strsOf d))) (fun d => ∃ e, d = aj e) (rh X.K dcs (capsv.map (·.2)) fl c qn params lb scope clos pm ctv) := fun X e1 e2 e3 hr σ =>
  wg (m := false) (e1 ▸ L) hr.hd rfl hr.depth hbd fun s' H' R d ⟨e, he⟩ => by
   subst he;rw [lJ];exact hbody X s' H' R e e2 hr
 refine aQ 3 ag rfl ?_ nd;refine aQ 4 (dw (ds := ps.map dJ) (aa 1) B.len) rfl ?_ nd;refine yE (fun r => ∃ (lo hi : Nat) (o5 : Option Slot), r = [some (.pl false (bg rows)), some (.pl false (ei ps)), some (.rf (.ref fl)), some (.pl true (.int (lo : Int))), some (.pl true (.int (hi : Int))), o5] /\ lo <= hi /\ hi <= ps.length /\ (∀ i, i < lo -> gb (endAt rows (ps.getD i (0, 0))) = true) /\ (∀ i, hi <= i -> i < ps.length -> gb (endAt rows (ps.getD i (0, 0))) = false))
  (fun r => (Bk r 4 - Bk r 3).toNat) (fun r => decide (Bk r 3 < Bk r 4)) ⟨0, ps.length, none, by simp [mx, df, length_map], by omega, by omega, fun i hi => absurd hi (by omega), fun i h1 h2 => absurd h1 (by omega)⟩ (by rintro r ⟨lo, hi, o5, e, _⟩; subst e; rfl) (fun r ⟨lo, hi, o5, e, _⟩ => ?_) (fun r ⟨lo, hi, o5, e, h1, h2, h3, h4⟩ hb => ?_) (fun r ⟨lo, hi, o5, e, h1, h2, h3, h4⟩ hb => ?_)
 . subst e;exact y4 (aa 3) (aa 4)
 . subst e;have hlt : lo < hi := by
    have z : decide ((lo : Int) < (hi : Int)) = true := hb;have := of_decide_eq_true z;omega
   refine aQ 5 (Dn (cE (aa 3) (aa 4)) ag ⟨by decide, by decide⟩) rfl ?_ nd;obtain ⟨mid, hm⟩ : ∃ mid : Nat, ((lo : Int) + (hi : Int)) / 2 = (mid : Int) := ⟨(lo + hi) / 2, by omega⟩
   have m1 : lo <= mid := by omega
   have m2 : mid < hi := by omega
   rw [hm];have ml : mid < ps.length := by omega
   have g0 := BQ (ps := ps) (n := mid) ml;refine Ed (i := 2) (f := fl) (b := gb (endAt rows (ps.getD mid (0, 0)))) (d := aj (endAt rows (ps.getD mid (0, 0)))) rfl (ay dE (hr.mono (by decide)) (ab (aa 0) (aq (gx (d := dJ (ps.getD mid (0, 0))) (aa 1) (aa 5) (fo (by omega) (by rw [show ((mid : Nat) : Int).toNat = mid by omega]; exact g0))))) ⟨rows, _, hp _ (getD_mem ml), rfl, rfl⟩)
    (kk _ rfl rfl rfl hr) ⟨_, rfl⟩ (by rw [lJ]) gd (fun h => ?_) (fun h => ?_)
   . refine aQ 3 (cE (aa 5) ag) rfl (ai (ai ⟨⟨mid + 1, hi, _, rfl, by omega, h2, fun i hi' => ?_, h4⟩, ?_⟩)) nd
     . by_cases e : i = mid
       . rw [e]; exact h
       . exact mono i mid (by omega) ml h
     . show ((hi : Int) - ((mid : Int) + 1)).toNat < ((hi : Int) - (lo : Int)).toNat;omega
   . refine aQ 4 (aa 5) rfl (ai (ai ⟨⟨lo, mid, _, rfl, m1, by omega, h3, fun i h5 h6 => ?_⟩, ?_⟩)) nd
     . by_cases e : i = mid
       . rw [e]; exact h
       . cases q : gb (endAt rows (ps.getD i (0, 0))) with
         | false => rfl
         | true => rw [mono mid i (by omega) h6 q] at h; cases h
     . show ((mid : Int) - (lo : Int)).toNat < ((hi : Int) - (lo : Int)).toNat;omega
 . subst e;have hge : lo = hi := by
    have z : decide ((lo : Int) < (hi : Int)) = false := hb;have := of_decide_eq_false z;omega
   refine aD true (E.cast (aa 3) ?_) rfl;rw [count_at (x := (0, 0)) ps lo (by omega) (fun i hi' => h3 i hi') fun i h5 h6 => h4 i (by omega) h6]
theorem og {f c Pt ff : Addr} {fd ffd : FuncData} (Fx : ux K "stretch_of" "stretch_of" cZ f fd c) (LK : qL K mg base c Pt "stretch_of.<locals>.<lambda>") (hmg : mg "stretch_of" = some (.ref f)) (hb : Binds K fd ["rows", "places", "words"] []) (B : gE mg)
 (Ff : eg K "first_behind" "first_behind" cX ff ffd) (af : mg "first_behind" = some (.ref ff)) (bf : Binds K ffd ["rows", "places", "is_ahead"] []) (dE : ∀ base' : Heap, Def P w K mg base' 1 "end_of" true B6) : Def P w K mg base 4 "stretch_of" true oU := by
 refine vZ Fx iU hmg hb (by rintro ds d ⟨rows, ws, e1, e2⟩; subst e1; rfl) fun A outer s H Ex Z ds d hr ⟨rows, ws, e1, e2⟩ => ?_;subst e1 e2;have nd := iU.nd;have hpl : EL rows (ax rows) := fun p hp => rD (zr rows p hp);refine aQ 3 (d := .int ((gV rows (ax rows) ws : Nat) : Int)) (vy (m := true) (c := c) (Pt := Pt) (qn := "stretch_of.<locals>.<lambda>") (pn := "end") (caps := [("words", 2)]) (clos := [("words", s.heap.objs.size + 1)]) (dcs := [aj ws]) (da := bg rows) (db := ei (ax rows)) (p1 := "rows") (p2 := "places") (p3 := "is_ahead") (fd := ffd) (fa := ff) (k := 3) (aa 0) (aa 1) ?LC ?LO ?cl ?cap ?fn ?lk ?F hr af Ff.kp bf) rfl ?_ nd
 case LC => exact qL.cx LK rfl rfl
 case LO =>
  refine ⟨rfl, rfl, rfl, by decide +kernel, rfl, fun q hq => ?_, fun x c h => h, fun x hx => ?_⟩
  . have : q = (("words" : Str), 2) := by simpa using hq
    subst this;exact ⟨rfl, rfl, rfl, rfl⟩
  . have h := (by decide +kernel : ∀ q ∈ oI cZ 0, q.2 = NameKind.free -> q.1 = ("words" : Str)) _ (PySem.mem_of_lookup hx) rfl;have h' : x = ("words" : Str) := h;subst h';exact ⟨_, rfl⟩
 case cl => rfl
 case cap => rfl
 case fn => exact fun _ _ _ => rfl
 case lk =>
  intro q hq;have : q = (("words" : Str), s.heap.objs.size + 1) := by simpa using hq
  subst this;simp
 case F =>
  intro base' capsv f' c' pm ctv hcap C;refine gy (base := base') Ff B (dE base') (fun e => slt e ws) C (fun u => rfl) (fun X0 s' H' R e hm hr' => ?_) rows (ax rows) hpl (ri rows ws);rw [hcap];refine E.uv (Fe (aa 0) (aa 1) (rW _ _) (lj (hr'.deeper _) (iA _)))
 refine aQ 4 (d := .int ((gV rows (ax rows) ws + manyN rows (ax rows) ws : Nat) : Int)) (vy (m := true) (c := c) (Pt := Pt) (qn := "stretch_of.<locals>.<lambda>") (pn := "end") (caps := [("words", 2)]) (clos := [("words", s.heap.objs.size + 1)]) (dcs := [aj ws]) (da := bg rows) (db := ei (ax rows)) (p1 := "rows") (p2 := "places") (p3 := "is_ahead") (fd := ffd) (fa := ff) (k := 3) (aa 0) (aa 1) ?LC ?LO ?cl ?cap ?fn ?lk ?F hr af Ff.kp bf) rfl ?_ nd
 case LC => exact qL.cx LK rfl rfl
 case LO =>
  refine ⟨rfl, rfl, rfl, by decide +kernel, rfl, fun q hq => ?_, fun x c h => h, fun x hx => ?_⟩
  . have : q = (("words" : Str), 2) := by simpa using hq
    subst this;exact ⟨rfl, rfl, rfl, rfl⟩
  . have h := (by decide +kernel : ∀ q ∈ oI cZ 1, q.2 = NameKind.free -> q.1 = ("words" : Str)) _ (PySem.mem_of_lookup hx) rfl;have h' : x = ("words" : Str) := h;subst h';exact ⟨_, rfl⟩
 case cl => rfl
 case cap => rfl
 case fn => exact fun _ _ _ => rfl
 case lk =>
  intro q hq;have : q = (("words" : Str), s.heap.objs.size + 1) := by simpa using hq
  subst this;simp
 case F =>
  intro base' capsv f' c' pm ctv hcap C;rw [<- vp];refine gy (base := base') Ff B (dE base') (fun e => bD .le (aj (e.take ws.length)) (aj ws)) C (fun u => rfl) (fun X0 s' H' R e hm hr' => ?_) rows (ax rows) hpl (so rows ws);rw [hcap];have hlen : X0.mg "len" = none := by rw [hm]; exact B.len
  refine E.uv (E.cast (EF (d := aj (e.take ws.length)) (E.cast (lz (m := false) (ds := e.map D.str) (aa 0) d4 (bI (dw (ds := ws.map D.str) (aa 1) hlen))) ?_) (aa 1) (rW _ _) (lj (hr'.deeper _) (iA _))) rfl);rw [length_map, zw];simp [aj]
 exact aD true (ee (ab (aa 3) (aq (aa 4)))) rfl
theorem my (Fx : eg K "first_words" "first_words" fE f fd) (hmg : mg "first_words" = some (.ref f)) (hb : Binds K fd ["parts"] []) (B : gE mg) : Def P w K mg base 1 "first_words" true qA := by
 refine bq Fx g5 hmg hb (by rintro ds d ⟨ps, h1, e1, e2⟩; subst e1; rfl) ?_;rintro cdv A outer s H Ex Z ds d hr ⟨ps, h1, e1, e2⟩;subst e1 e2;have nd := g5.nd;have hpd : bC ps = .lst (ps.map cH) := by unfold bC; rw [cJ]
 rw [hpd];refine fG 1 (cN bV) rfl ?_ nd;refine g6 2 false (ds := ps.map cH) (fun n r => ∃ o2 ws, r = [some (.pl false (.lst (ps.map cH))), some (.ow true (ws.map D.str)), o2] /\ ws.length <= n /\ fw ps = ws ++ fw (ps.drop n))
  (bc (aa 0)) ⟨_, [], rfl, by simp, by simp⟩ (by rintro n r ⟨_, _, e, _⟩; subst e; simp) ?_ ?_ nd
 . rintro n d r hd ⟨o2, ws, e, hl, hw⟩;subst e;rw [getElem?_map] at hd
   cases hp : ps[n]? with
   | none => rw [hp] at hd; cases hd
   | some p =>
    rw [hp] at hd;cases hd;have hn := (List.getElem?_eq_some_iff.mp hp).1;have dr : ps.drop n = p :: ps.drop (n + 1) := by
     rw [List.drop_eq_getElem_cons hn];rw [List.getElem?_eq_getElem hn] at hp;cases hp;rfl
    cases p with
    | word v =>
     refine aO (b := false) (T.gu (oS (aI (d := .str "word") (aa 2) ag rfl) aS) (by decide)) (fun h => by cases h) (fun _ => ai ?_);refine fR 1 true rfl (aI (d := .str v) (aa 2) ag rfl) rfl (by rw [length_map]; omega) ?_;refine ai ⟨some (.pl false (cH (.word v))), ws ++ [v], ?_, by simp; omega, ?_⟩
     . rw [map_append]; rfl
     . rw [hw, dr]; simp [fw]
    | beg v =>
     refine aO (b := true) (T.gu (oS (aI (d := .str "begin") (aa 2) ag rfl) aS) (by decide)) (fun _ => ?_) (fun h => by cases h);refine aD true (E.cast (aa 1) ?_) rfl;rw [hw, dr];simp [fw, aj]
    | fin v =>
     refine aO (b := true) (T.gu (oS (aI (d := .str "end") (aa 2) ag rfl) aS) (by decide)) (fun _ => ?_) (fun h => by cases h);refine aD true (E.cast (aa 1) ?_) rfl;rw [hw, dr];simp [fw, aj]
    | any =>
     refine aO (b := true) (T.gu (oS (aI (d := .str "any") (aa 2) ag rfl) aS) (by decide)) (fun _ => ?_) (fun h => by cases h);refine aD true (E.cast (aa 1) ?_) rfl;rw [hw, dr];simp [fw, aj]
    | upto v =>
     refine aO (b := true) (T.gu (oS (aI (d := .str "upto") (aa 2) ag rfl) aS) (by decide)) (fun _ => ?_) (fun h => by cases h);refine aD true (E.cast (aa 1) ?_) rfl;rw [hw, dr];simp [fw, aj]
    | eY v =>
     refine aO (b := true) (T.gu (oS (aI (d := .str "in") (aa 2) ag rfl) aS) (by decide)) (fun _ => ?_) (fun h => by cases h);refine aD true (E.cast (aa 1) ?_) rfl;rw [hw, dr];simp [fw, aj]
 . rintro r ⟨o2, ws, e, hl, hw⟩;subst e;refine aD true (E.cast (aa 1) ?_) rfl;rw [hw, length_map, List.drop_length];simp [fw, aj]
theorem qJ (Fx : eg K "begins_of" "begins_of" gR f fd) (hmg : mg "begins_of" = some (.ref f)) (hb : Binds K fd ["rows", "places", "words"] []) (B : gE mg) (dS : Def P w K mg base 4 "stretch_of" true oU) : Def P w K mg base 5 "begins_of" true qM := by
 refine bq Fx jT hmg hb (by rintro ds d ⟨rows, ws, h1, h2, e1, e2⟩; subst e1; rfl) ?_;rintro cdv A outer s H Ex Z ds d hr ⟨rows, ws, h1, h2, e1, e2⟩;subst e1 e2;have nd := jT.nd;have hr4 : bx 4 _ := hr.mono (by decide);have hel := kW rows;refine aO (T.gu (Cv (d := aj ws) (d' := aj []) (aa 2) (mT bV) rfl (lj hr (iA _))) (kT ws [])) (fun h => ?_) (fun h => ai ?_)
 . have h0 : ws = [] := of_decide_eq_true h;refine aD false (E.cast (Eu (m := true) (ds := (ax rows).map dJ) (es := (fz rows).map dJ) (aa 1) (E.cast (kc (m := true) (me := false) ["rows"] [0] (fun d => match d with | .int i => .tup [.int i, .int ((rows.getD i.toNat []).length : Nat)] | d => d) (cA (dw (ds := rows.map aj) (aa 0) B.len) B.range) (fun C s H fp d hd => ?_) (by rw [bp, length_map]; exact mI (by omega)) (fun _ => .inr fun d hd => ?_)) ?_) (bh (by rw [length_map, length_map]; unfold fz; rw [length_map, length_range]; omega)) fun _ => ⟨.inr ?_, .inl rfl⟩) ?_) rfl
   . obtain ⟨i, hi, rfl⟩ := mem_map.mp hd;have hi : i < rows.length := by simpa using hi
     show E _ _ _ _ (.tup [.int _, .int ((rows.getD (0 + (i : Nat) : Int).toNat []).length : Nat)]);have e0 : ((0 : Int) + (i : Nat)).toNat = i := by omega
     rw [e0];refine ee (ab (aa 0) (aq (E.cast (dw (ds := (rows.getD i []).map D.str) (gx (aa 1) (aa 0) ?_) B.len) (by rw [length_map]))));rw [show ((0 : Int) + (i : Nat)) = ((i : Nat) : Int) by omega];exact dY (by simp [hi, aj])
   . obtain ⟨i, _, rfl⟩ := mem_map.mp hd;rfl
   . unfold bE fz;rw [map_map, map_map, length_map];congr 1;refine map_congr_left fun i _ => ?_;show D.tup [.int _, .int _] = D.tup [_, _];have e0 : ((0 : Int) + (i : Nat)).toNat = i := by omega
     rw [e0];simp
   . exact cO fun d hd => by obtain ⟨p, _, rfl⟩ := mem_map.mp hd; rfl
   . unfold fV ei;rw [if_pos h0, map_append]
 . have h0 : ws ≠ [] := of_decide_eq_false h;refine aQ 3 (ay dS hr4 (ab (aa 0) (ab (aa 1) (aq (aa 2)))) ⟨rows, ws, rfl, rfl⟩) rfl ?_ nd;refine aD false (E.cast (lz (m := true) (aa 1) (bI (aI (d := .int ((gV rows (ax rows) ws : Nat) : Int)) (aa 3) ag rfl)) (bI (aI (d := .int ((gV rows (ax rows) ws + manyN rows (ax rows) ws : Nat) : Int)) (aa 3) ag rfl)) fun _ => .inr (eT (cO fun d hd => by obtain ⟨p, _, rfl⟩ := mem_map.mp hd; rfl))) ?_) rfl;unfold fV ei;rw [if_neg h0, Bu, DS]
theorem wR (Fx : eg K "by_row" "by_row" m6 f fd) (hmg : mg "by_row" = some (.ref f)) (hb : Binds K fd ["begins"] []) (B : gE mg) : yK P w K mg base 1 "by_row" tZ := by
 refine Cm Fx pJ hmg hb (by rintro ds ks dss ⟨ps, h1, e1, _⟩; subst e1; rfl) fun cdv A outer s H Ex Z ds ks dss hr ⟨ps, h1, e1, e2, e3⟩ => ?_;subst e1 e2 e3;have nd := pJ.nd;refine xU 1 true ?_ nd;refine cC 2 (ds := ps.map dJ) (fun n r => ∃ o2, r = [some (.pl false (ei ps)), some (.gen (sE true (gK (lQ (ps.take n))) (gD (lQ (ps.take n))))), o2])
  (bc (aa 0)) (fun d hd => by obtain ⟨p, _, rfl⟩ := mem_map.mp hd; rfl) ⟨_, rfl⟩ (by rintro n r ⟨_, e⟩; subst e; simp) ?_ ?_ nd
 . rintro n d r hd ⟨o2, e⟩;subst e;rw [getElem?_map] at hd
   cases hp : ps[n]? with
   | none => rw [hp] at hd; cases hd
   | some p =>
    rw [hp] at hd;cases hd;have tk : ps.take (n + 1) = ps.take n ++ [p] := by rw [take_add_one, hp]; rfl
    have hgl := vD (ps.take n);have hfl := (ko (ps.take n)).length_eq;have htk : (ps.take n).length <= 200 := by rw [length_take]; omega
    obtain ⟨a1, a2⟩ := yL (lQ (ps.take n)) p;refine p7 1 true (k := .inl (p.1 : Int)) (d := .int (p.2 : Nat)) rfl (aI (d := .int (p.1 : Nat)) (aa 2) ag rfl) (aI (d := .int (p.2 : Nat)) (aa 2) ag rfl) rfl (by unfold gK; rw [length_map]; omega) (fun ds hds => ?_) ?_
    . obtain ⟨e, he, rfl⟩ := mem_map.mp hds;have := jW he;rw [length_map];omega
    . refine ai ⟨some (.pl true (dJ p)), ?_⟩;rw [a1, a2, tk, kh];rfl
 . rintro r ⟨o2, e⟩;subst e;rw [length_map, take_length];exact BY 1 rfl fun r A H v h => h
end
theorem DY {k : Nat} {A : Around} {d : D} (r : bx k A) (h : d.dep <= 1) : A.units + 2 + d.dep < cLine := by have := r.un; omega
section
variable {P : Program} {w : World} {K : Frag} {mg : HE} {base : Heap} {f : Addr} {fd : FuncData}
theorem xw {f1 f2 f3 : Addr} {fd1 fd2 fd3 : FuncData} (Fp : eg K "behind_part" "behind_part" cK f1 fd1) (m1 : mg "behind_part" = some (.ref f1)) (b1 : Binds K fd1 ["part", "row", "wholes"] []) (Fs : eg K "behind_parts" "behind_parts" cj f2 fd2) (m2 : mg "behind_parts" = some (.ref f2)) (b2 : Binds K fd2 ["parts", "row", "wholes"] []) (Fq : eg K "behind_question" "behind_question" bL f3 fd3) (m3 : mg "behind_question" = some (.ref f3)) (b3 : Binds K fd3 ["question", "row", "wholes"] []) (B : gE mg)
 (dU : Def P w K mg base 3 "behind_upto" false pQ) (dW : Def P w K mg base 1 "behind_word" true ny) (dF : Def P w K mg base 2 "fitting" true hW) (dUn : Def P w K mg base 1 "united" true jZ) : Def P w K mg base 32 "behind_parts" false (kG 9) :=
 et Fs m2 b2 B (eX Fp m1 b1 B dU dW dF 9 fun j hj => by
  cases hj;exact yg Fp m1 b1 Fs m2 b2 Fq m3 b3 B dU dW dF dUn 8)
theorem uK (Fx : eg K "add_met" "add_met" iK f fd) (B : gE mg) (dF : Def P w K mg base 1 "first_words" true qA) (dB : Def P w K mg base 5 "begins_of" true qM) (dG : yK P w K mg base 1 "by_row" tZ) (dP : Def P w K mg base 32 "behind_parts" false (kG 9))
 {rows : HA} {ps : List Pt} {m : List (HQ × Nat)} (h1 : rows.length <= 14) (h2 : lI rows <= 13) (hps : gC ps 9) (hpl : ps.length <= 900) (hm : d8 rows m) :
 fi P w K mg base lM 33 f fd ["met", "rows", "places", "parts"] (FW K [bg rows, ei (ax rows), bC ps] (.t (e9 m)) (.t (e9 (uL rows m ps)))) := by
 refine Hj Fx mG rfl (by simp) fun cdv A outer s H Ex F l hr hF => ?_;have nd := mG.nd;have hr1 : bx 1 _ := hr.mono (by decide);have hr5 : bx 5 _ := hr.mono (by decide);have hfw := CL ps;refine cB 4 (d := aj (fw ps)) (ay dF hr1 (aq (aa 3)) ⟨ps, hpl, rfl, rfl⟩) ?_ nd;refine kP 5 false (d := bC (ps.drop (fw ps).length)) (E.cast (lz (m := false) (ds := cP ps) (aa 3) (bI (dw (ds := (fw ps).map D.str) (aa 4) B.len)) d4) ?_) ?_ nd
 . rw [length_map, sg, cJ];unfold bC;rw [cJ, List.map_drop]
 have hrest : gC (ps.drop (fw ps).length) 9 := gp fun p hp => fP hps p (List.mem_of_mem_drop hp);have hbl := y3 rows (fw ps);have hgl := vD (fV rows (fw ps));have hfl := (ko (fV rows (fw ps))).length_eq;have hok : ∀ e ∈ lQ (fV rows (fw ps)), ∀ a ∈ e.2, placeOk rows (e.1, a) := fun e he a ha => (md.mp (List.mem_flatMap.mpr ⟨e, he, mem_map.mpr ⟨a, ha, rfl⟩⟩)).1;have hne : ∀ e ∈ lQ (fV rows (fw ps)), e.2.length <= 200 := fun e he => by have := jW he; omega
 have hrow : ∀ e ∈ lQ (fV rows (fw ps)), e.1 < rows.length := fun e he => BC (Q := fun r => r < rows.length) (fun p hp => (rR.mp hp).1.1) e he;have eP : uL rows m ps = cG m (bJ (lQ (fV rows (fw ps)))) (kJ rows ps) := rfl;rw [eP];generalize hG : lQ (fV rows (fw ps)) = G at hgl hfl hok hne hrow;refine Au 6 7 false (ds := lB (gK G) (gD G)) (fun n r => ∃ o6 o7 o8 o9 o10, r = [some (.gen (xC l (.t (e9 (cG m (bJ (G.take n)) (kJ rows ps)))))), some (.pl false (bg rows)), some (.pl false (ei (ax rows))), some (.pl false (bC ps)), some (.pl true (aj (fw ps))), some (.pl false (bC (ps.drop (fw ps).length))), o6, o7, o8, o9, o10]) [l] (fun l' hl' => ⟨0, .t (e9 m), by rw [List.mem_singleton.mp hl']; rfl⟩)
  (zc dG hr1 (aq (ay dB hr5 (ab (aa 1) (ab (aa 2) (aq (aa 4)))) ⟨rows, fw ps, by omega, by omega, rfl, rfl⟩)) ⟨fV rows (fw ps), by omega, rfl, by rw [hG], by rw [hG]⟩ [l] (fun a q => (hF a q).imp (fun z => by simp [z]) id) rfl) ⟨_, _, _, _, _, rfl⟩ (by rintro n r ⟨_, _, _, _, _, e⟩; subst e; simp) (fun d hd => by obtain ⟨q, _, rfl⟩ := mem_map.mp hd; exact ⟨_, _, rfl⟩) (fun n d1 d2 r hd ⟨o6, o7, o8, o9, o10, e⟩ => ?_) (fun r ⟨o6, o7, o8, o9, o10, e⟩ => ?_) nd
 . subst e;unfold lB at hd;rw [getElem?_map] at hd
   cases hz : ((gK G).zip (gD G))[n]? with
   | none => rw [hz] at hd; cases hd
   | some q =>
    rw [hz] at hd;obtain ⟨z1, z2⟩ := List.getElem?_zip_eq_some.mp hz;unfold gK at z1;unfold gD at z2;rw [getElem?_map] at z1 z2
    cases hg : G[n]? with
    | none => rw [hg] at z1; cases z1
    | some e =>
     rw [hg] at z1 z2;have z1 : q.1 = (.inl (e.1 : Int) : Key) := (Option.some.inj z1).symm;have z2 : q.2 = e.2.map fun a => D.int (a : Nat) := (Option.some.inj z2).symm;have hd : D.tup [kD q.1, .lst q.2] = D.tup [d1, d2] := Option.some.inj hd;rw [z1, z2] at hd;injection hd with hd;injection hd with w1 hd;injection hd with w2 _;subst w1 w2;have heG : e ∈ G := mem_of_getElem? hg;have her := hrow e heG;have hel := hne e heG;have heo := hok e heG;have tk : G.take (n + 1) = G.take n ++ [e] := by rw [take_add_one, hg]; rfl
     have ft : bJ (G.take (n + 1)) = bJ (G.take n) ++ e.2.map fun a => (e.1, a) := by rw [tk]; unfold bJ; rw [List.flatMap_append]; simp
     have hrl := pV her;have grow : (rows.map aj)[e.1]? = some (aj (rows.getD e.1 [])) := by simp [her, aj]
     have hm0 : d8 rows (cG m (bJ (G.take n)) (kJ rows ps)) := hm.add _ _ fun p hp => by
      obtain ⟨x, hx, hp⟩ := List.mem_flatMap.mp hp;obtain ⟨a, ha, rfl⟩ := mem_map.mp hp;exact hok x (List.mem_of_mem_take hx) a ha
     have hv : ∀ a ∈ e.2, a <= 13 := fun a ha => by have := (heo a ha).2; have : a <= (rows.getD e.1 []).length := this; omega
     have hfw13 : (fw ps).length <= 900 := by omega
     refine kP 8 false (d := aJ (e.2.map fun a => kJ rows ps (e.1, a))) (E.cast (ay dP hr (ab (aa 5) (ab (gx (d := aj (rows.getD e.1 [])) (aa 1) (aa 6) (dY grow)) (aq (E.cast (kc (m := false) (me := true) ["words"] [4] (fun d => match d with | .int i => .int ((1 <<< (i.toNat + (fw ps).length) : Nat) : Int) | d => d) (bc (aa 7)) (fun C s H fp d hd => ?_) (by rw [length_map]; exact mI (by omega)) (fun h => by cases h)) (show _ = aJ (e.2.map fun a => 1 <<< (a + (fw ps).length)) from ?_))))) ⟨ps.drop (fw ps).length, rows.getD e.1 [], e.2.map fun a => 1 <<< (a + (fw ps).length), hrest, by omega, by rw [length_map]; omega, rfl, rfl⟩) ?_) ?_ nd
     . obtain ⟨a, ha, rfl⟩ := mem_map.mp hd;have := hv a ha;show E _ _ _ _ (.int ((1 <<< (((a : Nat) : Int).toNat + (fw ps).length) : Nat) : Int));rw [Int.toNat_natCast];exact tL (i := 1) (n := a + (fw ps).length) Bj (E.cast (cE (aa 0) (dw (ds := (fw ps).map D.str) (aa 1) B.len)) (by rw [length_map]; simp)) (by decide) (by omega)
     . unfold aJ;rw [map_map, map_map];congr 1
     . congr 1;rw [map_map];rfl
     refine p5 9 10 false (ds := lL (e.2.map fun a => D.int (a : Nat)) ((e.2.map fun a => kJ rows ps (e.1, a)).map fun x => D.int (x : Nat))) (fun k r => ∃ o9 o10, r = [some (.gen (xC l (.t (e9 (cG m (bJ (G.take n) ++ (e.2.take k).map fun a => (e.1, a)) (kJ rows ps)))))), some (.pl false (bg rows)), some (.pl false (ei (ax rows))), some (.pl false (bC ps)), some (.pl true (aj (fw ps))), some (.pl false (bC (ps.drop (fw ps).length))), some (.pl false (.int (e.1 : Nat))), some (.pl false (.lst (e.2.map fun a => D.int (a : Nat)))), some (.pl false (aJ (e.2.map fun a => kJ rows ps (e.1, a)))), o9, o10])
      (yJ (aa 7) (aa 8) B.zip) ⟨o9, o10, by rw [List.take_zero, map_nil, append_nil]; rfl⟩ (by rintro n r ⟨_, _, e⟩; subst e; simp) (fun d hd => by obtain ⟨q, _, rfl⟩ := mem_map.mp hd; exact ⟨_, _, rfl⟩) (fun k d1 d2 r hd ⟨o9, o10, er⟩ => ?_) (fun r ⟨o9, o10, er⟩ => ?_) nd
     . subst er;obtain ⟨y1, y2, g1, g2, g3⟩ := rL hd;injection g3 with g3;injection g3 with w1 g3;injection g3 with w2 _;subst w1 w2;rw [getElem?_map] at g1;rw [getElem?_map, getElem?_map] at g2
       cases ha : e.2[k]? with
       | none => rw [ha] at g1; cases g1
       | some a =>
        rw [ha] at g1 g2;cases g1;cases g2;have ham : a ∈ e.2 := mem_of_getElem? ha;have tka : (e.2.take (k + 1)).map (fun a => (e.1, a)) = (e.2.take k).map (fun a => (e.1, a)) ++ [(e.1, a)] := by rw [take_add_one, ha, map_append]; rfl
        rw [tka, <- List.append_assoc, ij];have hm1 : d8 rows (cG m (bJ (G.take n) ++ (e.2.take k).map fun a => (e.1, a)) (kJ rows ps)) := hm.add _ _ fun p hp => by
         rcases mem_append.mp hp with hp | hp
         . obtain ⟨x, hx, hp⟩ := List.mem_flatMap.mp hp;obtain ⟨b, hb, rfl⟩ := mem_map.mp hp;exact hok x (List.mem_of_mem_take hx) b hb
         . obtain ⟨b, hb, rfl⟩ := mem_map.mp hp;exact heo b (List.mem_of_mem_take hb)
        have hml := vb hm1;generalize cG m (bJ (G.take n) ++ (e.2.take k).map fun a => (e.1, a)) (kJ rows ps) = m1 at hm1 hml;refine yU 0 (o' := .t (e9 (xi m1 (e.1, a) (cR m1 (e.1, a) ||| kJ rows ps (e.1, a))))) (v := V.int ((cR m1 (e.1, a) ||| kJ rows ps (e.1, a) : Nat) : Int)) rfl (ee (ab (aa 6) (aq (aa 9)))) (uA (BM (dr := .int ((cR m1 (e.1, a) : Nat) : Int)) (v := .non) (aa 0) (ee (ab (aa 6) (aq (aa 9)))) ag (DO.E6 (k := pk (e.1, a)) rfl rfl) rfl ?_ (Ad hr)) (aa 10)) rfl (DO.EH (k := pk (e.1, a)) rfl ?_ ?_) (Ad hr) ?_
        . rw [yq]; rfl
        . rw [sM, sizeLine_eq]; omega
        . rw [sZ _ _ _ hm1.nd]
        . exact ai ⟨_, _, rfl⟩
     . subst er;have hlz : (lL (e.2.map fun a => D.int (a : Nat)) ((e.2.map fun a => kJ rows ps (e.1, a)).map fun x => D.int (x : Nat))).length = e.2.length := by rw [nD]; simp
       refine ai ?_;rw [hlz, take_length, <- ft];exact ⟨_, _, _, _, _, rfl⟩
 . subst e;have hli : (lB (gK G) (gD G)).length = G.length := by unfold lB gK gD; simp
   refine ai ?_;rw [hli, take_length];rfl
theorem mM (Fx : eg K "met_by_ends" "met_by_ends" fD f fd) (hmg : mg "met_by_ends" = some (.ref f)) (hb : Binds K fd ["rows", "places", "question"] []) (B : gE mg) {fa : Addr} {fda : FuncData} (Fa : eg K "add_met" "add_met" iK fa fda) (ma : mg "add_met" = some (.ref fa)) (ba : Binds K fda ["met", "rows", "places", "parts"] [])
 (dF : Def P w K mg base 1 "first_words" true qA) (dB : Def P w K mg base 5 "begins_of" true qM) (dG : yK P w K mg base 1 "by_row" tZ) (dP : Def P w K mg base 32 "behind_parts" false (kG 9)) (dN : Def P w K mg base 1 "numbers_in" true sk) : Def P w K mg base 34 "met_by_ends" true (qY 9) := by
 refine bq Fx hJ hmg hb (by rintro ds d ⟨rows, q, h1, h2, h3, h4, h5, e1, e2⟩; subst e1; rfl) ?_;rintro cdv A outer s H Ex Z ds d hr ⟨rows, q, h1, h2, h3, h4, h5, e1, e2⟩;subst e1 e2;have nd := hJ.nd;have hr1 : bx 1 _ := hr.mono (by decide);have hqd : aL q = .lst (q.map bC) := by unfold aL; rw [iP]; rfl
 rw [hqd];refine BS 3 AU ?_ nd;refine g6 4 false (ds := q.map bC) (fun n r => ∃ o4, r = [some (.pl false (bg rows)), some (.pl false (ei (ax rows))), some (.pl false (.lst (q.map bC))), some (.od (.t (e9 (di rows (q.take n))))), o4, none, none])
  (bc (aa 2)) ⟨_, rfl⟩ (by rintro n r ⟨_, e⟩; subst e; simp) ?_ ?_ nd
 . rintro n d r hd ⟨o4, e⟩;subst e;rw [getElem?_map] at hd
   cases hp : q[n]? with
   | none => rw [hp] at hd; cases hd
   | some ps =>
    rw [hp] at hd;cases hd;have hpm : ps ∈ q := mem_of_getElem? hp;have tk : q.take (n + 1) = q.take n ++ [ps] := by rw [take_add_one, hp]; rfl
    have hm := vi rows (q.take n);rw [tk, kL];generalize di rows (q.take n) = m at hm;refine zN 3 (uK (m := m) (ps := ps) Fa B dF dB dG dP h4 h5 (eN h1 ps hpm) (h2 ps hpm) hm) ba Fa.kp ma hr rfl (ab (aa 0) (ab (aa 1) (aq (aa 4)))) ?_;exact ai ⟨_, rfl⟩
 . rintro r ⟨o4, e⟩;subst e;rw [length_map, take_length];have hm := vi rows q;have hml := vb hm;have hsk := wk hm;refine xB 3 rfl ?_;refine fG 5 (cN bV) rfl ?_ nd;have hkl : (cW rows (di rows q)).length <= 27 := by rw [<- (gJ hm).length_eq, length_map]; omega
   have ekt : (e9 (di rows q)).map (fun q => Cd q.1) = ((di rows q).map (·.1)).map dJ := by unfold e9; rw [map_map, map_map]; rfl
   have htl : ∀ k, (dh rows q ((cW rows (di rows q)).take k)).length <= 27 * 14 := fun k => by
    refine Nat.le_trans (zJ h4 h5 q fun p hp => jP.mp (mem_filter.mp (List.mem_of_mem_take hp)).1) (Nat.mul_le_mul ?_ (Nat.le_refl _));rw [length_take]; omega
   refine cC 6 (ds := (cW rows (di rows q)).map dJ) (fun n r => ∃ o4 o6, r = [some (.pl false (bg rows)), some (.pl false (ei (ax rows))), some (.pl false (.lst (q.map bC))), some (.pl true (.dct (.t (e9 (di rows q))))), o4, some (.ow true ((dh rows q ((cW rows (di rows q)).take n)).map wD)), o6])
    (bc (m := true) (E.cast (tM (P := zQ) (kd := tuples' true) (aa 3) AN zT (fun x hx => ?_) (by rw [sM]; omega) hr.hd B.sorted) (by rw [ekt, hsk]))) (fun d hd => by obtain ⟨p, _, rfl⟩ := mem_map.mp hd; rfl) ⟨_, _, rfl⟩ (by rintro n r ⟨_, _, e⟩; subst e; simp) (fun n d r hd ⟨o4, o6, e⟩ => ?_) (fun r ⟨o4, o6, e⟩ => ?_) nd
   . obtain ⟨y, _, rfl⟩ := mem_map.mp hx;refine ⟨⟨y.1, rfl⟩, ?_⟩;exact DY hr (by show (dJ y.1).dep <= 1; simp [dJ, D.dep, cu])
   . subst e;rw [getElem?_map] at hd
     cases hp : (cW rows (di rows q))[n]? with
     | none => rw [hp] at hd; cases hd
     | some p =>
      rw [hp] at hd;cases hd;have hpm : p ∈ cW rows (di rows q) := mem_of_getElem? hp;have hpk : p ∈ (di rows q).map (·.1) := of_decide_eq_true (mem_filter.mp hpm).2;have hpo : placeOk rows p := jP.mp (mem_filter.mp hpm).1;have hv := rB rows q hpo;have hrl := pV hpo.1;have hp2 : p.2 <= (rows.getD p.1 []).length := hpo.2;have hlt := oX (row := rows.getD p.1 []) q (eR (show p.2 < (rows.getD p.1 []).length + 1 by omega));have hn := i8 hlt;have hlt2 : mQ (rows.getD p.1 []) q (1 <<< p.2) < 2 ^ 62 := Nat.lt_of_lt_of_le hlt (Nat.pow_le_pow_right (by decide) (by omega));have tk : dh rows q ((cW rows (di rows q)).take (n + 1)) = dh rows q ((cW rows (di rows q)).take n) ++ (dH (mQ (rows.getD p.1 []) q (1 <<< p.2))).map fun t => (p.1, p.2, t) := by
       rw [take_add_one, hp];unfold dh;rw [List.flatMap_append];simp
      have hz := htl n;refine gn 5 true rfl (es := ((dH (mQ (rows.getD p.1 []) q (1 <<< p.2))).map fun t => (p.1, p.2, t)).map wD) (E.cast (kc (me := false) ["begin"] [6] (fun d => .tup [.int (p.1 : Nat), .int (p.2 : Nat), d]) (bc (ay dN (hr.mono (by decide)) (aq (Eb (dr := .int ((mQ (rows.getD p.1 []) q (1 <<< p.2) : Nat) : Int)) (aa 3) (aa 6) (DO.E6 (k := pk p) rfl ?_) rfl (Ad hr))) ⟨_, hlt2, rfl, rfl⟩)) (fun C s H fp d hd => ?_) (by rw [length_map, sizeLine_eq]; omega) (fun _ => .inr fun d hd => by obtain ⟨a, _, rfl⟩ := mem_map.mp hd; rfl)) (by rw [map_map, map_map]; rfl)) (w8 _) (by rw [length_map, length_map, length_map, sizeLine_eq]; omega) ?_
      . rw [nF, if_pos hpk, hv]
      . obtain ⟨a, ha, rfl⟩ := mem_map.mp hd;show E _ _ _ _ (.tup [.int (p.1 : Nat), .int (p.2 : Nat), .int (a : Nat)]);exact ee (ab (aI (d := .int (p.1 : Nat)) (aa 1) ag rfl) (ab (aI (d := .int (p.2 : Nat)) (aa 1) ag rfl) (aq (aa 0))))
      . refine ai ?_;rw [tk, map_append];exact ⟨_, _, rfl⟩
   . subst e;rw [length_map, take_length, v9];exact aD true (aa 5) rfl
theorem jF (Fx : eg K "_law_words_alone" "_law_words_alone" cY f fd) (hmg : mg "_law_words_alone" = some (.ref f)) (hb : Binds K fd ["_law_words_here", "_law_rows_here", "_law_cell"] []) (B : gE mg) (dP : Def P w K mg base 1 "_law_part" true pg) : Def P w K mg base 2 "_law_words_alone" true Af := by
 refine bq Fx fg hmg hb (by rintro ds d ⟨ws, rows, c, a1, a2, a3, a4, e1, e2⟩; subst e1; rfl) ?_;rintro cdv A outer s H Ex Z ds d hr ⟨ws, rows, c, hw, h0, h14, h13, e1, e2⟩;subst e1 e2;have nd := fg.nd;have hm := rA c;have hrw := vO h0 c;unfold kN;have hrowD : (rows.map aj)[uD rows c]? = some (aj (rows.getD (uD rows c) [])) := by simp [hrw.1]
 have hl13 := h13 _ (gj hrw.1);generalize rows.getD (uD rows c) [] = row at hrowD hl13;refine kP 3 false (d := aj row) (gx (aa 1) (E.cast (ay dP hr (ab (aa 2) (ab ag (aq (E.cast (dw (ds := rows.map aj) (aa 1) B.len) (by rw [length_map]))))) ⟨c, 50, (rows.length : Nat), by omega, rfl, rfl⟩) (by rw [<- hrw.2])) (dY hrowD)) ?_ nd;refine fG 4 (cN bV) rfl ?_ nd;refine cC 5 (ds := bE 0 (oN c)) (fun n r => ∃ o5 o6 o7, r = [some (.pl false (aj ws)), some (.pl false (bg rows)), some (.pl false (.int c)), some (.pl false (aj row)), some (.ow true ((eB ws row c n).map bC)), o5, o6, o7])
  (cA (n := oN c) (E.cast (cE ag (ay dP hr (ab (aa 2) (ab ag (aq ag))) ⟨c, 51, 2, by decide, rfl, rfl⟩)) (by rw [<- hm.2])) B.range (by omega)) cb ⟨_, _, _, rfl⟩ (by rintro n r ⟨_, _, _, e⟩; subst e; simp) ?_ ?_ nd
 . rintro n d r hd ⟨o5, o6, o7, e⟩;subst e;obtain ⟨hn, rfl⟩ := bT hd;have hs := rN c n;refine cB 6 (d := .int ((fN c n : Nat) : Int)) (E.cast (cE ag (ay dP hr (ab (aa 2) (ab (cE ag (aa 5)) (aq ag))) ⟨c, 52 + (n : Nat), 3, by decide, rfl, rfl⟩)) (by rw [hs.2.2])) ?_ nd;refine cB 7 (d := aj (row.take (fN c n))) (E.cast (lz (m := true) (ds := row.map D.str) (aa 3) d4 (bI (aa 6)) (fun _ => .inr (eT (fU _)))) (by rw [zw, <- List.map_take]; rfl)) ?_ nd;have hse : (eB ws row c (n + 1)).map bC = (eB ws row c n).map bC ++ [bC ((gT ws row c n).map Pt.word)] := by unfold eB; rw [range_succ, map_append, map_append]; rfl
   have hsl := oH ws row c n;have hal : (eB ws row c n).length <= 2 := by unfold eB; rw [length_map, length_range]; omega
   refine yr [some (.pl false (aj ws)), some (.pl false (bg rows)), some (.pl false (.int c)), some (.pl false (aj row)), some (.ow true ((eB ws row c n).map bC)), some (.pl true (.int (n : Nat))), some (.pl true (.int ((fN c n : Nat) : Int))), some (.pl true (aj (gT ws row c n)))]
    (b := decide (row.take (fN c n) = []) || decide (part c (55 + (n : Nat)) 2 = 1)) (TW.t (vm (T.gu (Cv (aa 7) (mT bV) rfl (lj hr (iA _))) ?_) fun _ => tK (gv (ay dP hr (ab (aa 2) (ab (cE ag (aa 5)) (aq ag))) ⟨c, 55 + (n : Nat), 2, by decide, rfl, rfl⟩) ag))) (fun h => ?_) (fun h => ?_) ?_
   . cases row.take (fN c n) <;> simp [aj, aV, cV]
   . refine nq 7 (d := aj (gT ws row c n)) (EC.cast (uE (m := true) (me := false) ["_law_words_here", "_law_cell"] [0, 2] (fun d => match d with | .int j => .str (ws.getD (part c (60 + j) 4).toNat "") | d => d) (cA (n := fN c n) (aa 6) B.range (by omega)) (fun C s H fp d hd => ?_) (by rw [bp]; exact bh (by omega)) (fun _ => .inr fun d hd => by obtain ⟨j, hj⟩ := List.mem_iff_getElem?.mp hd; obtain ⟨_, rfl⟩ := bT hj; rfl)) ?_) (ai rfl) nd
     . obtain ⟨j, hj⟩ := List.mem_iff_getElem?.mp hd;obtain ⟨hj, rfl⟩ := bT hj;have a := cL c (60 + (j : Nat)) (m := 4) (by decide);have b := eJ c (60 + (j : Nat)) (m := 4) (by decide);show E _ _ _ _ (.str (ws.getD (part c (60 + (j : Nat)) 4).toNat ""));exact gx (aa 1) (ay dP hr (ab (aa 2) (ab (cE ag (aa 0)) (aq ag))) ⟨c, 60 + (j : Nat), 4, by decide, rfl, rfl⟩) (fo a (jY (by have := hw.1; omega)))
     . unfold gT;rw [if_pos h];unfold u5 aj bE;simp [Function.comp_def]
   . refine ai ?_;unfold gT;rw [if_neg (by rw [h]; simp)];rfl
   . refine wb 4 true rfl (d := bC ((gT ws row c n).map Pt.word)) (E.cast (kc (m := true) (me := false) [] [] (fun d => .tup [.str "word", d]) (bc (aa 7)) (fun C s H fp d hd => by obtain ⟨i, _, rfl⟩ := mem_map.mp hd; exact ee (ab aS (aq (aa 0)))) (by rw [length_map]; exact bh (by omega)) (fun _ => .inr fun d hd => by obtain ⟨i, _, rfl⟩ := mem_map.mp hd; rfl)) ?_) (by rw [length_map]; omega) ?_
     . unfold bC;rw [cJ, map_map, map_map];simp [Function.comp_def, cH]
     . refine ai ?_;rw [hse];exact ⟨_, _, _, rfl⟩
 . rintro r ⟨o5, o6, o7, e⟩;subst e;refine aD true (E.cast (aa 4) ?_) rfl;rw [bp];unfold aL;rw [iP];rfl
theorem tD (Fx : eg K "_law_due" "_law_due" kK f fd) (hmg : mg "_law_due" = some (.ref f)) (hb : Binds K fd ["_law_rows_here", "_law_question_here"] []) (B : gE mg) (dL : Def P w K mg base 22 "_law_plain_spans" true (ly 9)) : Def P w K mg base 23 "_law_due" true CC := by
 refine bq Fx mO hmg hb (by rintro ds d ⟨rows, q, h1, h2, h3, h4, e1, e2⟩; subst e1; rfl) ?_;rintro cdv A outer s H Ex Z ds d hr ⟨rows, q, h1, h2, h3, h4, e1, e2⟩;subst e1 e2;have nd := mO.nd;have h13 : ∀ r ∈ rows, r.length <= 13 := fun r hr => (h4 r hr).1;refine fG 2 (cN bV) rfl ?_ nd;refine cC 3 (ds := bE 0 rows.length) (fun n r => n <= rows.length /\ ∃ o3, r = [some (.pl false (bg rows)), some (.pl false (aL q)), some (.ow true ((jd rows q n).map wD)), o3])
  (cA (n := rows.length) (E.cast (dw (ds := rows.map aj) (aa 0) B.len) (by rw [length_map])) B.range (by omega)) cb ⟨by omega, _, rfl⟩ (by rintro n r ⟨_, _, e⟩; subst e; simp) ?_ ?_ nd
 . rintro n d r hd ⟨hn', o3, e⟩;subst e;obtain ⟨hn, rfl⟩ := bT hd;have hrowD : (rows.map aj)[n]? = some (aj (rows.getD n [])) := by simp [hn]
   have hmem := gj hn;have hl13 := h4 _ hmem;have hms := oC rows q n;have hl1 := mN h13 q n hn';have hm : n * 196 <= 14 * 196 := Nat.mul_le_mul (by omega) (Nat.le_refl _);generalize rows.getD n [] = row at hrowD hl13 hms;have hl2 := jO hl13.1 q;refine gn 2 true rfl (es := (jD row q).map fun s => wD (n, s.1, s.2)) (E.cast (kc (m := true) (me := false) ["_law_number"] [3] (fun d => match d with | .tup [a, b] => .tup [.int (n : Nat), a, b] | d => d) (bc (ay dL hr (ab (aa 1) (aq (gx (d := aj row) (aa 0) (aa 3) (dY hrowD)))) ⟨q, row, h1, h2, hl13.1, hl13.2, rfl, rfl⟩))
    (fun C s H fp d hd => ?_) (by rw [length_map]; exact bh (by omega)) (fun _ => .inr fun d hd => by obtain ⟨i, _, rfl⟩ := mem_map.mp hd; rfl)) (by simp [dJ, wD, Function.comp_def])) (by
     refine cO fun d hd => ?_;obtain ⟨i, _, rfl⟩ := mem_map.mp hd;rfl) (by rw [length_map, length_map]; exact mI (by omega)) ?_
   . obtain ⟨sp, _, rfl⟩ := mem_map.mp hd;exact ee (ab (aa 1) (ab (aI (d := .int (sp.1 : Nat)) (aa 0) ag rfl) (aq (aI (d := .int (sp.2 : Nat)) (aa 0) ag rfl))))
   refine ai ⟨hn, some (.pl true (.int (n : Nat))), ?_⟩;rw [hms, map_append, map_map];rfl
 . rintro r ⟨hn', o3, e⟩;subst e;refine aD true (E.cast (aa 2) ?_) rfl;rw [bp]
def y6 (rows : HA) : Prop := rows.length <= 14 /\ lI rows <= 13 /\ ∀ r ∈ rows, r.length <= 13 /\ ∀ z ∈ r, z.length <= 1000
def tw (q : List (List Pt)) : Prop := nU q 9 /\ tm q /\ (∀ ps ∈ q, ps.length <= 900) /\ q.length <= 900
theorem CK {ws : HL} (hw : bH ws) {cells : HM} (h : cells.length <= 13) : y6 (bY ws cells) := by
 have a := oZ ws cells;have b := wU ws cells;exact ⟨by omega, by omega, fun r hr => ⟨by have := (a.2 r hr).1; omega, sR hw cells r hr⟩⟩
theorem wm {rows : HA} (h : y6 rows) (q : List (List Pt)) : (jd rows q rows.length).length <= 14 * 196 := Nat.le_trans (mN (fun r hr => (h.2.2 r hr).1) q rows.length (Nat.le_refl _)) (Nat.mul_le_mul h.1 (Nat.le_refl _))
theorem Ea (Fx : eg K "law" "law" kz f fd) (B : gE mg) (dC : Def P w K mg base 1 "_law_cell_at" true qR) (dW : Def P w K mg base 2 "_law_words" true vY) (dR : Def P w K mg base 2 "_law_rows" true ym) (dQ : Def P w K mg base 3 "_law_question" true pD) (dA : Def P w K mg base 2 "_law_words_alone" true Af)
 (dE : Def P w K mg base 6 "ends" true zX) (dM : Def P w K mg base 34 "met_by_ends" true (qY 9)) (dD : Def P w K mg base 23 "_law_due" true CC) : fi P w K mg base lM 36 f fd ["_law_script"] (Ez K false DC) := by
 refine G0 Fx yi (by rintro ds d ⟨ns, hz, e1, e2⟩; subst e1; rfl) ?_;rintro cdv A outer s H Ex Z ds d hr ⟨ns, hz, e1, e2⟩;subst e1 e2;have nd := yi.nd;have hr1 : bx 1 _ := hr.mono (by decide);have hr2 : bx 2 _ := hr.mono (by decide);have hr3 : bx 3 _ := hr.mono (by decide);have hr6 : bx 6 _ := hr.mono (by decide);have hr23 : bx 23 _ := hr.mono (by decide);have hr34 : bx 34 _ := hr.mono (by decide);have hcut2 : (cut ns (some 2) (some 15)).length <= 13 := by
  rw [show (some (2 : Int)) = some ((2 : Nat) : Int) from rfl, show (some (15 : Int)) = some ((15 : Nat) : Int) from rfl, jS, length_take];omega
 have hcut1 : (cut ns (some 10) (some 22)).length <= 13 := by
  rw [show (some (10 : Int)) = some ((10 : Nat) : Int) from rfl, show (some (22 : Int)) = some ((22 : Nat) : Int) from rfl, jS, length_take];omega
 have hcut3 : (cut ns (some 26) (some 34)).length <= 8 := by
  rw [show (some (26 : Int)) = some ((26 : Nat) : Int) from rfl, show (some (34 : Int)) = some ((34 : Nat) : Int) from rfl, jS, length_take];omega
 refine cB 1 (d := aj (fC (cellAt ns 0) (cellAt ns 1))) (ay dW hr2 (ab (ay dC hr1 (ab (aa 0) (aq ag)) ⟨ns, 0, by omega, rfl, rfl⟩) (aq (ay dC hr1 (ab (aa 0) (aq ag)) ⟨ns, 1, by omega, rfl, rfl⟩))) ⟨_, _, rfl, rfl⟩) ?_ nd;have hwo := xy (cellAt ns 0) (cellAt ns 1);generalize fC (cellAt ns 0) (cellAt ns 1) = ws at hwo;refine cB 2 (d := bg (bY ws (cut ns (some 2) (some 15)))) (ay dR hr2 (ab (aa 1) (aq (lz (m := true) (aa 0) (bI ag) (bI ag) (fun _ => .inr (eT (gk _)))))) ⟨ws, cut ns (some 2) (some 15), hwo.1, by omega, by rw [qc]; rfl, rfl⟩) ?_ nd;have hR := CK hwo hcut2;have hR0 := wM ws (cut ns (some 2) (some 15));have hRm := oF hwo.1 (cut ns (some 2) (some 15));generalize bY ws (cut ns (some 2) (some 15)) = rows at hR hR0 hRm;refine cB 3 (d := bg (bY ws (cut ns (some 10) (some 22)))) (ay dR hr2 (ab (aa 1) (aq (lz (m := true) (aa 0) (bI ag) (bI ag) (fun _ => .inr (eT (gk _)))))) ⟨ws, cut ns (some 10) (some 22), hwo.1, by omega, by rw [qc]; rfl, rfl⟩) ?_ nd;have hO := CK hwo hcut1;generalize bY ws (cut ns (some 10) (some 22)) = others at hO;refine cB 4 (d := aL (bX ws (cellAt (cut ns (some 26) (some 34)) 0 + 3) (cut ns (some 26) (some 34)))) (ay dQ hr3 (ab (aa 1) (aq (lz (m := true) (aa 0) (bI ag) (bI ag) (fun _ => .inr (eT (gk _)))))) ⟨ws, cut ns (some 26) (some 34), hwo, hcut3, by rw [qc]; rfl, rfl⟩) ?_ nd;have hI := jC hwo (cellAt (cut ns (some 26) (some 34)) 0 + 3) (cut ns (some 26) (some 34));have h1 : tw (bX ws (cellAt (cut ns (some 26) (some 34)) 0 + 3) (cut ns (some 26) (some 34))) := ⟨za hI.ok (show _ <= 9 by omega), wC hwo _ _, fun ps hps => by have := hI.rows ps hps; omega, by have := hI.len; omega⟩
 generalize bX ws (cellAt (cut ns (some 26) (some 34)) 0 + 3) (cut ns (some 26) (some 34)) = q1 at h1;refine cB 5 (d := aL (kN ws rows (cellAt ns 34))) (ay dA hr2 (ab (aa 1) (ab (aa 2) (aq (ay dC hr1 (ab (aa 0) (aq ag)) ⟨ns, 34, by omega, rfl, rfl⟩)))) ⟨ws, rows, cellAt ns 34, hwo, hR0, hR.1, fun r hr => (hR.2.2 r hr).1, rfl, rfl⟩) ?_ nd;have h2 : tw (kN ws rows (cellAt ns 34)) := by
  have hm := rA (cellAt ns 34);refine ⟨wJ _ _ _ _, xO hwo (hRm _ (gj (vO hR0 _).1)) _ _, fun ps hps => by have := t9 ps hps; omega, ?_⟩;unfold kN eB;rw [length_map, length_range];omega
 generalize kN ws rows (cellAt ns 34) = q2 at h2;refine g6 6 false (ds := [aL q1, aL q2]) (fun n r => ∃ o6 o7 o8 o9 o10, r = [some (.pl false (.lst (ns.map D.int))), some (.pl true (aj ws)), some (.pl true (bg rows)), some (.pl true (bg others)), some (.pl true (aL q1)), some (.pl true (aL q2)), o6, o7, o8, o9, o10])
  (bc (mT (ab (aa 4) (aq (aa 5))))) ⟨_, _, _, _, _, rfl⟩ (by rintro n r ⟨_, _, _, _, _, e⟩; subst e; simp) ?_ ?_ nd
 . rintro n d r hd ⟨o6, o7, o8, o9, o10, e⟩;subst e;have hq : ∃ q, d = aL q /\ tw q := by
    rcases mem_cons.mp (mem_of_getElem? hd) with e | e
    . exact ⟨q1, e, h1⟩
    . exact ⟨q2, by simpa using e, h2⟩
   obtain ⟨q, rfl, hq⟩ := hq;refine g6 7 false (ds := [bg rows, bg others]) (fun n r => ∃ o7 o8 o9 o10, r = [some (.pl false (.lst (ns.map D.int))), some (.pl true (aj ws)), some (.pl true (bg rows)), some (.pl true (bg others)), some (.pl true (aL q1)), some (.pl true (aL q2)), some (.pl false (aL q)), o7, o8, o9, o10])
    (bc (mT (ab (aa 2) (aq (aa 3))))) ⟨_, _, _, _, rfl⟩ (by rintro n r ⟨_, _, _, _, e⟩; subst e; simp) (fun n d r hd' ⟨o7, o8, o9, o10, e⟩ => ?_) (fun r ⟨o7, o8, o9, o10, e⟩ => ?_) nd
   . subst e;have hX : ∃ rs, d = bg rs /\ y6 rs := by
      rcases mem_cons.mp (mem_of_getElem? hd') with e | e
      . exact ⟨rows, e, hR⟩
      . exact ⟨others, by simpa using e, hO⟩
     obtain ⟨rs, rfl, hX⟩ := hX;have hml := wm hX q;refine nq 8 (d := bg rs) (EC.cast (uE (m := true) (me := true) [] [] (fun d => d) (bc (aa 7)) (fun C s H fp d hd => ?_) (by rw [length_map]; exact bh (by have := hX.1; omega))) (by simp [bg])) ?_ nd
     . obtain ⟨row, _, rfl⟩ := mem_map.mp hd;exact Bg (aa 0) B.list (fun _ => .inr (fU _))
     have hge : zX [bg rs] (ei (ax rs)) := ⟨rs, by have := hX.2.1; omega, rfl, (AB rs).symm⟩
     refine cB 9 (d := ei (ax rs)) (ay dE hr6 (aq (aa 8)) hge) ?_ nd;refine cB 10 (d := .lst ((jd rs q rs.length).map wD)) (ay dM hr34 (ab (aa 8) (ab (aa 9) (aq (aa 6)))) ⟨rs, q, hq.1, hq.2.2.1, hq.2.2.2, hX.1, hX.2.1, rfl, rfl⟩) ?_ nd;refine aO (b := false) (T.gu (TW.t (vm (ES (yY (CJ (b := true) (aa 10) rfl boot_list B.isinstance B.list))) fun _ => vm (zj (aa 10) (ay dD hr23 (ab (aa 7) (aq (aa 6))) ⟨rs, q, hq.1, hq.2.1, hX.1, hX.2.2, rfl, rfl⟩) rfl (lj hr (vK _))) fun _ => tK (zj (aa 8) (aa 7) rfl (lj hr (zb _))))) (by simp [bO])) (fun h => by cases h) (fun h => ai ?_);refine aO (b := false) (T.gu (TW.t (vm (CD (bs := (jd rs q rs.length).map fun _ => true) Ek (E.cast (kc (m := true) (me := true) [] [] (fun _ => .bl true) (bc (aa 10)) (fun C s H fp d hd => ?_) (by rw [length_map]; exact mI (by omega))) (by simp [Function.comp_def]))) fun _ => tK (zj (aa 9) (ay dE hr6 (aq (aa 8)) hge) rfl (lj hr (Bi _))))) (by simp [bO])) (fun h => by cases h) (fun h => ai ?_)
     . obtain ⟨sp, _, rfl⟩ := mem_map.mp hd;exact CJ (aa 0) rfl boot_tuple B.isinstance B.tuple
     exact ai ⟨_, _, _, _, rfl⟩
   . subst e;exact ai ⟨_, _, _, _, _, rfl⟩
 . rintro r ⟨o6, o7, o8, o9, o10, e⟩;subst e;refine aD false (E.cast (E1 (ay dM hr34 (ab (E.cast (mT bV) (show D.lst [] = bg [] from rfl)) (ab (E.cast (mT bV) (show D.lst [] = ei (ax []) from ?_)) (aq (aa 4)))) ⟨[], q1, h1.1, h1.2.2.1, h1.2.2.2, by decide, by decide, rfl, rfl⟩) (E.cast (mT bV) (show D.lst [] = .lst ((jd [] q1 0).map wD) by simp [jd])) rfl (lj hr (vK _))) ?_) rfl
   . have hn : ax [] = [] := by
      have := (gq []).length_eq
      cases h : ax [] with
      | nil => rfl
      | cons a l => rw [h] at this; simp [gh, dj] at this
     rw [hn];rfl
   . simp [bO]
end
end
instance : Y.cq := ⟨[(92, "ends.<locals>.<lambda>"), (99, "stretch_of.<locals>.<lambda>")]⟩
def FK (K : Frag) (q : Str) (st : Stmt) (f : Addr) : Prop := PySem.W.nsIn K mainGlobals q = some (some (.ref f)) /\ ∃ fd, eg K q q st f fd
theorem fk {K : Frag} {q : Str} {st : Stmt} {f : Addr} {oc kV dc pm ct : Value} {od an : HH} {sl : HD} {cd : Value} (a : PySem.W.nsIn K mainGlobals q = some (some (.ref f))) (l : K.lookup f = some ⟨oc, od, .func (PySem.W.fnOf q q (cT st) (bA st) (ah st) .none kV dc pm an cd ct), sl⟩) (c : PySem.W.codeIn K cd q = true) (k : keepIn K (.ref f) = true) : FK K q st f := ⟨a, _, zY l c k⟩
def Gn (K : Frag) (q : Str) (st : Stmt) (f c : Addr) (n : Nat) : Prop := PySem.W.nsIn K mainGlobals q = some (some (.ref f)) /\ (∃ fd, ux K q q st f fd c) /\ codeHdIn K c n = true
theorem G7 {K : Frag} {q : Str} {st : Stmt} {f : Addr} {oc kV dc pm ct : Value} {od an : HH} {sl : HD} {cc : Addr} {n : Nat} (a : PySem.W.nsIn K mainGlobals q = some (some (.ref f))) (l : K.lookup f = some ⟨oc, od, .func (PySem.W.fnOf q q (cT st) (bA st) (ah st) .none kV dc pm an (.ref cc) ct), sl⟩) (c : PySem.W.codeIn K (.ref cc) q = true) (k : keepIn K (.ref f) = true) (h : codeHdIn K cc n = true) : Gn K q st f cc n := ⟨a, ⟨_, BU l c k⟩, h⟩
theorem xQ {us : HF} (h : us.length = 1) : ∃ a, us = [a] := by
  cases us with
  | nil => cases h
  | cons a r =>
    cases r with
    | nil => exact ⟨a, rfl⟩
    | cons b c => simp at h
theorem jH {us : HF} (h : us.length = 2) : ∃ a0 a1, us = [a0, a1] := by
  cases us with
  | nil => cases h
  | cons a r =>
    obtain ⟨a1, rfl⟩ := xQ (Nat.succ.inj h);exact ⟨a, a1, rfl⟩
theorem lh {us : HF} (h : us.length = 3) : ∃ a0 a1 a2, us = [a0, a1, a2] := by
  cases us with
  | nil => cases h
  | cons a r =>
    obtain ⟨a1, a2, rfl⟩ := jH (Nat.succ.inj h);exact ⟨a, a1, a2, rfl⟩
theorem Gs {us : HF} (h : us.length = 4) : ∃ a0 a1 a2 a3, us = [a0, a1, a2, a3] := by
  cases us with
  | nil => cases h
  | cons a r =>
    obtain ⟨a1, a2, a3, rfl⟩ := lh (Nat.succ.inj h);exact ⟨a, a1, a2, a3, rfl⟩
theorem all_mk {l : PySem.W.OpenLaw} {w : World} {K : Frag} {h : Heap} {mg : HE} {fa : Addr} (X : K.In h) (G : h.Ns mainGlobals mg) (hfa : mg "law" = some (.ref fa))
 {f1 f2 f3 f4 f5 f6 f7 f8 f9 f10 f11 f12 f13 cc13 f14 cc14 f15 f16 f17 f18 f19 f20 f21 f22 f23 f24 f25 f26 f27 f28 f29 f30 f31 f32 f33 : Addr} {od33 an33 : HH} {sl33 : HD} {oc33 kV33 dc33 pm33 cd33 ct33 : Value}
 (q1 : FK K "numbers_in" fS f1)
 (q2 : FK K "united" mS f2)
 (q3 : FK K "behind_question" bL f3)
 (q4 : FK K "behind_parts" cj f4)
 (q5 : FK K "behind_part" cK f5)
 (q6 : FK K "behind_upto" fJ f6)
 (q7 : FK K "behind_word" fI f7)
 (q8 : FK K "fitting" lg f8)
 (q9 : FK K "fits" tT f9)
 (q10 : FK K "all_places" fW f10)
 (q11 : FK K "end_of" nc f11)
 (q12 : FK K "order_of" jh f12)
 (q13 : Gn K "ends" qx f13 cc13 92)
 (q14 : Gn K "stretch_of" cZ f14 cc14 99)
 (q15 : FK K "first_behind" cX f15)
 (q16 : FK K "met_by_ends" fD f16)
 (q17 : FK K "add_met" iK f17)
 (q18 : FK K "first_words" fE f18)
 (q19 : FK K "begins_of" gR f19)
 (q20 : FK K "by_row" m6 f20)
 (q21 : FK K "_law_cell_at" fH f21)
 (q22 : FK K "_law_part" jk f22)
 (q23 : FK K "_law_words" gW f23)
 (q24 : FK K "_law_rows" jJ f24)
 (q25 : FK K "_law_plain_part" du f25)
 (q26 : FK K "_law_question" e7 f26)
 (q27 : FK K "_law_meets" h9 f27)
 (q28 : FK K "_law_one_on" eO f28)
 (q29 : FK K "_law_all_on" eK f29)
 (q30 : FK K "_law_plain_spans" cU f30)
 (q31 : FK K "_law_words_alone" cY f31)
 (q32 : FK K "_law_due" kK f32)
 (a33 : PySem.W.nsIn K mainGlobals "law" = some (some (.ref f33)))
 (l33 : K.lookup f33 = some ⟨oc33, od33, .func (PySem.W.fnOf "law" "law" (cT kz) (bA kz) (ah kz) .none kV33 dc33 pm33 an33 cd33 ct33), sl33⟩)
 (c33 : PySem.W.codeIn K cd33 "law" = true) (k33 : keepIn K (.ref f33) = true)
 (z_enumerate : PySem.W.nsIn K mainGlobals "enumerate" = some none)
 (z_isinstance : PySem.W.nsIn K mainGlobals "isinstance" = some none)
 (z_len : PySem.W.nsIn K mainGlobals "len" = some none)
 (z_list : PySem.W.nsIn K mainGlobals "list" = some none)
 (z_range : PySem.W.nsIn K mainGlobals "range" = some none)
 (z_sorted : PySem.W.nsIn K mainGlobals "sorted" = some none)
 (z_tuple : PySem.W.nsIn K mainGlobals "tuple" = some none)
 (z_zip : PySem.W.nsIn K mainGlobals "zip" = some none) :
 ∃ fd : FuncData, (∀ (s : Shared) (v : Value), BindsTo s fd ⟨[v], []⟩ [("_law_script", v)]) /\ ∀ base : Heap, K.In base -> base.Ns mainGlobals mg -> CB mg base -> fi l.prog w K mg base lM 36 fa fd ["_law_script"] (rX K) := by
 have e := hfa.symm.trans (mg_of X G a33);cases e;have B : gE mg := ⟨mg_none_of X G z_enumerate, mg_none_of X G z_isinstance, mg_none_of X G z_len, mg_none_of X G z_list, mg_none_of X G z_range, mg_none_of X G z_sorted, mg_none_of X G z_tuple, mg_none_of X G z_zip⟩
 obtain ⟨a1, _, F1⟩ := q1;obtain ⟨a2, _, F2⟩ := q2;obtain ⟨a3, _, F3⟩ := q3;obtain ⟨a4, _, F4⟩ := q4;obtain ⟨a5, _, F5⟩ := q5;obtain ⟨a6, _, F6⟩ := q6;obtain ⟨a7, _, F7⟩ := q7;obtain ⟨a8, _, F8⟩ := q8;obtain ⟨a9, _, F9⟩ := q9;obtain ⟨a10, _, F10⟩ := q10;obtain ⟨a11, _, F11⟩ := q11;obtain ⟨a12, _, F12⟩ := q12;obtain ⟨a13, ⟨_, G13⟩, h13⟩ := q13;obtain ⟨a14, ⟨_, G14⟩, h14⟩ := q14;obtain ⟨a15, _, F15⟩ := q15;obtain ⟨a16, _, F16⟩ := q16;obtain ⟨a17, _, F17⟩ := q17;obtain ⟨a18, _, F18⟩ := q18;obtain ⟨a19, _, F19⟩ := q19;obtain ⟨a20, _, F20⟩ := q20;obtain ⟨a21, _, F21⟩ := q21;obtain ⟨a22, _, F22⟩ := q22;obtain ⟨a23, _, F23⟩ := q23;obtain ⟨a24, _, F24⟩ := q24;obtain ⟨a25, _, F25⟩ := q25;obtain ⟨a26, _, F26⟩ := q26;obtain ⟨a27, _, F27⟩ := q27;obtain ⟨a28, _, F28⟩ := q28;obtain ⟨a29, _, F29⟩ := q29;obtain ⟨a30, _, F30⟩ := q30;obtain ⟨a31, _, F31⟩ := q31;obtain ⟨a32, _, F32⟩ := q32;have b1 := F1.binds (ps := ["whole"]) fun _ _ _ _ _ _ us hl => by obtain ⟨u0, rfl⟩ := xQ hl; rfl
 have b2 := F2.binds (ps := ["wholes", "others"]) fun _ _ _ _ _ _ us hl => by obtain ⟨u0, u1, rfl⟩ := jH hl; rfl
 have b3 := F3.binds (ps := ["question", "row", "wholes"]) fun _ _ _ _ _ _ us hl => by obtain ⟨u0, u1, u2, rfl⟩ := lh hl; rfl
 have b4 := F4.binds (ps := ["parts", "row", "wholes"]) fun _ _ _ _ _ _ us hl => by obtain ⟨u0, u1, u2, rfl⟩ := lh hl; rfl
 have b5 := F5.binds (ps := ["part", "row", "wholes"]) fun _ _ _ _ _ _ us hl => by obtain ⟨u0, u1, u2, rfl⟩ := lh hl; rfl
 have b6 := F6.binds (ps := ["most", "row", "wholes"]) fun _ _ _ _ _ _ us hl => by obtain ⟨u0, u1, u2, rfl⟩ := lh hl; rfl
 have b7 := F7.binds (ps := ["places", "wholes"]) fun _ _ _ _ _ _ us hl => by obtain ⟨u0, u1, rfl⟩ := jH hl; rfl
 have b8 := F8.binds (ps := ["part", "row"]) fun _ _ _ _ _ _ us hl => by obtain ⟨u0, u1, rfl⟩ := jH hl; rfl
 have b9 := F9.binds (ps := ["part", "word"]) fun _ _ _ _ _ _ us hl => by obtain ⟨u0, u1, rfl⟩ := jH hl; rfl
 have b10 := F10.binds (ps := ["rows"]) fun _ _ _ _ _ _ us hl => by obtain ⟨u0, rfl⟩ := xQ hl; rfl
 have b11 := F11.binds (ps := ["rows", "place"]) fun _ _ _ _ _ _ us hl => by obtain ⟨u0, u1, rfl⟩ := jH hl; rfl
 have b12 := F12.binds (ps := ["rows", "place"]) fun _ _ _ _ _ _ us hl => by obtain ⟨u0, u1, rfl⟩ := jH hl; rfl
 have F13 := G13.fn;have b13 := F13.binds (ps := ["rows"]) fun _ _ _ _ _ _ us hl => by obtain ⟨u0, rfl⟩ := xQ hl; rfl
 have F14 := G14.fn;have b14 := F14.binds (ps := ["rows", "places", "words"]) fun _ _ _ _ _ _ us hl => by obtain ⟨u0, u1, u2, rfl⟩ := lh hl; rfl
 have b15 := F15.binds (ps := ["rows", "places", "is_ahead"]) fun _ _ _ _ _ _ us hl => by obtain ⟨u0, u1, u2, rfl⟩ := lh hl; rfl
 have b16 := F16.binds (ps := ["rows", "places", "question"]) fun _ _ _ _ _ _ us hl => by obtain ⟨u0, u1, u2, rfl⟩ := lh hl; rfl
 have b17 := F17.binds (ps := ["met", "rows", "places", "parts"]) fun _ _ _ _ _ _ us hl => by obtain ⟨u0, u1, u2, u3, rfl⟩ := Gs hl; rfl
 have b18 := F18.binds (ps := ["parts"]) fun _ _ _ _ _ _ us hl => by obtain ⟨u0, rfl⟩ := xQ hl; rfl
 have b19 := F19.binds (ps := ["rows", "places", "words"]) fun _ _ _ _ _ _ us hl => by obtain ⟨u0, u1, u2, rfl⟩ := lh hl; rfl
 have b20 := F20.binds (ps := ["begins"]) fun _ _ _ _ _ _ us hl => by obtain ⟨u0, rfl⟩ := xQ hl; rfl
 have b21 := F21.binds (ps := ["_law_script", "_law_k"]) fun _ _ _ _ _ _ us hl => by obtain ⟨u0, u1, rfl⟩ := jH hl; rfl
 have b22 := F22.binds (ps := ["_law_cell", "_law_k", "_law_many"]) fun _ _ _ _ _ _ us hl => by obtain ⟨u0, u1, u2, rfl⟩ := lh hl; rfl
 have b23 := F23.binds (ps := ["_law_one", "_law_other"]) fun _ _ _ _ _ _ us hl => by obtain ⟨u0, u1, rfl⟩ := jH hl; rfl
 have b24 := F24.binds (ps := ["_law_words_here", "_law_cells"]) fun _ _ _ _ _ _ us hl => by obtain ⟨u0, u1, rfl⟩ := jH hl; rfl
 have b25 := F25.binds (ps := ["_law_words_here", "_law_cell"]) fun _ _ _ _ _ _ us hl => by obtain ⟨u0, u1, rfl⟩ := jH hl; rfl
 have b26 := F26.binds (ps := ["_law_words_here", "_law_cells"]) fun _ _ _ _ _ _ us hl => by obtain ⟨u0, u1, rfl⟩ := jH hl; rfl
 have b27 := F27.binds (ps := ["_law_part_here", "_law_word"]) fun _ _ _ _ _ _ us hl => by obtain ⟨u0, u1, rfl⟩ := jH hl; rfl
 have b28 := F28.binds (ps := ["_law_part_here", "_law_row", "_law_froms"]) fun _ _ _ _ _ _ us hl => by obtain ⟨u0, u1, u2, rfl⟩ := lh hl; rfl
 have b29 := F29.binds (ps := ["_law_question_here", "_law_row", "_law_froms"]) fun _ _ _ _ _ _ us hl => by obtain ⟨u0, u1, u2, rfl⟩ := lh hl; rfl
 have b30 := F30.binds (ps := ["_law_question_here", "_law_row"]) fun _ _ _ _ _ _ us hl => by obtain ⟨u0, u1, rfl⟩ := jH hl; rfl
 have b31 := F31.binds (ps := ["_law_words_here", "_law_rows_here", "_law_cell"]) fun _ _ _ _ _ _ us hl => by obtain ⟨u0, u1, u2, rfl⟩ := lh hl; rfl
 have b32 := F32.binds (ps := ["_law_rows_here", "_law_question_here"]) fun _ _ _ _ _ _ us hl => by obtain ⟨u0, u1, rfl⟩ := jH hl; rfl
 have F33 := zY (st := kz) l33 c33 k33;refine ⟨PySem.W.fnOf "law" "law" (cT kz) (bA kz) (ah kz) .none kV33 dc33 pm33 an33 cd33 ct33, fun s v => .of_eq rfl, fun base _ _ bm => ?_⟩;have D1 := n4 (P := l.prog) (w := w) (base := base) F1 (mg_of X G a1) b1 B;have D2 := w5 (P := l.prog) (w := w) (base := base) F2 (mg_of X G a2) b2 B;have D9 := AQ (P := l.prog) (w := w) (base := base) F9 (mg_of X G a9) b9 B;have D8 := uF (P := l.prog) (w := w) (base := base) F8 (mg_of X G a8) b8 B D9;have D7 := mJ (P := l.prog) (w := w) (base := base) F7 (mg_of X G a7) b7 B;have D6 := mz (P := l.prog) (w := w) (base := base) F6 (mg_of X G a6) b6 B D8 D2 D7;have D4 := xw (P := l.prog) (w := w) (base := base) F5 (mg_of X G a5) b5 F4 (mg_of X G a4) b4 F3 (mg_of X G a3) b3 B D6 D7 D8 D2;have D10 := n9 (P := l.prog) (w := w) (base := base) F10 (mg_of X G a10) b10 B;have D11 := pG (P := l.prog) (w := w) (base := base) F11 (mg_of X G a11) b11 B;have D12 := sA (P := l.prog) (w := w) (base := base) F12 (mg_of X G a12) b12 B D11;have L13 : qL K mg base cc13 92 "ends.<locals>.<lambda>" := ⟨h13, by decide, by decide, bm, by decide⟩
 have D13 := By (P := l.prog) (w := w) (base := base) G13 L13 (mg_of X G a13) b13 B D10 D12;have L14 : qL K mg base cc14 99 "stretch_of.<locals>.<lambda>" := ⟨h14, by decide, by decide, bm, by decide⟩
 have D14 := og (P := l.prog) (w := w) (base := base) G14 L14 (mg_of X G a14) b14 B F15 (mg_of X G a15) b15 (fun base => pG (P := l.prog) (w := w) (base := base) F11 (mg_of X G a11) b11 B);have D18 := my (P := l.prog) (w := w) (base := base) F18 (mg_of X G a18) b18 B;have D19 := qJ (P := l.prog) (w := w) (base := base) F19 (mg_of X G a19) b19 B D14;have D20 := wR (P := l.prog) (w := w) (base := base) F20 (mg_of X G a20) b20 B;have D16 := mM (P := l.prog) (w := w) (base := base) F16 (mg_of X G a16) b16 B F17 (mg_of X G a17) b17 D18 D19 D20 D4 D1;have D21 := nR (P := l.prog) (w := w) (base := base) F21 (mg_of X G a21) b21 B;have D22 := r9 (P := l.prog) (w := w) (base := base) F22 (mg_of X G a22) b22 B;have D23 := qk (P := l.prog) (w := w) (base := base) F23 (mg_of X G a23) b23 B D22;have D24 := sD (P := l.prog) (w := w) (base := base) F24 (mg_of X G a24) b24 B D22;have D25 := kl (P := l.prog) (w := w) (base := base) F25 (mg_of X G a25) b25 B D22;have D26 := lR (P := l.prog) (w := w) (base := base) F26 (mg_of X G a26) b26 B D21 D22 D25;have D27 := qP (P := l.prog) (w := w) (base := base) F27 (mg_of X G a27) b27 B;have D29 := vL (P := l.prog) (w := w) (base := base) F28 (mg_of X G a28) b28 F29 (mg_of X G a29) b29 B D27 9;have D30 := jG (P := l.prog) (w := w) (base := base) F30 (mg_of X G a30) b30 B D29;have D31 := jF (P := l.prog) (w := w) (base := base) F31 (mg_of X G a31) b31 B D22;have D32 := tD (P := l.prog) (w := w) (base := base) F32 (mg_of X G a32) b32 B D30;exact Et (Ea F33 B D21 D23 D24 D26 D31 D13 D16 D32)
end Z
namespace PySem.W.Fast
def tw2551060353228584269:=0
def tw959757163555989802:=0
def tw17828050894245174280:=0
def tw2829679573872121063:=0
def tw7194156604369654871:=0
def tw7323393356935413785:=0
def tw1896782251637944690:=0
def tw16089086326155813074:=0
def tw16476720261441440524:=0
def tw5344167005582053295:=0
def tw1517826318676411279:=0
def tw15406427771604033452:=0
def tw6194643261541280747:=0
def tw3579999464523895200:=0
def tw17278636492926649040:=0
end PySem.W.Fast
open PySem PySem.W PyProof.Rows
set_option maxRecDepth 100000 in
set_option maxHeartbeats 0 in
theorem PySem.Challenge.cw_besidewords_k46_whole_asked_by_ends_holds : PySem.Challenge.rw_besidewords_k46_whole_asked_by_ends.Holds := by
 w_on; o_law; k_head; (case hw => w_witness2)
 k_fill
 refine Y.ET (l := PySem.Challenge.rw_besidewords_k46_whole_asked_by_ends) (k := 36) (x := "_law_script") rfl rfl ⟨rfl, by decide, by decide⟩ (fun w h Y => km_in_of Y) ?T ?F
 case T =>
  intro w h Yk q hq;rcases (by simpa [Y.cq.T] using hq : q = ((92 : Addr), ("ends.<locals>.<lambda>" : Str)) \/ q = ((99 : Addr), ("stretch_of.<locals>.<lambda>" : Str))) with rfl | rfl
  . refine Y.tabs_ok (c := 96) Yk ?x1 ?x2 ?x3
    (case x1 => simp)
    (case x2 => kernel_rfl)
    (case x3 => kernel_rfl)
  . refine Y.tabs_ok (c := 103) Yk ?x1 ?x2 ?x3
    (case x1 => simp)
    (case x2 => kernel_rfl)
    (case x3 => kernel_rfl)
 case F =>
  intro w mg fa h KX G hmg;refine' Z.all_mk KX G hmg (Z.fk ?a1 ?l1 ?c1 ?k1) (Z.fk ?a2 ?l2 ?c2 ?k2) (Z.fk ?a3 ?l3 ?c3 ?k3) (Z.fk ?a4 ?l4 ?c4 ?k4) (Z.fk ?a5 ?l5 ?c5 ?k5) (Z.fk ?a6 ?l6 ?c6 ?k6) (Z.fk ?a7 ?l7 ?c7 ?k7) (Z.fk ?a8 ?l8 ?c8 ?k8) (Z.fk ?a9 ?l9 ?c9 ?k9) (Z.fk ?a10 ?l10 ?c10 ?k10) (Z.fk ?a11 ?l11 ?c11 ?k11) (Z.fk ?a12 ?l12 ?c12 ?k12) (Z.G7 ?a13 ?l13 ?c13 ?k13 ?h13) (Z.G7 ?a14 ?l14 ?c14 ?k14 ?h14) (Z.fk ?a15 ?l15 ?c15 ?k15) (Z.fk ?a16 ?l16 ?c16 ?k16) (Z.fk ?a17 ?l17 ?c17 ?k17) (Z.fk ?a18 ?l18 ?c18 ?k18) (Z.fk ?a19 ?l19 ?c19 ?k19) (Z.fk ?a20 ?l20 ?c20 ?k20) (Z.fk ?a21 ?l21 ?c21 ?k21) (Z.fk ?a22 ?l22 ?c22 ?k22) (Z.fk ?a23 ?l23 ?c23 ?k23) (Z.fk ?a24 ?l24 ?c24 ?k24) (Z.fk ?a25 ?l25 ?c25 ?k25) (Z.fk ?a26 ?l26 ?c26 ?k26) (Z.fk ?a27 ?l27 ?c27 ?k27) (Z.fk ?a28 ?l28 ?c28 ?k28) (Z.fk ?a29 ?l29 ?c29 ?k29) (Z.fk ?a30 ?l30 ?c30 ?k30) (Z.fk ?a31 ?l31 ?c31 ?k31) (Z.fk ?a32 ?l32 ?c32 ?k32) ?a33 ?l33 ?c33 ?k33 ?z_enumerate ?z_isinstance ?z_len ?z_list ?z_range ?z_sorted ?z_tuple ?z_zip
  (case a1|l1|c1|k1|a2|l2|c2|k2|a3|l3|c3|k3|a4|l4|c4|k4|a5|l5|c5|k5|a6|l6|c6|k6|a7|l7|c7|k7|a8|l8|c8|k8|a9|l9|c9|k9|a10|l10|c10|k10|a11|l11|c11|k11|a12|l12|c12|k12|a13|l13|c13|k13|a14|l14|c14|k14|a15|l15|c15|k15|a16|l16|c16|k16|a17|l17|c17|k17|a18|l18|c18|k18|a19|l19|c19|k19|a20|l20|c20|k20|a21|l21|c21|k21|a22|l22|c22|k22|a23|l23|c23|k23|a24|l24|c24|k24|a25|l25|c25|k25|a26|l26|c26|k26|a27|l27|c27|k27|a28|l28|c28|k28|a29|l29|c29|k29|a30|l30|c30|k30|a31|l31|c31|k31|a32|l32|c32|k32|a33|l33|c33|k33|z_enumerate|z_isinstance|z_len|z_list|z_range|z_sorted|z_tuple|z_zip => k_is)
  (case h13|h14 => kernel_rfl)
