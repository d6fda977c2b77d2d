import PyProof.Rows.All
import Wide.All
import OpenK.AllK
import Wide.FinOn
import Lean
import PyProof.EqAt
import PyProof.EqKinds
import PyProof.TupleCall
import PySem.SetOps
import PyProof.SetScanFacts
import PyProof.FactsAll.dict
import PyProof.Rows.SeqMore
import PyProof.Rows.StrCase
import PyProof.ToksMono
import PyProof.AutoIntG2
import PyProof.DictIter
import PyProof.DictWalks
import KE.KItemsList
import PyProof.SetKind
import PyProof.Rows.SetFrom
import PyProof.ListNew
import PyProof.SetNew
import PyProof.SetRoads
import PyProof.FactsAll.set_1
import PyProof.TupleKey
import PyProof.IsRules
import PyProof.AutoListH
import PyProof.FactsAll.list_2
import PyProof.Rows.StrCut
import PyProof.FactsAll.tuple_3
import PyProof.StrOps2
import PySem.Challenge.RW_besidewords_k25_whole_stretches_of_a_tex
section
open PySem
abbrev HQ:=List (List Str)
abbrev HR:=Value -> Shared -> Prop
abbrev HS:=List (Nat × Nat)
abbrev HU:=Array (Option Value)
abbrev HV:=Str -> Option Value
abbrev HW:=List Value
abbrev HX:=Array Value
abbrev HY:=Option Addr
abbrev HZ:=List (Addr × Obj)
abbrev Ib:=Array (Int × Value)
abbrev Ic:=Result -> Shared -> Prop
abbrev Ie:=List Str
abbrev Ih:=List Nat
abbrev Ij:=Nat × Nat
end
open List (length_map mem_map getElem?_map map_map mem_cons map_append size_toArray map_cons mem_append getElem?_append_left mem_of_getElem? mem_cons_of_mem length_take take_length take_add_one mem_cons_self mem_append_right append_nil map_congr_left getElem_mem range_succ length_range nodup_cons getElem?_append_right cons_append length_cons lookup_cons not_mem_nil find?_cons any_eq_true map_nil length_filter_le take_append_drop mem_filter length_drop filter_map filter_append flatten_append)
open PySem.Heap (lt_size get?_push_of_some get?_push_size)
open PySem.W (Frag keepIn codeHdIn kla_obj envX mg_of mg_none_of)
set_option Elab.async false
set_option linter.all false
set_option maxRecDepth 100000
namespace L2
open PySem PySem.Spec PyProof.Rows
abbrev Key := Sum Int Str
def mz : Key -> Value -> Bool
 | .inl k, v => Value.isInt k v
 | .inr x, v => Value.isStrOf x v
def GK (w : World) : Key -> Int
 | .inl k => hashInt k
 | .inr x => hashStr w x
theorem bo : ∀ {k : Key} {v : Value}, mz k v = true -> (∃ i t, k = Sum.inl i /\ v = Value.int i t) \/ (∃ x t, k = Sum.inr x /\ v = Value.str x t)
 | .inl i, v, h => by
  obtain ⟨t, e⟩ := Value.isInt_shape (k := i) (v := v) h;exact .inl ⟨i, t, rfl, e⟩
 | .inr x, v, h => by
  obtain ⟨t, e⟩ := Value.isStrOf_shape (x := x) (v := v) h;exact .inr ⟨x, t, rfl, e⟩
theorem we (i : Int) (t : Tok) : mz (.inl i) (.int i t) = true := by simp [mz, Value.isInt]
theorem v5 (x : Str) (t : Tok) : mz (.inr x) (.str x t) = true := by simp [mz, Value.isStrOf]
theorem Dp (a b : Int) : decide ((Sum.inl a : Key) = Sum.inl b) = (a == b) := by
 by_cases e : a = b
 . subst e; simp
 . have h : ¬ (Sum.inl a : Key) = Sum.inl b := fun q => e (Sum.inl.inj q);rw [decide_eq_false h];exact (beq_eq_false_iff_ne.mpr e).symm
theorem DS (a b : Str) : decide ((Sum.inr a : Key) = Sum.inr b) = decide (a = b) := by
 by_cases e : a = b
 . subst e; simp
 . have h : ¬ (Sum.inr a : Key) = Sum.inr b := fun q => e (Sum.inr.inj q);rw [decide_eq_false h, decide_eq_false e]
theorem DA (a : Int) (b : Str) : decide ((Sum.inl a : Key) = Sum.inr b) = false := decide_eq_false (fun q => nomatch q)
theorem En (a : Str) (b : Int) : decide ((Sum.inr a : Key) = Sum.inl b) = false := decide_eq_false (fun q => nomatch q)
def bV (prog : Program) (w : World) : PySem.KeyKind prog w Key where
 is := mz
 hash := GK w
 inj := fun v a b ha hb => by
  rcases bo ha with ⟨i, t, rfl, rfl⟩ | ⟨x, t, rfl, rfl⟩
  . rcases bo hb with ⟨j, u, rfl, e⟩ | ⟨y, u, rfl, e⟩
    . injection e with e1 _; rw [e1]
    . exact nomatch e
  . rcases bo hb with ⟨j, u, rfl, e⟩ | ⟨y, u, rfl, e⟩
    . exact nomatch e
    . injection e with e1 _; rw [e1]
 byValue := fun k v h => by
  rcases bo h with ⟨i, t, rfl, rfl⟩ | ⟨x, t, rfl, rfl⟩ <;> rfl
 pyHash := fun hv h => by
  rcases bo hv with ⟨i, t, rfl, rfl⟩ | ⟨x, t, rfl, rfl⟩
  . exact wpAny_pyHash_int h
  . exact wpAny_pyHash_str h
 eqBool := fun hu hv h => by
  rcases bo hu with ⟨i, t, rfl, rfl⟩ | ⟨x, t, rfl, rfl⟩
  . rcases bo hv with ⟨j, u, rfl, rfl⟩ | ⟨y, u, rfl, rfl⟩
    . rw [Dp] at h; exact wpAny_eqBool_int h
    . rw [DA] at h; exact SeqAt.EqAt.int_str i t y u _ _ _ _ h
  . rcases bo hv with ⟨j, u, rfl, rfl⟩ | ⟨y, u, rfl, rfl⟩
    . rw [En] at h; exact SeqAt.EqAt.str_int x t j u _ _ _ _ h
    . rw [DS] at h; exact wpAny_eqBool_str h
 «strs» := fun k x t v h => by
  rcases bo h with ⟨i, u, rfl, e⟩ | ⟨y, u, rfl, e⟩
  . exact nomatch e
  . injection e with e1 _;subst e1;cases v <;> rfl
theorem rD (prog : Program) (w : World) (i : Int) (t : Tok) : (bV prog w).is (.inl i) (.int i t) = true := we i t
theorem rS (prog : Program) (w : World) (x : Str) (t : Tok) : (bV prog w).is (.inr x) (.str x t) = true := v5 x t
inductive V where
 | non | bl (b : Bool) | int (i : Int) | str (x : Str) | byt (b : Array UInt8) | flt (b : UInt64) | ref (a : Addr) | ty (n : String)
 deriving DecidableEq
def RelV : V -> Value -> Prop
 | .non, u => u = Value.none
 | .bl b, u => u = Value.bool b
 | .int i, u => ∃ t, u = Value.int i t
 | .str x, u => ∃ t, u = Value.str x t
 | .byt b, u => ∃ t, u = Value.bytes b t
 | .flt b, u => ∃ t, u = Value.float b t
 | .ref a, u => u = Value.ref a
 | .ty n, u => u = Value.type n
abbrev Vals : List V -> List Value -> Prop := Paired RelV
theorem Vals.length {xs : List V} {us : HW} (r : Vals xs us) : xs.length = us.length := Paired.length r
theorem Vals.get : ∀ {xs : List V} {us : HW} {i : Nat} {x : V}, Vals xs us -> xs[i]? = some x -> ∃ u, us[i]? = some u /\ RelV x u
 | _, _, _, _, .nil, e => by simp at e
 | _, _, 0, _, .cons r _, e => by simp at e; subst e; exact ⟨_, rfl, r⟩
 | _, _, i + 1, x, .cons _ t, e => by
  obtain ⟨u, h1, h2⟩ := Vals.get (i := i) (x := x) t (by simpa using e);exact ⟨u, by simpa using h1, h2⟩
theorem Vals.append : ∀ {xs ys : List V} {us ws : HW}, Vals xs us -> Vals ys ws -> Vals (xs ++ ys) (us ++ ws)
 | _, _, _, _, .nil, s => s
 | _, _, _, _, .cons r t, s => .cons r (Vals.append t s)
theorem Vals.take : ∀ {xs : List V} {us : HW} (n : Nat), Vals xs us -> Vals (xs.take n) (us.take n)
 | _, _, 0, _ => .nil
 | _, _, _ + 1, .nil => .nil
 | _, _, n + 1, .cons r t => .cons r (Vals.take n t)
theorem Vals.drop : ∀ {xs : List V} {us : HW} (n : Nat), Vals xs us -> Vals (xs.drop n) (us.drop n)
 | _, _, 0, r => r
 | _, _, _ + 1, .nil => .nil
 | _, _, n + 1, .cons _ t => Vals.drop n t
def wF : Option V -> Option Value -> Prop
 | some v, some u => RelV v u
 | none, none => True
 | _, _ => False
def KV {κ : Type} : List (κ × V) -> List (κ × Value) -> Prop := Paired fun (p : κ × V) (q : κ × Value) => p.1 = q.1 /\ RelV p.2 q.2
def kV : Key -> V
 | .inl i => .int i
 | .inr x => .str x
inductive HO where
 | lst (xs : List V)
 | tup (xs : List V)
 | dK (kvs : List (Key × V)) | dT (kvs : List (List Key × V))
 | set (S : Int -> Bool) (n : Nat)
 | ins (C dx : Addr) (fs : List (Str × V))
 | own (x : Addr)
 | xd (fs : List (Str × V))
 | met (f x : Addr)
 | rng (lo hi : Int)
 | frz (o : Obj) (u : HO)
 | tbl (ps : HX)
 | ext (φ : Heap -> Prop)
abbrev Hp := Addr -> Option HO
def upd (H : Hp) (a : Addr) (o : HO) : Hp := fun b => if b = a then some o else H b
theorem ax {H : Hp} {a : Addr} {o : HO} : upd H a o a = some o := by unfold upd; rw [if_pos rfl]
theorem ag {H : Hp} {a b : Addr} {o : HO} (h : b ≠ a) : upd H a o b = H b := by unfold upd; rw [if_neg h]
theorem dB {H : Hp} {a b : Addr} {o u : HO} (h : H a = some o) (h' : H b = some u) (d : o ≠ u) : a ≠ b := by
 intro e; subst e; rw [h] at h'; exact d (Option.some.inj h')
theorem av {H : Hp} {a b : Addr} {o : HO} (h : H a = some o) (h' : H b = none) : a ≠ b := by
 intro e; subst e; rw [h] at h'; cases h'
section
variable (P : Program) (w : World)
def bB (H : Hp) (h : Heap) (a : Addr) : HO -> Prop
 | .lst xs => xs.length <= sizeLine /\ ∃ (its : HW) (n : Nat), Vals xs its /\ h.get? a = some { cls := .type "list", data := .seq its.toArray n }
 | .tup xs => xs.length <= sizeLine /\ ∃ its : List Value, Vals xs its /\ IsTup h a its.toArray
 | .dK kvs => kvs.length <= sizeLine /\ (a == sysModules) = false /\ ∃ vs, KV kvs vs /\ h.DictOf (bV P w) a vs
 | .dT kvs => kvs.length <= sizeLine /\ (a == sysModules) = false /\ ∃ xs : List (List Key × Addr × Value),
  Paired (fun (p : List Key × V) (q : List Key × Addr × Value) => p.1 = q.1 /\ H q.2.1 = some (.tup (p.1.map kV)) /\ RelV p.2 q.2.2) kvs xs /\
  ∃ o es ep, h.get? a = some o /\ o.ExactDict /\ o.data = .dict es ep /\ es.toList = xs.map (entryOfKey (tupleKind (bV P w))) /\ (xs.map (·.1)).Nodup
 | .set S n => h.SetOf (intKind P w) a S n
 | .ins C dx fs => H dx = some (.own a) /\ fs.length <= 1000 /\ dx ≠ a /\ h.get? a = some (PySem.W.instObj C dx) /\
  ∃ mA, h.Ns1 dx mA /\ (∀ f, wF (fs.lookup f) (mA f)) /\ PySem.Within mA (fs.map (·.1))
 | .own _ => ∃ o, h.get? a = some o
 | .xd fs => ∃ mA, h.Ns1 a mA /\ ∀ f, wF (fs.lookup f) (mA f)
 | .rng lo hi => ∃ t u v, h.get? a = some { cls := .type "range", data := .fields #[.int lo t, .int hi u, .int 1 v] }
 | .frz o u => h.get? a = some o /\ bB H h a u
 | .tbl ps => h.get? a = some { cls := .none, data := .fields ps }
 | .met f x => h.get? a = some (PySem.W.methodObj (.ref f) (.ref x))
 | .ext φ => φ h /\ (∃ o, h.get? a = some o) /\ ∀ h1 h2 : Heap, φ h1 -> (∀ o, h1.get? a = some o -> h2.get? a = some o) -> φ h2
def gz (H : Hp) (h : Heap) : Prop := ∀ a o, H a = some o -> bB P w H h a o
end
section
variable {P : Program} {w : World} {H H' : Hp} {h h' : Heap} {a : Addr} {o : HO}
theorem bB.lt (x : bB P w H h a o) : a < h.objs.size := by
 cases o with
 | lst xs => obtain ⟨_, _, _, _, e⟩ := x; exact lt_size e
 | tup xs => obtain ⟨_, _, _, p⟩ := x; exact p.lt
 | dK kvs => obtain ⟨_, _, _, _, o, _, _, e, _⟩ := x; exact lt_size e
 | dT kvs => obtain ⟨_, _, _, _, o, _, _, e, _⟩ := x; exact lt_size e
 | set S n => obtain ⟨o, _, _, _, e, _⟩ := x; exact lt_size e
 | ins C dx fs => obtain ⟨_, _, _, e, _⟩ := x; exact lt_size e
 | own y => obtain ⟨_, e⟩ := x; exact lt_size e
 | xd fs => obtain ⟨_, ⟨_, _, _, e, _⟩, _⟩ := x; exact lt_size e
 | rng lo hi => obtain ⟨_, _, _, e⟩ := x; exact lt_size e
 | frz ob u => obtain ⟨e, _⟩ := x; exact lt_size e
 | tbl ps => exact lt_size (show h.get? a = some _ from x)
 | met f y => exact lt_size (show h.get? a = some _ from x)
 | ext φ => obtain ⟨_, ⟨_, e⟩, _⟩ := x; exact lt_size e
theorem Paired.DP {α β : Type} {F G : α -> β -> Prop} : ∀ {l₁ : List α} {l₂ : List β}, Paired F l₁ l₂ -> (∀ a b, F a b -> G a b) -> Paired G l₁ l₂
 | _, _, .nil, _ => .nil
 | _, _, .cons r t, f => .cons (f _ _ r) (Paired.DP t f)
theorem bB.lT (x : bB P w H h a o) (k : ∀ b u, (b = a \/ H b = some (.own a)) -> h.get? b = some u -> h'.get? b = some u)
 (ho : ∀ b, H b = some (.own a) -> H' b = some (.own a)) (ht : ∀ b xs, H b = some (.tup xs) -> H' b = some (.tup xs)) : bB P w H' h' a o := by
 induction o with
 | lst xs => obtain ⟨z, its, n, r, e⟩ := x; exact ⟨z, its, n, r, k _ _ (.inl rfl) e⟩
 | tup xs => obtain ⟨z, its, r, ob, e, c⟩ := x; exact ⟨z, its, r, ob, k _ _ (.inl rfl) e, c⟩
 | dK kvs => obtain ⟨z, y, vs, r, ob, es, ep, e, c⟩ := x; exact ⟨z, y, vs, r, ob, es, ep, k _ _ (.inl rfl) e, c⟩
 | dT kvs =>
  obtain ⟨z, y, xs, r, ob, es, ep, e, c⟩ := x;exact ⟨z, y, xs, Paired.DP r fun p q z => ⟨z.1, ht _ _ z.2.1, z.2.2⟩, ob, es, ep, k _ _ (.inl rfl) e, c⟩
 | set S n => obtain ⟨ob, es, ep, t, e, c⟩ := x; exact ⟨ob, es, ep, t, k _ _ (.inl rfl) e, c⟩
 | ins C dx fs =>
  obtain ⟨d, z, ne, e, mA, ⟨od, es, ep, e2, c⟩, r⟩ := x;exact ⟨ho _ d, z, ne, k _ _ (.inl rfl) e, mA, ⟨od, es, ep, k _ _ (.inr d) e2, c⟩, r⟩
 | own y => obtain ⟨ob, e⟩ := x; exact ⟨ob, k _ _ (.inl rfl) e⟩
 | xd fs => obtain ⟨mA, ⟨od, es, ep, e, c⟩, r⟩ := x; exact ⟨mA, ⟨od, es, ep, k _ _ (.inl rfl) e, c⟩, r⟩
 | rng lo hi => obtain ⟨t, u, v, e⟩ := x; exact ⟨t, u, v, k _ _ (.inl rfl) e⟩
 | frz ob u ih => obtain ⟨e, q⟩ := x; exact ⟨k _ _ (.inl rfl) e, ih q⟩
 | tbl ps =>
  have e : h.get? a = some { cls := .none, data := .fields ps } := x;show h'.get? a = some { cls := .none, data := .fields ps };exact k a _ (.inl rfl) e
 | met f y =>
  have e : h.get? a = some (PySem.W.methodObj (.ref f) (.ref y)) := x;show h'.get? a = some (PySem.W.methodObj (.ref f) (.ref y));exact k a _ (.inl rfl) e
 | ext φ => obtain ⟨p, ⟨o, e⟩, st⟩ := x; exact ⟨st _ _ p fun o q => k _ _ (.inl rfl) q, ⟨o, k _ _ (.inl rfl) e⟩, st⟩
theorem gz.lt (x : gz P w H h) (e : H a = some o) : a < h.objs.size := (x a o e).lt
theorem gz.fresh (x : gz P w H h) (e : h.objs.size <= a) : H a = none := by
 cases q : H a with
 | none => rfl
 | some u => exact absurd (Nat.lt_of_lt_of_le (x.lt q) e) (Nat.lt_irrefl _)
theorem gz.kept (x : gz P w H h) (k : ∀ b u, h.get? b = some u -> h'.get? b = some u) : gz P w H h' := fun a o e =>
 (x a o e).lT (fun b u _ q => k b u q) (fun _ q => q) fun _ _ q => q
theorem gz.laid (x : gz P w H h) (k : ∀ b u, h.get? b = some u -> h'.get? b = some u) (hp : h.objs.size <= a) (new : bB P w (upd H a o) h' a o) : gz P w (upd H a o) h' := fun b u e => by
 have hn := x.fresh hp;by_cases hb : b = a
 . subst hb; rw [ax] at e; cases e; exact new
 . rw [ag hb] at e;exact (x b u e).lT (fun c v _ q => k c v q) (fun c q => by rw [ag (av q hn)]; exact q) fun c xs q => by rw [ag (av q hn)]; exact q
end
def Rd (H : Hp) (a : Addr) (u : HO) : Prop := H a = some u \/ ∃ o, H a = some (.frz o u)
theorem Rd.ok {P : Program} {w : World} {H : Hp} {h : Heap} {a : Addr} {u : HO} (r : Rd H a u) (x : gz P w H h) : bB P w H h a u := by
 rcases r with r | ⟨o, r⟩
 . exact x a u r
 . obtain ⟨_, q⟩ := x a _ r;exact q
def E8 : Option HO -> Prop
 | some (.lst _) => True
 | some (.dK _) => True
 | some (.dT _) => True
 | some (.set _ _) => True
 | some (.ins _ _ _) => True
 | some (.ext _) => True
 | _ => False
section
variable {P : Program} {w : World} {H : Hp} {h h' : Heap} {x e : Addr} {o' : HO}
theorem gz.write (ok : gz P w H h) (mu : E8 (H x)) (he : e = x \/ H e = some (.own x)) (k : ∀ b u, b ≠ e -> h.get? b = some u -> h'.get? b = some u) (heo : ∃ u, h'.get? e = some u)
 (new : bB P w (upd H x o') h' x o') : gz P w (upd H x o') h' := fun b u q => by
 have nown : ∀ c y, H c = some (.own y) -> c ≠ x := fun c y r z => by subst z; rw [r] at mu; exact mu
 have wM : ∀ c xs, H c = some (.tup xs) -> c ≠ x := fun c xs r z => by subst z; rw [r] at mu; exact mu
 by_cases hb : b = x
 . subst hb; rw [ax] at q; cases q; exact new
 . rw [ag hb] at q;by_cases hbe : b = e
   . have q' : H b = some (.own x) := by
      rcases he with z | z
      . exact absurd (hbe.trans z) hb
      . rw [hbe]; exact z
     rw [q] at q'; cases q';obtain ⟨v, hv⟩ := heo;exact ⟨v, by rw [hbe]; exact hv⟩
   . refine (ok b u q).lT (fun c v hc r => k c v ?_ r) (fun c r => by rw [ag (nown c b r)]; exact r) fun c xs r => by rw [ag (wM c xs r)]; exact r
     rcases hc with rfl | hc
     . exact hbe
     . rintro rfl;rcases he with z | z
       . exact nown c b hc z
       . rw [hc] at z; cases z; exact hb rfl
end
structure Un (fs ex : List Addr) (H H' : Hp) (h h' : Heap) : Prop where
 keep : ∀ b o, h.get? b = some o -> H b = none -> b ∉ fs -> b ∉ ex -> h'.get? b = some o
 slot : ∀ b o, h.get? b = some o -> H b = none -> b ∈ fs -> b ∉ ex -> ∃ sl, h'.get? b = some { o with slots := sl }
 free : ∀ b o, h.get? b = some o -> H b = none -> b ∉ ex -> H' b = none
 there : ∀ b o, h.get? b = some o -> b ∉ ex -> ∃ o', h'.get? b = some o'
 tups : ∀ b xs, H b = some (.tup xs) -> H' b = some (.tup xs)
 frzs : ∀ b o u, H b = some (.frz o u) -> H' b = some (.frz o u)
 tbls : ∀ b ps, H b = some (.tbl ps) -> ∃ more, H' b = some (.tbl (ps ++ more))
section
variable {fs fs' ex ex' : List Addr} {H H1 H2 : Hp} {h h1 h2 h' : Heap} {a x e : Addr} {o : HO}
theorem Un.any (u : Un fs ex H H1 h h1) {b : Addr} {ob : Obj} (q : h.get? b = some ob) (n : H b = none) (hx : b ∉ ex) : ∃ sl, h1.get? b = some { ob with slots := sl } := by
 by_cases hb : b ∈ fs
 . exact u.slot b ob q n hb hx
 . exact ⟨ob.slots, u.keep b ob q n hb hx⟩
theorem Un.kept (k : ∀ b u, h.get? b = some u -> h'.get? b = some u) : Un fs ex H H h h' :=
 ⟨fun b ob q _ _ _ => k b ob q, fun b ob q _ _ _ => ⟨ob.slots, k b ob q⟩, fun _ _ _ n _ => n, fun b ob q _ => ⟨ob, k b ob q⟩, fun _ _ q => q, fun _ _ _ q => q, fun _ ps q => ⟨#[], by rw [q]; simp⟩⟩
theorem Un.refl : Un fs ex H H h h := Un.kept fun _ _ q => q
theorem Un.laid (k : ∀ b u, h.get? b = some u -> h'.get? b = some u) (hp : h.objs.size <= a) (hn : H a = none) : Un fs ex H (upd H a o) h h' where
 keep := fun b u q _ _ _ => k b u q
 slot := fun b u q _ _ _ => ⟨u.slots, k b u q⟩
 free := fun b u q n _ => by rw [ag (Nat.ne_of_lt (Nat.lt_of_lt_of_le (lt_size q) hp))]; exact n
 there := fun b u q _ => ⟨u, k b u q⟩
 tups := fun b xs q => by rw [ag (av q hn)]; exact q
 frzs := fun b u xs q => by rw [ag (av q hn)]; exact q
 tbls := fun b ps q => ⟨#[], by rw [ag (av q hn), q]; simp⟩
theorem Un.write (mu : E8 (H x)) (he : e = x \/ H e = some (.own x)) (k : ∀ b u, b ≠ e -> h.get? b = some u -> h'.get? b = some u) (heo : ∃ u, h'.get? e = some u) : Un fs ex H (upd H x o) h h' := by
 have hx : ∀ b, H b = none -> b ≠ x := fun b n z => by subst z; rw [n] at mu; exact mu
 have hb : ∀ b, H b = none -> b ≠ e := fun b n z => by
  subst z;rcases he with r | r
  . exact hx b n r
  . rw [n] at r; cases r
 have hm : ∀ b u, H b = some u -> ¬ E8 (some u) -> b ≠ x := fun b u q nm z => by subst z; rw [q] at mu; exact nm mu
 refine ⟨fun b u q n _ _ => k b u (hb b n) q, fun b u q n _ _ => ⟨u.slots, k b u (hb b n) q⟩, fun b u q n _ => by rw [ag (hx b n)]; exact n, fun b u q _ => ?_,
  fun b xs q => by rw [ag (hm b _ q fun z => z)]; exact q, fun b u xs q => by rw [ag (hm b _ q fun z => z)]; exact q, fun b ps q => ⟨#[], by rw [ag (hm b _ q fun z => z), q]; simp⟩⟩
 by_cases hbe : b = e
 . subst hbe; exact heo
 . exact ⟨u, k b u hbe q⟩
end
def Gb (h : Heap) (H : Hp) : List Addr := (List.range h.objs.size).filter fun a => (H a).isSome
def md (h : Heap) (H : Hp) : Heap := PySem.W.hideAll h (Gb h H)
theorem wc (h : Heap) (H : Hp) : (md h H).objs.size = h.objs.size := PySem.W.hideAll_size _ _
theorem yo {h : Heap} {H : Hp} {b : Addr} {o : Obj} (e : h.get? b = some o) (n : H b = none) : (md h H).get? b = some o :=
 PySem.W.hideAll_get _ e fun hm => by
  have q : (H b).isSome = true := (mem_filter.mp hm).2;rw [n] at q; simp at q
theorem Ba {h : Heap} {H : Hp} {b : Addr} {o : Obj} (e : (md h H).get? b = some o) : h.get? b = some o /\ H b = none := by
 have e' : h.get? b = some o := PySem.W.of_hideAll (Gb h H) e;refine ⟨e', ?_⟩
 cases q : H b with
 | none => rfl
 | some x =>
  have hm : b ∈ Gb h H := mem_filter.mpr ⟨List.mem_range.mpr (lt_size e'), by simp [q]⟩;have z : (md h H).get? b = none := PySem.W.hideAll_none (Gb h H) hm;rw [z] at e; cases e
def B9 (g h : Heap) (L : Addr) : List (Addr × Obj) := (List.range h.objs.size).filterMap fun a => if a = L \/ (g.get? a).isSome = true then none else (h.get? a).map fun o => (a, o)
def rest (g h : Heap) (L d : Addr) : List (Addr × Obj) := (B9 g h L).filter fun p => decide (p.1 ≠ d)
structure Mod (K : Frag) (mg : HV) (base : Heap) : Prop where
 kin : K.In base
 glob : base.Ns mainGlobals mg
 blt : ∃ mb, base.Ns builtinsNs mb /\ ∀ x : Str, x ≠ "__name__" -> mb x = bootBuiltins x
 nolimit : base.NoLimit
structure Cx where
 prog : Program
 w : World
 K : Frag
 mg : Str -> Option Value
 base : Heap
 A : Around
 N : List Str
 s₀ : Shared
 H₀ : Hp
 env : Env
 outer : List Env
 stack : List Env
 ex : List Addr
 fn : Str -> Bool
 calm : Bool
 pn : List (Addr × Obj)
 xe : Value -> Shared -> Prop
def oR (l : List Env) : List Addr := l.filterMap (·.frame)
abbrev Cx.fs (X : Cx) : List Addr := oR X.outer
def zw (sc : Scope) (x : Str) : Prop := sc.names.lookup x = some .local \/ sc.names.lookup x = some .cell \/ sc.names.lookup x = some .free
def Loc (sc : Scope) (x : Str) : Prop := sc.names.lookup x = some .local \/ sc.names.lookup x = some .cell
def Look (env : Env) (h : Heap) (m : HV) (x : Str) (u : Value) : Prop :=
 (env.kindOf x = some .local /\ m x = some u) \/ ((env.kindOf x = some .cell \/ env.kindOf x = some .free) /\ ∃ c, env.cells.lookup x = some c /\ h.IsCell c (some u))
structure Cx.Ok (X : Cx) : Prop where
 mod : Mod X.K X.mg X.base
 kind : X.env.scope.kind = .function
 glob : X.env.globals = mainGlobals
 blt : X.env.builtins = builtinsNs
 above : X.s₀.heap.objs.size <= X.env.locals
 inj : ∀ x y c, X.env.cells.lookup x = some c -> X.env.cells.lookup y = some c -> x = y
 has : ∀ x, (X.env.kindOf x = some .cell \/ X.env.kindOf x = some .free) -> ∃ c, X.env.cells.lookup x = some c
 cab : ∀ x c, X.fn x = true -> X.env.cells.lookup x = some c -> X.s₀.heap.objs.size <= c
 hd : X.calm = true -> X.A.handled = none
 frames : X.A.frames = some X.stack
 stk : X.stack = X.outer \/ (X.stack = X.env :: X.outer /\ X.env.frame = some X.env.locals)
 exf : ∀ b ∈ X.ex, b ≠ X.env.locals /\ ∀ x c, X.env.cells.lookup x = some c -> c ≠ b
 bs : ∀ b o, X.base.get? b = some o -> X.s₀.heap.get? b = some o /\ X.H₀ b = none
 bsz : X.base.objs.size <= X.s₀.heap.objs.size
 noex : ∀ b o, X.base.get? b = some o -> b ∉ X.ex
 exfs : ∀ b ∈ X.ex, b ∉ X.fs
 fJ : X.s₀.heap.FunFrames X.base X.outer
 frf : ∀ b ∈ X.fs, X.H₀ b = none
structure Inv (X : Cx) (pins : HZ) (σ : List (Option V)) (H : Hp) (s : Shared) : Prop where
 ok : X.Ok
 os : s.os = X.s₀.os
 bare : AllBare s.gens
 base : Un X.fs X.ex X.H₀ H X.s₀.heap s.heap
 loc : ∃ m, s.heap.Ns X.env.locals m /\ ∀ (i : Nat) (x : Str) (v : V), X.N[i]? = some x -> σ[i]? = some (some v) -> zw X.env.scope x -> ∃ u, RelV v u /\ Look X.env s.heap m x u
 cell : ∀ x c, X.env.cells.lookup x = some c -> ∃ v, s.heap.IsCell c v
 free : H X.env.locals = none
 freeC : ∀ x c, X.env.cells.lookup x = some c -> H c = none
 pin : ∀ p ∈ X.pn ++ pins, s.heap.get? p.1 = some p.2 /\ H p.1 = none /\ p.1 ≠ X.env.locals /\ p.1 ∉ X.fs /\ ∀ v, p.2.data ≠ .cell v
 hok : gz X.prog X.w H s.heap
 len : σ.length = X.N.length
section
variable {X : Cx} {pins : HZ} {σ : List (Option V)} {H H' : Hp} {s : Shared} {h' : Heap}
theorem Cx.Ok.Gs (ok : X.Ok) {b : Addr} {o : Obj} (e : X.base.get? b = some o) : b ∉ X.fs := fun hb => by
 have := (ok.fJ.mem hb).1;rw [e] at this; cases this
theorem Inv.bs (I : Inv X pins σ H s) : ∀ b o, X.base.get? b = some o -> s.heap.get? b = some o /\ H b = none := fun b o e =>
 ⟨I.base.keep b o (I.ok.bs b o e).1 (I.ok.bs b o e).2 (I.ok.Gs e) (I.ok.noex b o e), I.base.free b o (I.ok.bs b o e).1 (I.ok.bs b o e).2 (I.ok.noex b o e)⟩
theorem Inv.bk (I : Inv X pins σ H s) : ∀ b o, X.base.get? b = some o -> s.heap.get? b = some o := fun b o e => (I.bs b o e).1
theorem Inv.mod (I : Inv X pins σ H s) : Mod X.K X.mg X.base := I.ok.mod
theorem Inv.Be (I : Inv X pins σ H s) : X.K.In s.heap := I.ok.mod.kin.keeps I.bk
theorem Inv.nolimit (I : Inv X pins σ H s) : s.heap.NoLimit := I.ok.mod.nolimit.keeps I.bk
theorem Inv.lt (I : Inv X pins σ H s) : X.env.locals < s.heap.objs.size := let ⟨_, hn, _⟩ := I.loc; hn.lt
theorem Inv.sz (I : Inv X pins σ H s) : X.s₀.heap.objs.size <= s.heap.objs.size := Nat.le_trans I.ok.above (Nat.le_of_lt I.lt)
theorem Inv.GS (I : Inv X pins σ H s) {a : Addr} (h : s.heap.objs.size <= a) : a ∉ X.fs := fun hb => by
 obtain ⟨_, o, ho, _⟩ := I.ok.fJ.mem hb;exact absurd (Nat.lt_of_lt_of_le (lt_size ho) (Nat.le_trans I.sz h)) (Nat.lt_irrefl _)
theorem Inv.Cw (I : Inv X pins σ H s) : ∀ x c, X.env.cells.lookup x = some c -> c ≠ X.env.locals := fun x c e z => by
 obtain ⟨v, o, ho, hd⟩ := I.cell x c e;obtain ⟨m, ⟨o', es, ep, ho', hd', _⟩, _⟩ := I.loc;rw [z, ho'] at ho; cases ho; rw [hd'] at hd; cases hd
theorem Inv.fJ (I : Inv X pins σ H s) : s.heap.FunFrames X.base X.outer := by
 have all : ∀ (l : List Env), (∀ b ∈ oR l, b ∈ X.fs) -> X.s₀.heap.FunFrames X.base l -> s.heap.FunFrames X.base l := by
  intro l
  induction l with
  | nil => intro _ _; trivial
  | cons env r ih =>
   intro hs hl;obtain ⟨hk, ⟨L, o, hf, hn, ho, hd⟩, hr⟩ := hl;have hL : L ∈ X.fs := hs L (by unfold oR; rw [List.filterMap_cons, hf]; exact mem_cons_self);obtain ⟨sl, e⟩ := I.base.slot L o ho (I.ok.frf L hL) hL fun z => I.ok.exfs L z hL;exact ⟨hk, ⟨L, _, hf, hn, e, hd⟩, ih (fun b hb => hs b (by unfold oR; rw [List.filterMap_cons, hf]; exact mem_cons_of_mem _ hb)) hr⟩
 exact all X.outer (fun _ hb => hb) I.ok.fJ
theorem Inv.stack (I : Inv X pins σ H s) : s.heap.FunFrames X.base X.stack := by
 rcases I.ok.stk with e | ⟨e, hf⟩
 . rw [e]; exact I.fJ
 . rw [e];obtain ⟨m, hn, _⟩ := I.loc;refine .cons (by rw [I.ok.kind]; decide) hf hn ?_ I.fJ;exact Heap.get?_none_of_le (Nat.le_trans I.ok.bsz I.ok.above)
theorem Inv.tD (I : Inv X pins σ H s) : ∀ b ∈ oR X.stack, b ∈ X.env.locals :: X.fs := fun b hb => by
 rcases I.ok.stk with e | ⟨e, hf⟩
 . rw [e] at hb; exact mem_cons_of_mem _ hb
 . rw [e] at hb;unfold oR at hb;rw [List.filterMap_cons, hf] at hb;exact hb
theorem Inv.uH (I : Inv X pins σ H s) : ∀ b ∈ oR X.stack, H b = none := fun b hb => by
 rcases mem_cons.mp (I.tD b hb) with e | hb
 . rw [e]; exact I.free
 . obtain ⟨_, o, ho, _⟩ := I.ok.fJ.mem hb;exact I.base.free b o ho (I.ok.frf b hb) fun z => I.ok.exfs b z hb
theorem Inv.step {g' : Array GenState} {t' : Nat} {d' : Drawn} {ch : List Addr} (I : Inv X pins σ H s)
 (hch : ∀ b ∈ ch, (b ∈ X.ex \/ X.s₀.heap.objs.size <= b) /\ b ≠ X.env.locals /\ (∀ x c, X.env.cells.lookup x = some c -> c ≠ b) /\ ∀ p ∈ X.pn ++ pins, p.1 ≠ b)
 (keep : ∀ b o, b ≠ X.env.locals -> b ∉ X.fs -> b ∉ ch -> s.heap.get? b = some o -> H b = none -> h'.get? b = some o)
 (slot : ∀ b o, b ≠ X.env.locals -> b ∈ X.fs -> b ∉ ch -> s.heap.get? b = some o -> H b = none -> ∃ sl, h'.get? b = some { o with slots := sl }) (free : ∀ b o, b ∉ ch -> s.heap.get? b = some o -> H b = none -> H' b = none)
 (there : ∀ b o, b ∉ ch -> s.heap.get? b = some o -> ∃ o', h'.get? b = some o')
 (tups : ∀ b xs, H b = some (.tup xs) -> H' b = some (.tup xs)) (frzs : ∀ b o u, H b = some (.frz o u) -> H' b = some (.frz o u)) (tbls : ∀ b ps, H b = some (.tbl ps) -> ∃ more, H' b = some (.tbl (ps ++ more)))
 (ns : ∀ m, s.heap.Ns X.env.locals m -> h'.Ns X.env.locals m) (hok : gz X.prog X.w H' h') (hg : AllBare g') :
 Inv X pins σ H' { s with heap := h', gens := g', drawn := d', toks := t' } := by
 have neL : ∀ b o, X.s₀.heap.get? b = some o -> b ≠ X.env.locals := fun b o e => Nat.ne_of_lt (Nat.lt_of_lt_of_le (lt_size e) I.ok.above);have neC : ∀ b o, X.s₀.heap.get? b = some o -> b ∉ X.ex -> b ∉ ch := fun b o e hx hb => by
  rcases (hch b hb).1 with z | z
  . exact hx z
  . exact absurd (Nat.lt_of_lt_of_le (lt_size e) z) (Nat.lt_irrefl _)
 have cellK : ∀ x c, X.env.cells.lookup x = some c -> ∀ v, s.heap.IsCell c v -> h'.IsCell c v := fun x c e v ⟨o, ho, hd⟩ => by
  have nch : c ∉ ch := fun z => (hch c z).2.2.1 x c e rfl;by_cases hc : c ∈ X.fs
  . obtain ⟨sl, q⟩ := slot c o (I.Cw x c e) hc nch ho (I.freeC x c e);exact ⟨_, q, hd⟩
  . exact ⟨o, keep c o (I.Cw x c e) hc nch ho (I.freeC x c e), hd⟩
 refine ⟨I.ok, I.os, hg, ⟨fun b o e n hb hx => ?_, fun b o e n hb hx => ?_, fun b o e n hx => ?_, fun b o e hx => ?_, fun b xs e => tups b xs (I.base.tups b xs e), fun b o xs e => frzs b o xs (I.base.frzs b o xs e), fun b ps e => ?_⟩, ?_, fun x c e => ?_, ?_, fun x c e => ?_, fun p hp => ?_, hok, I.len⟩
 . exact keep b o (neL b o e) hb (neC b o e hx) (I.base.keep b o e n hb hx) (I.base.free b o e n hx)
 . obtain ⟨sl, e1⟩ := I.base.slot b o e n hb hx;obtain ⟨sl', e2⟩ := slot b _ (neL b o e) hb (neC b o e hx) e1 (I.base.free b o e n hx);exact ⟨sl', e2⟩
 . obtain ⟨o', e1⟩ := I.base.there b o e hx;exact free b o' (neC b o e hx) e1 (I.base.free b o e n hx)
 . obtain ⟨o', e1⟩ := I.base.there b o e hx;exact there b o' (neC b o e hx) e1
 . obtain ⟨m1, e1⟩ := I.base.tbls b ps e;obtain ⟨m2, e2⟩ := tbls b _ e1;exact ⟨m1 ++ m2, by rw [e2, Array.append_assoc]⟩
 . obtain ⟨m, hn, hl⟩ := I.loc;refine ⟨m, ns m hn, fun i x v e1 e2 e3 => ?_⟩;obtain ⟨u, r, l⟩ := hl i x v e1 e2 e3;refine ⟨u, r, ?_⟩;rcases l with l | ⟨k, c, e, z⟩
   . exact .inl l
   . exact .inr ⟨k, c, e, cellK x c e _ z⟩
 . obtain ⟨v, z⟩ := I.cell x c e;exact ⟨v, cellK x c e v z⟩
 . obtain ⟨m, ⟨o, _, _, ho, _⟩, _⟩ := I.loc;exact free _ o (fun z => (hch _ z).2.1 rfl) ho I.free
 . obtain ⟨v, o, ho, hd⟩ := I.cell x c e;exact free c o (fun z => (hch c z).2.2.1 x c e rfl) ho (I.freeC x c e)
 . obtain ⟨e, n, ne, nf, d⟩ := I.pin p hp;have nch : p.1 ∉ ch := fun z => (hch p.1 z).2.2.2 p hp rfl;exact ⟨keep p.1 p.2 ne nf nch e n, free p.1 p.2 nch e n, ne, nf, d⟩
theorem Inv.un {t' : Nat} (I : Inv X pins σ H s) (u : Un X.fs [] H H' s.heap h') (hok : gz X.prog X.w H' h') : Inv X pins σ H' { s with heap := h', toks := t' } := by
 obtain ⟨m, ⟨o, es, ep, ho, r⟩, _⟩ := id I.loc;obtain ⟨sl, hL⟩ := u.any ho I.free (by simp);exact I.step (g' := s.gens) (d' := s.drawn) (ch := []) (fun _ z => nomatch z) (fun b o _ hb _ e n => u.keep b o e n hb (by simp)) (fun b o _ hb _ e n => u.slot b o e n hb (by simp)) (fun b o _ e n => u.free b o e n (by simp)) (fun b o _ e => u.there b o e (by simp)) u.tups u.frzs u.tbls (fun m' hm => by
  obtain ⟨o', es', ep', ho', r'⟩ := hm;rw [ho] at ho'; cases ho';exact ⟨_, es', ep', hL, r'⟩) hok I.bare
theorem Inv.call {g' : Array GenState} {t' : Nat} {d' : Drawn} {ch : List Addr} (I : Inv X pins σ H s) (u : Un (oR X.stack) ch H H' s.heap h') (hok : gz X.prog X.w H' h') (hg : AllBare g')
 (hch : ∀ b ∈ ch, (b ∈ X.ex \/ X.s₀.heap.objs.size <= b) /\ b ≠ X.env.locals /\ (∀ x c, X.env.cells.lookup x = some c -> c ≠ b) /\ ∀ p ∈ X.pn ++ pins, p.1 ≠ b) :
 Inv X pins σ H' { s with heap := h', gens := g', drawn := d', toks := t' } := by
 obtain ⟨m, ⟨o, es, ep, ho, r⟩, _⟩ := id I.loc;obtain ⟨sl, hL⟩ := u.any ho I.free fun z => (hch _ z).2.1 rfl;exact I.step (ch := ch) hch (fun b o hL hb hc e n => u.keep b o e n (fun z => (mem_cons.mp (I.tD b z)).elim hL hb) hc) (fun b o _ _ hc e n => u.any e n hc) (fun b o hc e n => u.free b o e n hc) (fun b o hc e => u.there b o e hc) u.tups u.frzs u.tbls (fun m' hm => by
  obtain ⟨o', es', ep', ho', r'⟩ := hm;rw [ho] at ho'; cases ho';exact ⟨_, es', ep', hL, r'⟩) hok hg
theorem Inv.turned {t' : Nat} {it : Addr} (I : Inv X pins σ H s) (k : ∀ b o, b ≠ it -> s.heap.get? b = some o -> h'.get? b = some o) (hn : H it = none) (hL : it ≠ X.env.locals)
 (h1 : it ∈ X.ex \/ X.s₀.heap.objs.size <= it) (h2 : ∀ x c, X.env.cells.lookup x = some c -> c ≠ it) (h3 : ∀ p ∈ X.pn ++ pins, p.1 ≠ it) : Inv X pins σ H { s with heap := h', toks := t' } := by
 have nit : ∀ b u, H b = some u -> b ≠ it := fun b u e z => by rw [z, hn] at e; cases e
 refine I.step (g' := s.gens) (d' := s.drawn) (ch := [it]) (fun b hb => ?_) (fun b o _ _ hc e _ => k b o (fun z => hc (by simp [z])) e) (fun b o _ _ hc e _ => ⟨o.slots, k b o (fun z => hc (by simp [z])) e⟩) (fun _ _ _ _ n => n)
  (fun b o hc e => ⟨o, k b o (fun z => hc (by simp [z])) e⟩) (fun _ _ e => e) (fun _ _ _ e => e) (fun b ps e => ⟨#[], by rw [e]; simp⟩) (fun m hm => ?_) (fun b u e => ?_) I.bare
 . have e : b = it := by simpa using hb
   subst e;exact ⟨h1, hL, h2, h3⟩
 . obtain ⟨o, es, ep, ho, r⟩ := hm;exact ⟨o, es, ep, k _ o (Ne.symm hL) ho, r⟩
 . refine (I.hok b u e).lT (fun c v hc q => k c v ?_ q) (fun _ q => q) fun _ _ q => q;rcases hc with z | z
   . rw [z]; exact nit b u e
   . exact nit c _ z
theorem Inv.tok (I : Inv X pins σ H s) (t : Nat) : Inv X pins σ H { s with toks := t } := I.un (h' := s.heap) (t' := t) Un.refl I.hok
theorem Inv.kept {t' : Nat} (I : Inv X pins σ H s) (k : ∀ b u, s.heap.get? b = some u -> h'.get? b = some u) : Inv X pins σ H { s with heap := h', toks := t' } := I.un (Un.kept k) (I.hok.kept k)
theorem Inv.laid {a : Addr} {o : HO} {t' : Nat} (I : Inv X pins σ H s) (k : ∀ b u, s.heap.get? b = some u -> h'.get? b = some u) (hp : s.heap.objs.size <= a) (new : bB X.prog X.w (upd H a o) h' a o) :
 Inv X pins σ (upd H a o) { s with heap := h', toks := t' } := I.un (Un.laid k hp (I.hok.fresh hp)) (I.hok.laid k hp new)
theorem Inv.write {x e : Addr} {o : HO} {t' : Nat} (I : Inv X pins σ H s) (mu : E8 (H x)) (he : e = x \/ H e = some (.own x)) (k : ∀ b u, b ≠ e -> s.heap.get? b = some u -> h'.get? b = some u) (heo : ∃ u, h'.get? e = some u)
 (new : bB X.prog X.w (upd H x o) h' x o) : Inv X pins σ (upd H x o) { s with heap := h', toks := t' } := I.un (Un.write mu he k heo) (I.hok.write mu he k heo new)
theorem Inv.ux {pins' : HZ} (I : Inv X pins σ H s) (h : ∀ p ∈ pins', s.heap.get? p.1 = some p.2 /\ H p.1 = none /\ p.1 ≠ X.env.locals /\ p.1 ∉ X.fs /\ ∀ v, p.2.data ≠ .cell v) : Inv X pins' σ H s :=
 ⟨I.ok, I.os, I.bare, I.base, I.loc, I.cell, I.free, I.freeC, fun p hp => (mem_append.mp hp).elim (fun z => I.pin p (List.mem_append_left _ z)) (h p), I.hok, I.len⟩
theorem rQ {N : Ie} (hN : N.Nodup) {i j : Nat} {x : Str} (a : N[i]? = some x) (b : N[j]? = some x) : i = j := by
 obtain ⟨h1, e1⟩ := List.getElem?_eq_some_iff.mp a;obtain ⟨h2, e2⟩ := List.getElem?_eq_some_iff.mp b;exact (List.getElem_inj hN).mp (e1.trans e2.symm)
theorem mB {M : Model} {A : Around} {E : HR} {i : Nat} {x : Str} {v : V} {u : Value} {Q : Unit -> Shared -> Prop} (I : Inv X pins σ H s) (hN : X.N.Nodup) (hi : X.N[i]? = some x) (hx : Loc X.env.scope x) (r : RelV v u)
 (h : ∀ s', Inv X pins (σ.set i (some v)) H s' -> (∃ a, Heap.SameBut a s.heap s'.heap /\ (a = X.env.locals \/ X.env.cells.lookup x = some a)) -> Q () s') (hf : X.fn x = true \/ X.env.scope.names.lookup x = some .local := by first | exact .inl rfl | exact .inr rfl | assumption) : wpAny M A (storeName X.env x u) Q E s := by
 obtain ⟨m, hn, hl⟩ := id I.loc;have hcls : (X.env.scope.kind == .class || (X.env.scope.kind == .module && X.env.locals != X.env.globals)) = false := by rw [I.ok.kind]; rfl
 have hiσ : i < σ.length := by rw [I.len]; exact (List.getElem?_eq_some_iff.mp hi).1
 have Cw := I.Cw;have tracked : ∀ {a : Addr} {h' : Heap}, (∃ o, s.heap.get? a = some o /\ H a = none) -> Heap.SameBut a s.heap h' -> gz X.prog X.w H h' := fun {a h'} ha hs b ob e => by
  obtain ⟨_, _, hfree⟩ := ha;refine (I.hok b ob e).lT (fun c w' hc q => (hs.2 c ?_).trans q) (fun _ q => q) fun _ _ q => q;rintro rfl;rcases hc with rfl | hc
  . rw [hfree] at e; cases e
  . rw [hfree] at hc; cases hc
 rcases hx with hk | hk
 . refine wpAny_storeName_local hk hn (fun h' hn' hs => ?_) hcls;obtain ⟨oL, _, _, hoL, _⟩ := id hn;refine h _ ⟨I.ok, I.os, I.bare, ⟨fun b o e n hb hx => ?_, fun b o e n hb hx => ?_, I.base.free, fun b o e hx => ?_, I.base.tups, I.base.frzs, I.base.tbls⟩, ⟨_, hn', fun j y v' e1 e2 e3 => ?_⟩, fun y c e => ?_, I.free, I.freeC, fun p hp => ?_, tracked ⟨oL, hoL, I.free⟩ hs, by simpa using I.len⟩ ⟨_, hs, .inl rfl⟩
   . exact (hs.2 b (Nat.ne_of_lt (Nat.lt_of_lt_of_le (lt_size e) I.ok.above))).trans (I.base.keep b o e n hb hx)
   . obtain ⟨sl, e1⟩ := I.base.slot b o e n hb hx;exact ⟨sl, (hs.2 b (Nat.ne_of_lt (Nat.lt_of_lt_of_le (lt_size e) I.ok.above))).trans e1⟩
   . obtain ⟨o', e1⟩ := I.base.there b o e hx;exact ⟨o', (hs.2 b (Nat.ne_of_lt (Nat.lt_of_lt_of_le (lt_size e) I.ok.above))).trans e1⟩
   . by_cases hj : j = i
     . subst hj;rw [hi] at e1; cases e1;rw [List.getElem?_set_self hiσ] at e2;cases e2;exact ⟨u, r, .inl ⟨hk, by simp⟩⟩
     . rw [List.getElem?_set_ne (Ne.symm hj)] at e2;obtain ⟨u', r', q⟩ := hl j y v' e1 e2 e3;refine ⟨u', r', ?_⟩;rcases q with ⟨k, e⟩ | ⟨k, c, e, z⟩
       . refine .inl ⟨k, ?_⟩;have : y ≠ x := fun e => hj (rQ hN e1 (e ▸ hi));simp [this, e]
       . exact .inr ⟨k, c, e, z.sameBut hs (Cw y c e)⟩
   . obtain ⟨w', z⟩ := I.cell y c e;exact ⟨w', z.sameBut hs (Cw y c e)⟩
   . obtain ⟨e, n, ne, nf, d⟩ := I.pin p hp;exact ⟨(hs.2 p.1 ne).trans e, n, ne, nf, d⟩
 . have hfn : X.fn x = true := by
    rcases hf with z | z
    . exact z
    . rw [z] at hk; cases hk
   obtain ⟨c, hc⟩ := I.ok.has x (.inl hk);obtain ⟨w', z⟩ := I.cell x c hc;refine wpAny_storeName_cell I.ok.kind hk hc z (fun h' hc' hs => ?_);obtain ⟨oc, hoc, hocd⟩ := id z;refine h { s with heap := h' } ⟨I.ok, I.os, I.bare, ⟨fun b o e n hb hx => ?_, fun b o e n hb hx => ?_, I.base.free, fun b o e hx => ?_, I.base.tups, I.base.frzs, I.base.tbls⟩, ⟨m, hn.sameBut hs (Ne.symm (Cw x c hc)), fun j y v' e1 e2 e3 => ?_⟩, fun y c' e => ?_, I.free, I.freeC, fun p hp => ?_, tracked ⟨oc, hoc, I.freeC x c hc⟩ hs, by simpa using I.len⟩ ⟨c, hs, .inr hc⟩
   . exact (hs.2 b (Nat.ne_of_lt (Nat.lt_of_lt_of_le (lt_size e) (I.ok.cab x c hfn hc)))).trans (I.base.keep b o e n hb hx)
   . obtain ⟨sl, e1⟩ := I.base.slot b o e n hb hx;exact ⟨sl, (hs.2 b (Nat.ne_of_lt (Nat.lt_of_lt_of_le (lt_size e) (I.ok.cab x c hfn hc)))).trans e1⟩
   . obtain ⟨o', e1⟩ := I.base.there b o e hx;exact ⟨o', (hs.2 b (Nat.ne_of_lt (Nat.lt_of_lt_of_le (lt_size e) (I.ok.cab x c hfn hc)))).trans e1⟩
   . by_cases hj : j = i
     . subst hj;rw [hi] at e1; cases e1;rw [List.getElem?_set_self hiσ] at e2;cases e2;exact ⟨u, r, .inr ⟨.inl hk, c, hc, hc'⟩⟩
     . rw [List.getElem?_set_ne (Ne.symm hj)] at e2;obtain ⟨u', r', q⟩ := hl j y v' e1 e2 e3;refine ⟨u', r', ?_⟩;rcases q with q | ⟨k, c', e, z'⟩
       . exact .inl q
       . refine .inr ⟨k, c', e, z'.sameBut hs ?_⟩;rintro rfl;exact hj (rQ hN e1 (I.ok.inj _ _ _ e hc ▸ hi))
   . by_cases hcc : c' = c
     . subst hcc; exact ⟨_, hc'⟩
     . obtain ⟨w2, z2⟩ := I.cell y c' e;exact ⟨w2, z2.sameBut hs hcc⟩
   . obtain ⟨e, n, ne, nf, d⟩ := I.pin p hp;refine ⟨(hs.2 p.1 ?_).trans e, n, ne, nf, d⟩;intro q;rw [q, hoc] at e;have q' : oc = p.2 := Option.some.inj e;exact d w' (by rw [<- q']; exact hocd)
theorem qS {M : Model} {A : Around} {E : HR} {i : Nat} {x : Str} {v : V} {u : Value} {Q : Unit -> Shared -> Prop} (I : Inv X pins σ H s) (hN : X.N.Nodup) (hi : X.N[i]? = some x) (hx : Loc X.env.scope x) (r : RelV v u)
 (h : ∀ s', Inv X pins (σ.set i (some v)) H s' -> Q () s') (hf : X.fn x = true \/ X.env.scope.names.lookup x = some .local := by first | exact .inl rfl | exact .inr rfl | assumption) : wpAny M A (storeName X.env x u) Q E s :=
 mB I hN hi hx r (fun s' I' _ => h s' I') hf
theorem Inv.FL {s' : Shared} {ch : List Addr} (I : Inv X pins σ H s) (ho : s'.os = s.os) (u : Un (oR X.stack) ch H H' s.heap s'.heap) (hok : gz X.prog X.w H' s'.heap) (hg : AllBare s'.gens)
 (hch : ∀ b ∈ ch, (b ∈ X.ex \/ X.s₀.heap.objs.size <= b) /\ b ≠ X.env.locals /\ (∀ x c, X.env.cells.lookup x = some c -> c ≠ b) /\ ∀ p ∈ X.pn ++ pins, p.1 ≠ b) : Inv X pins σ H' s' := by
 obtain ⟨h', g', d', t', o'⟩ := s';have e : o' = s.os := ho;subst e;exact I.call (g' := g') (t' := t') (d' := d') u hok hg hch
end
abbrev XK := Value -> Option Addr -> Hp -> Prop
abbrev St := List (Option V)
abbrev VK := V -> Hp -> Prop
abbrev TE := St -> Hp -> VK -> Prop
abbrev TT := St -> Hp -> (Bool -> Hp -> Prop) -> Prop
abbrev TA := St -> Hp -> (List V -> Hp -> Prop) -> Prop
structure Ends where
 nx : St -> Hp -> Prop
 rt : VK
 bk : St -> Hp -> Prop := fun _ _ => False
 ct : St -> Hp -> Prop := fun _ _ => False
abbrev TS := Ends -> St -> Hp -> Prop
def EP (X : Cx) (pins : HZ) (σ : St) (Q : VK) (u : Value) (s' : Shared) : Prop := ∃ v H', Inv X pins σ H' s' /\ RelV v u /\ Q v H'
def TP (X : Cx) (pins : HZ) (σ : St) (Q : Bool -> Hp -> Prop) (b : Bool) (s' : Shared) : Prop := ∃ H', Inv X pins σ H' s' /\ Q b H'
def AP (X : Cx) (pins : HZ) (σ : St) (Q : List V -> Hp -> Prop) (us : HW) (s' : Shared) : Prop := ∃ vs H', Inv X pins σ H' s' /\ Vals vs us /\ Q vs H'
def SP (X : Cx) (pins : HZ) (D : Ends) (f : Flow) (s' : Shared) : Prop :=
 match f with
 | .next => ∃ σ' H', Inv X pins σ' H' s' /\ D.nx σ' H'
 | .brk => ∃ σ' H', Inv X pins σ' H' s' /\ D.bk σ' H'
 | .cont => ∃ σ' H', Inv X pins σ' H' s' /\ D.ct σ' H'
 | .ret u => ∃ v σ' H', Inv X pins σ' H' s' /\ RelV v u /\ D.rt v H'
def PE (X : Cx) (e : Expr) (t : TE) : Prop :=
 ∀ (pins : HZ) (s : Shared) (σ : St) (H : Hp) (Q : VK), Inv X pins σ H s -> t σ H Q -> wpAny (model X.prog X.w) X.A (eval e X.env) (EP X pins σ Q) X.xe s
def PT (X : Cx) (e : Expr) (t : TT) : Prop :=
 ∀ (pins : HZ) (s : Shared) (σ : St) (H : Hp) (Q : Bool -> Hp -> Prop), Inv X pins σ H s -> t σ H Q -> wpAny (model X.prog X.w) X.A (isTrue e X.env (eval e X.env)) (TP X pins σ Q) X.xe s
def PW (X : Cx) (e : Expr) (t : TT) : Prop :=
 ∀ (whole : Sem Value) (pins : HZ) (s : Shared) (σ : St) (H : Hp) (Q : Bool -> Hp -> Prop), Inv X pins σ H s -> t σ H Q -> wpAny (model X.prog X.w) X.A (isTrue e X.env whole) (TP X pins σ Q) X.xe s
theorem PW.pt {X : Cx} {e : Expr} {t : TT} (h : PW X e t) : PT X e t := h _
def PA (X : Cx) (es : List Expr) (t : TA) : Prop :=
 ∀ (pos : Pos) (pins : HZ) (s : Shared) (σ : St) (H : Hp) (Q : List V -> Hp -> Prop), Inv X pins σ H s -> t σ H Q -> wpAny (model X.prog X.w) X.A (spliced (backTo pos (starEach es X.env))) (AP X pins σ Q) X.xe s
def PS (X : Cx) (st : Stmt) (t : TS) : Prop :=
 ∀ (pins : HZ) (s : Shared) (σ : St) (H : Hp) (D : Ends), Inv X pins σ H s -> t D σ H -> wpAny (model X.prog X.w) X.A (exec st X.env) (SP X pins D) X.xe s
def lZ (X : Cx) (st : List Stmt) (t : TS) : Prop :=
 ∀ (pins : HZ) (s : Shared) (σ : St) (H : Hp) (D : Ends), Inv X pins σ H s -> t D σ H -> wpAny (model X.prog X.w) X.A (execs st X.env) (SP X pins D) X.xe s
theorem ck {α : Type} {t : Sem α} {Q Q' : α -> Shared -> Prop} {M : Model} {A : Around} {E : HR} {s : Shared} (h : wpAny M A t Q E s) (hQ : ∀ a s, Q a s -> Q' a s) : wpAny M A t Q' E s := wpAny_mono h hQ fun _ _ x => x
section
variable {X : Cx}
def GO (i : Nat) : TE := fun σ H Q => ∃ v, σ[i]? = some (some v) /\ Q v H
def tC (v : V) : TE := fun _ H Q => Q v H
theorem fv {i : Nat} {x : Str} {pos : Pos} (hN : X.N[i]? = some x) (hv : zw X.env.scope x) (hd : (x == ("__debug__" : Str)) = false := by decide) (hcd : (x == ("__classdict__" : Str)) = false := by decide) : PE X (.Name x pos) (GO i) := by
 intro pins s σ H Q I h;obtain ⟨v, e, h⟩ := h;obtain ⟨m, hn, hl⟩ := I.loc;obtain ⟨u, r, l⟩ := hl i x v hN e hv;have fin : EP X pins σ Q u s := ⟨v, H, I, r, h⟩
 rcases l with ⟨hk, hm⟩ | ⟨hk, c, hc, hcell⟩
 . exact wpAny_Name (wpAny_loadName_local I.ok.kind hk hn hm fin) hd
 . rcases hk with hk | hk
   . exact wpAny_Name (wpAny_loadName_cell I.ok.kind hk hc hcell fin) hd
   . exact wpAny_Name (wpAny_loadName_free I.ok.kind hk hc hcell fin hcd) hd
theorem DV {i j pos} : PE X (.Constant (.int i) j pos) (tC (.int i)) := fun _ _ _ H _ I h => wpAny_Constant_int ⟨.int i, H, I.tok _, ⟨_, rfl⟩, h⟩
theorem FJ {b j pos} : PE X (.Constant (.bool b) j pos) (tC (.bl b)) := fun _ _ _ H _ I h => Constant_bool ⟨.bl b, H, I, rfl, h⟩
theorem Eh {x j pos} : PE X (.Constant (.str x) j pos) (tC (.str x)) := fun _ _ _ H _ I h => Calls.Constant_str ⟨.str x, H, I.tok _, ⟨_, rfl⟩, h⟩
def Gl (X : Cx) (x : Str) : Prop := X.env.kindOf x = some .globalImplicit
theorem oi {E : HR} {pins : HZ} {s : Shared} {σ : St} {H : Hp} {x : Str} {u : Value} {pos : Pos} {Q : HR} (I : Inv X pins σ H s) (hg : Gl X x) (hm : X.mg x = some u) (h : Q u s)
 (hd : (x == ("__debug__" : Str)) = false := by decide) : wpAny (model X.prog X.w) X.A (eval (.Name x pos) X.env) Q E s :=
 Calls.Name_function_global I.ok.kind hg (Calls.loadGlobal_global (by rw [I.ok.glob]; exact I.mod.glob.keeps I.bk) hm h) hd
theorem fh {E : HR} {pins : HZ} {s : Shared} {σ : St} {H : Hp} {x : Str} {u : Value} {pos : Pos} {Q : HR} (I : Inv X pins σ H s) (hg : Gl X x) (hm : X.mg x = none) (hv : bootBuiltins x = some u) (h : Q u s)
 (hn : x ≠ "__name__" := by decide) (hd : (x == ("__debug__" : Str)) = false := by decide) : wpAny (model X.prog X.w) X.A (eval (.Name x pos) X.env) Q E s := by
 obtain ⟨mb, h1, h2⟩ := I.mod.blt;exact Calls.Name_function_global I.ok.kind hg (Calls.loadGlobal_builtin (by rw [I.ok.glob]; exact I.mod.glob.keeps I.bk) hm (by rw [I.ok.blt]; exact h1.keeps I.bk) ((h2 x hn).trans hv) h) hd
theorem AI {x : Str} {v : V} {u : Value} {pos : Pos} (hg : Gl X x) (hm : X.mg x = some u) (r : RelV v u) (hd : (x == ("__debug__" : Str)) = false := by decide) : PE X (.Name x pos) (tC v) :=
 fun _ _ _ H _ I h => oi I hg hm ⟨v, H, I, r, h⟩ hd
variable {a b : Expr} {ta tb : TE} {pos : Pos}
def PC (X : Cx) (op : CmpOp) (a b : Expr) (t : TE) : Prop :=
 ∀ (pins : HZ) (s : Shared) (σ : St) (H : Hp) (Q : VK), Inv X pins σ H s -> t σ H Q ->
  wpAny (model X.prog X.w) X.A (eval a X.env) (fun v s₁ => wpAny (model X.prog X.w) X.A (eval b X.env) (fun u s₂ => wpAny (model X.prog X.w) X.A (compareOp op v u) (EP X pins σ Q) X.xe s₂) X.xe s₁) X.xe s
theorem zr (b : Expr) {op : CmpOp} (h : op ≠ .In) (h2 : op ≠ .NotIn) : behindInMarks op b = false := by
 have e1 : (op == CmpOp.In) = false := by cases op <;> first | rfl | exact absurd rfl h
 have e2 : (op == CmpOp.NotIn) = false := by cases op <;> first | rfl | exact absurd rfl h2
 cases b <;> simp [behindInMarks, e1, e2]
def tB (t : TE) : TT := fun σ H Q => t σ H fun x H1 => ∃ c, x = .bl c /\ Q c H1
theorem Er {op : CmpOp} {t : TE} (h : PC X op a b t) (h1 : behindInMarks op b = false := by first | exact zr _ (by decide) (by decide) | rfl) : PT X (.Compare a [op] [b] pos) (tB t) := by
 intro pins s σ H Q I hw;refine wpAny_isTrue_Compare1 (ck (h pins s σ H _ I hw) fun v s1 h1 => ck h1 fun u s2 h2 => ck h2 fun c s3 ⟨x, H1, I1, r1, q1⟩ => ?_) h1;obtain ⟨d, rfl, q⟩ := q1;cases r1;exact wpAny_truthy_bool ⟨H1, I1, q⟩
theorem xQ {e : Expr} {t : TE} (h : PE X e t) (he : ∀ whole, isTrue e X.env whole = (do let v <- whole; standAt e.pos; holding [v] (truthy v)) := by intro _; rfl) : PT X e (tB t) := by
 intro pins s σ H Q I hw;refine isTrue_plain (ck (h pins s σ H _ I hw) fun v s1 ⟨x, H1, I1, r1, q1⟩ => ?_) (he _);obtain ⟨d, rfl, q⟩ := q1;cases r1;exact wpAny_truthy_bool ⟨H1, I1, q⟩
variable {tA vR : TT} {rest : List Expr}
def GZ (t u : TT) : TT := fun σ H Q => t σ H fun c H1 => if c = true then u σ H1 Q else Q false H1
def HJ (t u : TT) : TT := fun σ H Q => t σ H fun c H1 => if c = true then Q true H1 else u σ H1 Q
def Gv (t : TT) : TT := fun σ H Q => t σ H fun c H1 => Q (!c) H1
theorem BF (ha : PT X a tA) : PW X (.BoolOp .And [a] pos) tA := by
 intro wh pins s σ H Q I h;refine isTrue_and (ck (ha pins s σ H Q I h) fun c s1 e => ?_)
 cases c with
 | true => exact isTrue_and_nil e
 | false => exact e
theorem C9 (ha : PT X a tA) : PW X (.BoolOp .Or [a] pos) tA := by
 intro wh pins s σ H Q I h;refine isTrue_or (ck (ha pins s σ H Q I h) fun c s1 e => ?_)
 cases c with
 | false => exact isTrue_or_nil e
 | true => exact e
theorem Ag (ha : PT X a tA) (hb : PW X (.BoolOp .And (b :: rest) pos) vR) : PW X (.BoolOp .And (a :: b :: rest) pos) (GZ tA vR) := by
 intro wh pins s σ H Q I h;refine isTrue_and (ck (ha pins s σ H _ I h) fun c s1 ⟨H1, I1, q1⟩ => ?_)
 cases c with
 | true => exact hb wh pins s1 σ H1 Q I1 q1
 | false => exact ⟨H1, I1, q1⟩
theorem CM (ha : PT X a tA) (hb : PW X (.BoolOp .Or (b :: rest) pos) vR) : PW X (.BoolOp .Or (a :: b :: rest) pos) (HJ tA vR) := by
 intro wh pins s σ H Q I h;refine isTrue_or (ck (ha pins s σ H _ I h) fun c s1 ⟨H1, I1, q1⟩ => ?_)
 cases c with
 | true => exact ⟨H1, I1, q1⟩
 | false => exact hb wh pins s1 σ H1 Q I1 q1
theorem Ec (ha : PT X a tA) : PT X (.UnaryOp .Not a pos) (Gv tA) := by
 intro pins s σ H Q I h;exact isTrue_not (ha pins s σ H (fun c H1 => Q (!c) H1) I h)
def Ga (ta tb : TE) : TE := fun σ H Q => ta σ H fun x H1 => ∃ c, x = .bl c /\ if c = true then tb σ H1 Q else Q (.bl false) H1
def Fq (ta : TE) : TE := fun σ H Q => ta σ H fun x H1 => ∃ c, x = .bl c /\ Q (.bl (!c)) H1
theorem EG {op} {t : TE} (h : PE X a t) : PE X (.BoolOp op [a] pos) t := fun pins s σ H Q I hw => BoolOp_one (h pins s σ H Q I hw)
theorem zy (ha : PE X a ta) (hb : PE X (.BoolOp .And (b :: rest) pos) tb) : PE X (.BoolOp .And (a :: b :: rest) pos) (Ga ta tb) := by
 intro pins s σ H Q I h;refine BoolOp_and (ck (ha pins s σ H _ I h) fun v s1 ⟨x, H1, I1, r1, q1⟩ => ?_);obtain ⟨c, rfl, q1⟩ := q1;cases r1;refine wpAny_truthy_bool ?_
 cases c with
 | true => exact hb pins s1 σ H1 Q I1 q1
 | false => exact ⟨.bl false, H1, I1, rfl, q1⟩
theorem DW (ha : PE X a ta) : PE X (.UnaryOp .Not a pos) (Fq ta) := by
 intro pins s σ H Q I h;refine UnaryOp_ (ck (ha pins s σ H _ I h) fun v s1 ⟨x, H1, I1, r1, q1⟩ => ?_);obtain ⟨c, rfl, q1⟩ := q1;cases r1;exact not_of (wpAny_truthy_bool ⟨.bl (!c), H1, I1, rfl, q1⟩)
def HH (t : TT) (ta tb : TE) : TE := fun σ H Q => t σ H fun c H1 => if c = true then ta σ H1 Q else tb σ H1 Q
theorem qR {c : Expr} (hc : PT X c tA) (ha : PE X a ta) (hb : PE X b tb) : PE X (.IfExp c a b pos) (HH tA ta tb) := by
 intro pins s σ H Q I h;refine wpAny_IfExp (ck (hc pins s σ H _ I h) fun d s1 ⟨H1, I1, q1⟩ => ?_)
 cases d with
 | true => exact ha pins s1 σ H1 Q I1 q1
 | false => exact hb pins s1 σ H1 Q I1 q1
end
def dM (K : Frag) (H : Hp) (a : Addr) (xs : List V) : Prop :=
 Rd H a (.lst xs) \/
  ∃ (o : Obj) (its : HX) (n : Nat), K.lookup a = some o /\ o.cls = .type "list" /\ o.dict = none /\ o.data = .seq its n /\ its.size <= sizeLine /\ Vals xs its.toList
def z6 (K : Frag) (H : Hp) (a : Addr) (xs : List V) : Prop :=
 Rd H a (.tup xs) \/
  ∃ (o : Obj) (its : HX) (n : Nat), K.lookup a = some o /\ o.cls = .type "tuple" /\ o.data = .seq its n /\ its.size <= sizeLine /\ Vals xs its.toList
def GX : Value -> Option V
 | .none => some .non
 | .bool b => some (.bl b)
 | .int i _ => some (.int i)
 | .str x _ => some (.str x)
 | .bytes b _ => some (.byt b)
 | .float b _ => some (.flt b)
 | .ref a => some (.ref a)
 | .type n => some (.ty n)
 | _ => none
theorem RelV.abs {x : V} {u : Value} (r : RelV x u) : GX u = some x := by
 cases x with
 | non => cases r; rfl
 | bl _ => cases r; rfl
 | int _ => obtain ⟨t, rfl⟩ := r; rfl
 | str _ => obtain ⟨t, rfl⟩ := r; rfl
 | byt _ => obtain ⟨t, rfl⟩ := r; rfl
 | flt _ => obtain ⟨t, rfl⟩ := r; rfl
 | ref _ => cases r; rfl
 | ty _ => cases r; rfl
theorem RelV.inj {x y : V} {u : Value} (r : RelV x u) (q : RelV y u) : x = y := Option.some.inj (r.abs.symm.trans q.abs)
theorem Vals.inj : ∀ {xs ys : List V} {us : HW}, Vals xs us -> Vals ys us -> xs = ys
 | _, _, _, .nil, .nil => rfl
 | _, _, _, .cons r t, .cons r' t' => by rw [r.inj r', Vals.inj t t']
section
variable {X : Cx} {pins : HZ} {σ : St} {H : Hp} {s : Shared} {a : Addr} {xs ys : List V}
theorem dM.of {K : Frag} (h : H a = some (.lst xs)) : dM K H a xs := .inl (.inl h)
theorem Inv.list (I : Inv X pins σ H s) (h : dM X.K H a xs) : ∃ its : List Value, Vals xs its /\ PlainL s.heap a its.toArray /\ xs.length <= sizeLine := by
 rcases h with h | ⟨o, its, n, hk, hc, hd, hs, hz, r⟩
 . obtain ⟨z, its, n, r, e⟩ := h.ok I.hok;exact ⟨its, r, ⟨_, n, e, rfl, rfl, rfl⟩, z⟩
 . refine ⟨its.toList, r, ⟨o, n, I.Be a o hk, hc, hd, by simpa using hs⟩, ?_⟩;have e := r.length;simp only [Array.length_toList] at e;omega
theorem Inv.tuple (I : Inv X pins σ H s) (h : z6 X.K H a xs) : ∃ its : List Value, Vals xs its /\ IsTup s.heap a its.toArray /\ xs.length <= sizeLine := by
 rcases h with h | ⟨o, its, n, hk, hc, hs, hz, r⟩
 . obtain ⟨z, its, r, p⟩ := h.ok I.hok;exact ⟨its, r, p, z⟩
 . refine ⟨its.toList, r, ⟨o, I.Be a o hk, hc, n, by simpa using hs⟩, ?_⟩;have e := r.length;simp only [Array.length_toList] at e;omega
theorem Inv.fC (I : Inv X pins σ H s) (h : dM X.K H a xs) (h' : dM X.K H a ys) : xs = ys := by
 obtain ⟨its, r, ⟨o, n, e, _, _, d⟩, _⟩ := I.list h;obtain ⟨its', r', ⟨o', n', e', _, _, d'⟩, _⟩ := I.list h';rw [e] at e'; cases e';rw [d] at d';injection d' with d1 _;have : its = its' := by simpa using congrArg Array.toList d1
 subst this;exact r.inj r'
theorem Inv.mQ (I : Inv X pins σ H s) (h : z6 X.K H a xs) (h' : z6 X.K H a ys) : xs = ys := by
 obtain ⟨its, r, ⟨o, e, _, n, d⟩, _⟩ := I.tuple h;obtain ⟨its', r', ⟨o', e', _, n', d'⟩, _⟩ := I.tuple h';rw [e] at e'; cases e';rw [d] at d';injection d' with d1 _;have : its = its' := by simpa using congrArg Array.toList d1
 subst this;exact r.inj r'
end
abbrev Cx.lV (X : Cx) (E : HR) : Cx := { X with xe := E }
abbrev Cx.Am (X : Cx) : Cx := X.lV fun _ _ => False
theorem Cx.Ok.lV {X : Cx} (ok : X.Ok) (E : HR) : (X.lV E).Ok :=
 ⟨ok.mod, ok.kind, ok.glob, ok.blt, ok.above, ok.inj, ok.has, ok.cab, ok.hd, ok.frames, ok.stk, ok.exf, ok.bs, ok.bsz, ok.noex, ok.exfs, ok.fJ, ok.frf⟩
theorem Cx.Ok.fK {X : Cx} {E : HR} (ok : (X.lV E).Ok) : X.Ok :=
 ⟨ok.mod, ok.kind, ok.glob, ok.blt, ok.above, ok.inj, ok.has, ok.cab, ok.hd, ok.frames, ok.stk, ok.exf, ok.bs, ok.bsz, ok.noex, ok.exfs, ok.fJ, ok.frf⟩
section
variable {X : Cx} {pins : HZ} {σ : St} {H : Hp} {s : Shared} {E : HR}
theorem Inv.lV (I : Inv X pins σ H s) (E : HR) : Inv (X.lV E) pins σ H s := ⟨I.ok.lV E, I.os, I.bare, I.base, I.loc, I.cell, I.free, I.freeC, I.pin, I.hok, I.len⟩
theorem Inv.fK (I : Inv (X.lV E) pins σ H s) : Inv X pins σ H s := ⟨I.ok.fK, I.os, I.bare, I.base, I.loc, I.cell, I.free, I.freeC, I.pin, I.hok, I.len⟩
theorem SP.fK {D : Ends} {f : Flow} {s' : Shared} (h : SP (X.lV E) pins D f s') : SP X pins D f s' := by
 cases f with
 | next => obtain ⟨σ', H', I, q⟩ := h; exact ⟨σ', H', I.fK, q⟩
 | brk => obtain ⟨σ', H', I, q⟩ := h; exact ⟨σ', H', I.fK, q⟩
 | cont => obtain ⟨σ', H', I, q⟩ := h; exact ⟨σ', H', I.fK, q⟩
 | ret u => obtain ⟨v, σ', H', I, r, q⟩ := h; exact ⟨v, σ', H', I.fK, r, q⟩
theorem lZ.Am {st : List Stmt} {t : TS} (h : lZ X.Am st t) : lZ X st t := fun pins s σ H D I hw =>
 wpAny_mono (h pins s σ H D (I.lV _) hw) (fun _ _ q => q.fK) fun _ _ z => False.elim z
end
section
variable {X : Cx} {st : Stmt} {rest : List Stmt} {t u : TS} {e : Expr} {te : TE} {pos : Pos}
def ES : TS := fun D σ H => D.nx σ H
def GB (t u : TS) : TS := fun D σ H => t { D with nx := u D } σ H
theorem Ca : lZ X [] ES := fun _ _ σ H _ I h => wpAny_execs_nil ⟨σ, H, I, h⟩
theorem yJ (h1 : PS X st t) (h2 : lZ X rest u) : lZ X (st :: rest) (GB t u) := by
 intro pins s σ H D I h;refine wpAny_execs_cons (ck (h1 pins s σ H { D with nx := u D } I h) fun f s1 q => ?_)
 cases f with
 | next =>
  obtain ⟨σ', H', I', q⟩ := q;exact h2 pins s1 σ' H' D I' q
 | ret v => exact q
 | brk => exact q
 | cont => exact q
theorem Inv.quiet {pins : HZ} {σ : St} {H : Hp} {s : Shared} (I : Inv X pins σ H s) : interactive X.env = false := by simp [interactive, I.ok.kind]
def FG (te : TE) : TS := fun D σ H => te σ H fun _ H1 => D.nx σ H1
theorem om (he : PE X e te) (hs : swapsWith e none pos.line X.env = pure false := by rfl) : PS X (.Expr e pos) (FG te) := by
 intro pins s σ H D I h;exact wpAny_Expr_any (ck (he pins s σ H _ I h) fun v s1 ⟨x, H1, I1, r1, q1⟩ => ⟨σ, H1, I1, q1⟩) I.quiet hs
def GD (te : TE) : TS := fun D σ H => te σ H D.rt
theorem zd (he : PE X e te) : PS X (.Return (some e) pos) (GD te) := by
 intro pins s σ H D I h;exact wpAny_Return_some (ck (he pins s σ H _ I h) fun v s1 ⟨x, H1, I1, r1, q1⟩ => ⟨x, σ, H1, I1, r1, q1⟩)
def GY (c : TT) (t u : TS) : TS := fun D σ H => c σ H fun b H1 => if b = true then t D σ H1 else u D σ H1
theorem mR {c : Expr} {a b : List Stmt} {tc : TT} (hc : PT X c tc) (ha : lZ X a t) (hb : lZ X b u) : PS X (.If c a b pos) (GY tc t u) := by
 intro pins s σ H D I h;refine wpAny_If (ck (hc pins s σ H _ I h) fun d s1 ⟨H1, I1, q1⟩ => ?_)
 cases d with
 | true => exact ha pins s1 σ H1 D I1 q1
 | false => exact hb pins s1 σ H1 D I1 q1
def Du : TS := fun _ _ _ => False
theorem dy {sts : List Stmt} : lZ X sts Du := fun _ _ _ _ _ _ h => h.elim
end
abbrev TG := V -> St -> Hp -> (St -> Hp -> Prop) -> Prop
abbrev Ez := List V -> St -> Hp -> (St -> Hp -> Prop) -> Prop
def PG (X : Cx) (target : Expr) (t : TG) : Prop :=
 ∀ (pins : HZ) (s : Shared) (σ : St) (H : Hp) (v : V) (u : Value) (Q : St -> Hp -> Prop), Inv X pins σ H s -> RelV v u -> t v σ H Q ->
  wpAny (model X.prog X.w) X.A (assign target X.env u) (fun _ s' => ∃ σ' H', Inv X pins σ' H' s' /\ Q σ' H') X.xe s
def Gj (X : Cx) (ts : List Expr) (t : Ez) : Prop :=
 ∀ (pins : HZ) (s : Shared) (σ : St) (H : Hp) (vs : List V) (us : HW) (Q : St -> Hp -> Prop), Inv X pins σ H s -> Vals vs us -> t vs σ H Q ->
  wpAny (model X.prog X.w) X.A (assignInOrder ((assignEach ts X.env).map (·.2)) us) (fun _ s' => ∃ σ' H', Inv X pins σ' H' s' /\ Q σ' H') X.xe s
section
variable {X : Cx} {pos : Pos}
def dZ (i : Nat) : TG := fun v σ H Q => Q (σ.set i (some v)) H
theorem fU {i : Nat} {x : Str} (hN : X.N.Nodup) (hi : X.N[i]? = some x) (hx : Loc X.env.scope x) (hf : X.fn x = true \/ X.env.scope.names.lookup x = some .local := by first | exact .inl rfl | exact .inr rfl | assumption) : PG X (.Name x pos) (dZ i) := by
 intro pins s σ H v u Q I r h;exact wpAny_assign_Name (qS I hN hi hx r (fun s' I' => ⟨_, H, I', h⟩) hf)
def A0 : Ez := fun vs σ H Q => vs = [] /\ Q σ H
def lC (t : TG) (u : Ez) : Ez := fun vs σ H Q => ∃ v r, vs = v :: r /\ t v σ H fun σ' H' => u r σ' H' Q
theorem uQ : Gj X [] A0 := by
 intro pins s σ H vs us Q I r h;obtain ⟨e, h⟩ := h;subst e;cases r;exact assignInOrder_nil ⟨σ, H, I, h⟩
theorem g9 {e : Expr} {es : List Expr} {t : TG} {u : Ez} (h1 : PG X e t) (h2 : Gj X es u)
 (hs : (assignEach (e :: es) X.env).map (·.2) = assign e X.env :: (assignEach es X.env).map (·.2) := by rfl) : Gj X (e :: es) (lC t u) := by
 intro pins s σ H vs us Q I r h;obtain ⟨v, vr, e1, h⟩ := h;subst e1
 cases r with
 | cons r rr =>
  rw [hs];refine assignInOrder_cons (ck (h1 pins s σ H _ _ _ I r h) fun _ s1 ⟨σ1, H1, I1, q1⟩ => ?_);exact h2 pins s1 σ1 H1 _ _ Q I1 rr q1
def Cd (K : Frag) (n : Nat) (t : Ez) : TG := fun v σ H Q => ∃ a xs, v = .ref a /\ z6 K H a xs /\ xs.length = n /\ t xs σ H Q
theorem zF {es : List Expr} {k : Nat} {t : Ez} {n : Nat} (hc : X.calm = true) (h : Gj X es t)
 (hn : (assignEach es X.env).length = n := by rfl) (hst : (assignEach es X.env).findIdx? (·.1) = none := by rfl) : PG X (.Tuple es k pos) (Cd X.K n t) := by
 intro pins s σ H v u Q I r hw;obtain ⟨a, xs, e1, hq, hl, hw⟩ := hw;subst e1;cases r;obtain ⟨its, rv, ht, hz⟩ := I.tuple hq;refine assign_Tuple_tuple (I.ok.hd hc) ht (by simp [hn, <- hl, rv.length]) hst fun h' hx => ?_;have I1 : Inv X pins σ H { s with heap := h' } := I.kept (t' := s.toks) fun b o e => hx b o (Nat.ne_of_lt (lt_size e)) e;exact h pins _ σ H xs _ Q I1 (by simpa using rv) hw
def C7 (te : TE) (g : TG) : TS := fun D σ H => te σ H fun x H1 => g x σ H1 D.nx
theorem lJ {i : Nat} {x : Str} {e : Expr} {te : TE} {pos' : Pos} (hN : X.N.Nodup) (hi : X.N[i]? = some x) (hx : Loc X.env.scope x) (he : PE X e te) (hs : swapsWith e (some (.Name x pos')) pos.line X.env = pure false := by rfl) (hf : X.fn x = true \/ X.env.scope.names.lookup x = some .local := by first | exact .inl rfl | exact .inr rfl | assumption) :
 PS X (.Assign [.Name x pos'] e pos) (C7 te (dZ i)) := by
 intro pins s σ H D I h;refine wpAny_Assign_Name (ck (he pins s σ H _ I h) fun v s1 ⟨y, H1, I1, r1, q1⟩ => ?_) hs;exact qS I1 hN hi hx r1 (fun s2 I2 => ⟨_, H1, I2, q1⟩) hf
end
section
variable {X : Cx} {pos : Pos}
def Dx (c : TT) (tb : TS) : TS := fun D σ H => ∃ W : Nat -> St -> Hp -> Prop, (∃ m, W m σ H) /\ ∀ m σ H, W m σ H ->
 c σ H fun b H1 => if b = true then ∃ N : St -> Hp -> Prop, (∀ σ' H', N σ' H' -> ∃ m', m' < m /\ W m' σ' H') /\ tb { D with nx := N, ct := N, bk := D.nx } σ H1 else D.nx σ H1
theorem yW {c : Expr} {body : List Stmt} {tc : TT} {tb : TS} (hp : PassesOwn (model X.prog X.w) X.A X.env X.xe) (hc : PT X c tc) (hb : lZ X body tb) : PS X (.While c body [] pos) (Dx tc tb) := by
 intro pins s σ H D I h;obtain ⟨W, ⟨m0, w0⟩, turn⟩ := h;refine wpAny_While (codeAny_whileLoop (fun n s' => ∃ σ' H', Inv X pins σ' H' s' /\ W n σ' H') ?_ m0 ⟨σ, H, I, w0⟩);rintro n s1 ⟨σ1, H1, I1, w1⟩;refine wpAny_passesOwn hp (ck (hc pins s1 σ1 H1 _ I1 (turn n σ1 H1 w1)) fun b s2 ⟨H2, I2, q2⟩ => ?_)
 cases b with
 | true =>
  obtain ⟨N, hN, q2⟩ := q2;rw [if_pos rfl];refine wpAny_passesOwn hp (ck (hb pins s2 σ1 H2 _ I2 q2) fun f s3 q3 => ?_)
  cases f with
  | next =>
   obtain ⟨σ3, H3, I3, n3⟩ := q3;obtain ⟨m', hm, w3⟩ := hN σ3 H3 n3;exact ⟨m', hm, σ3, H3, I3, w3⟩
  | cont =>
   obtain ⟨σ3, H3, I3, n3⟩ := q3;obtain ⟨m', hm, w3⟩ := hN σ3 H3 n3;exact ⟨m', hm, σ3, H3, I3, w3⟩
  | brk => exact q3
  | ret v => exact q3
 | false =>
  rw [if_neg Bool.false_ne_true];exact wpAny_execs_nil ⟨σ1, H2, I2, q2⟩
end
structure It where
 go : Nat -> Hp -> Prop
 yld : Nat -> Hp -> V -> Hp -> Prop
 stop : Nat -> Hp -> Prop
def gT (X : Cx) (pins : HZ) (H : Hp) (b : Addr) : Prop :=
 H b = none /\ b ≠ X.env.locals /\ b ∉ X.fs /\ (b ∈ X.ex \/ X.s₀.heap.objs.size <= b) /\ (∀ x c, X.env.cells.lookup x = some c -> c ≠ b) /\ ∀ p ∈ X.pn ++ pins, p.1 ≠ b
theorem Inv.pK {X : Cx} {pins : HZ} {σ : St} {H H' : Hp} {s : Shared} {b : Addr} (I : Inv X pins σ H s) (hb : s.heap.objs.size <= b) (hn : H' b = none) : gT X pins H' b := by
 refine ⟨hn, Nat.ne_of_gt (Nat.lt_of_lt_of_le I.lt hb), I.GS hb, .inr (Nat.le_trans I.sz hb), fun x c e z => ?_, fun p hp z => ?_⟩
 . obtain ⟨v, q⟩ := I.cell x c e;exact absurd (Nat.lt_of_lt_of_le q.lt (by rw [z]; exact hb)) (Nat.lt_irrefl _)
 . exact absurd (Nat.lt_of_lt_of_le (lt_size (I.pin p hp).1) (by rw [z]; exact hb)) (Nat.lt_irrefl _)
structure Turn (P : Program) (w : World) (K : Frag) (tg : Expr) (J : It) (fp : List Addr) (it : Addr) (tn : Nat -> Heap -> Prop) : Prop where
 mem : it ∈ fp
 obj : ∀ i h, tn i h -> ∀ b ∈ fp, ∃ o, h.get? b = some o /\ ∀ v, o.data ≠ .cell v
 keep : ∀ i h h', tn i h -> (∀ b ∈ fp, ∀ o, h.get? b = some o -> h'.get? b = some o) -> tn i h'
 item : ∀ (X : Cx), X.prog = P -> X.w = w -> X.K = K -> X.calm = true -> ∀ (i : Nat) (pins : HZ) (s : Shared) (σ : St) (H : Hp) (E : HR), Inv X pins σ H s -> (∀ b ∈ fp, gT X pins H b) -> tn i s.heap -> J.go i H ->
  wpAny (model P w) X.A (pyNext (.ref it)) (fun r s1 => ∃ u, r = some u /\
   wpAny (model P w) X.A (letOwnedTupleGo tg (.ref it) u) (fun _ s2 => ∃ x H', Inv X pins σ H' s2 /\ RelV x u /\ J.yld i H x H' /\ tn (i + 1) s2.heap /\ ∀ b ∈ fp, H' b = none) E s1) E s
 done : ∀ (X : Cx), X.prog = P -> X.w = w -> X.K = K -> X.calm = true -> ∀ (i : Nat) (pins : HZ) (s : Shared) (σ : St) (H : Hp) (E : HR), Inv X pins σ H s -> (∀ b ∈ fp, gT X pins H b) -> tn i s.heap -> J.stop i H ->
  wpAny (model P w) X.A (pyNext (.ref it)) (fun r s1 => r = none /\ Inv X pins σ H s1) E s
 self : ∀ (A : Around) (i : Nat) (s : Shared) (Q : HR) (E : HR), tn i s.heap -> Q (.ref it) s -> wpAny (model P w) A (pyIter (.ref it)) Q E s
abbrev TI := St -> Hp -> (It -> Hp -> Prop) -> Prop
def GG (X : Cx) (pins : HZ) (σ : St) (tg : Expr) (R : It -> Hp -> Prop) (itv : Value) (s2 : Shared) : Prop :=
 ∃ (it : Addr) (fp : List Addr) (tn : Nat -> Heap -> Prop) (J : It) (H' : Hp), itv = .ref it /\ Inv X pins σ H' s2 /\ Turn X.prog X.w X.K tg J fp it tn /\ tn 0 s2.heap /\ (∀ b ∈ fp, gT X pins H' b) /\ R J H'
def PI (X : Cx) (tg iter : Expr) (wi : TI) : Prop :=
 ∀ (pins : HZ) (s : Shared) (σ : St) (H : Hp) (R : It -> Hp -> Prop), Inv X pins σ H s -> wi σ H R ->
  wpAny (model X.prog X.w) X.A (eval iter X.env) (fun v s1 => wpAny (model X.prog X.w) X.A (pyIter v) (GG X pins σ tg R) X.xe s1) X.xe s
theorem uT {M : Model} {A : Around} {E : HR} {s : Shared} {tg : Expr} {it : Addr} {u : Value} {o : Obj} {n : String} {vs : HX} {Q : Unit -> Shared -> Prop} (ho : s.heap.get? it = some o) (hc : o.cls = .type n) (hd : o.data = .fields vs)
    (hn : ["enumerate", "zip", "dict_itemiterator", "dict_reverseitemiterator", "odict_iterator", "itertools.zip_longest", "itertools.pairwise"].contains n = false) (hQ : Q () s) : wpAny M A (letOwnedTupleGo tg (.ref it) u) Q E s := by
  unfold letOwnedTupleGo;cases tg <;> first
    | exact wpAny_pure hQ
    | (cases u <;> first
        | exact wpAny_pure hQ
        | (refine wpAny_bind (wpAny_load ho ?_)
           rw [hc, hd];show wpAny M A (if (["enumerate", "zip", "dict_itemiterator", "dict_reverseitemiterator", "odict_iterator", "itertools.zip_longest", "itertools.pairwise"].contains n && vs[0]? == some (rawInt _)) = true then _ else _) Q E s;rw [if_neg (by intro h; rw [hn, Bool.false_and] at h; cases h)];exact wpAny_pure hQ))
def Hr (K : Frag) (a : Addr) : It :=
 ⟨fun i H => ∃ xs x, dM K H a xs /\ xs[i]? = some x, fun i H x H' => H' = H /\ ∀ xs, dM K H a xs -> xs[i]? = some x, fun i H => ∃ xs, dM K H a xs /\ xs.length <= i⟩
def Gi (lo : Int) (n : Nat) : It := ⟨fun i _ => i < n, fun i H x H' => H' = H /\ x = .int (lo + i), fun i _ => n <= i⟩
theorem w8 {P : Program} {w : World} {K : Frag} {tg : Expr} (a it : Addr) : Turn P w K tg (Hr K a) [it] it (fun i h => h.IsListIter it a i) where
 mem := by simp
 obj := fun i h st b hb => by
  have e : b = it := by simpa using hb
  subst e;obtain ⟨o, e, c, d⟩ := st;exact ⟨o, e, fun v z => by rw [d] at z; cases z⟩
 keep := fun i h h' st k => st.at fun o e => k it (by simp) o e
 item := by
  intro X hP hw hK hc i pins s σ H E I hf st hg;subst hP hw hK;obtain ⟨xs, x, hq, hx⟩ := hg;obtain ⟨its, rv, p, hz⟩ := I.list hq;obtain ⟨u, hu, ru⟩ := rv.get hx;obtain ⟨f0, f1, f2, f3, f4, f5⟩ := hf it (by simp);refine wpAny_pyNext_list_item st p.isList (x := u) (by simpa using hu) fun h' st' sb => ?_;have I1 : Inv X pins σ H { s with heap := h' } := I.turned (t' := s.toks) (fun b o hb e => (sb.2 b hb).trans e) f0 f1 f3 f4 f5;obtain ⟨o, e, c, d⟩ := id st';exact ⟨u, rfl, uT (s := { s with heap := h' }) e c d (by decide) ⟨x, H, I1, ru, ⟨rfl, fun ys hy => by rw [I.fC hy hq]; exact hx⟩, st', fun b hb => (hf b hb).1⟩⟩
 done := by
  intro X hP hw hK hc i pins s σ H E I hf st hg;subst hP hw hK;obtain ⟨xs, hq, hx⟩ := hg;obtain ⟨its, rv, p, hz⟩ := I.list hq;obtain ⟨f0, f1, f2, f3, f4, f5⟩ := hf it (by simp);have hl := rv.length;exact wpAny_pyNext_list_end (I.ok.hd hc) st p.isList (by simp; omega) fun h' eb => ⟨rfl, I.turned (t' := s.toks) (fun b o hb e => eb b o hb e) f0 f1 f3 f4 f5⟩
 self := fun _ _ _ _ _ st h => wpAny_pyIter_listiter st h
theorem uf {P : Program} {w : World} {K : Frag} {tg : Expr} (it : Addr) (lo : Int) (n : Nat) : Turn P w K tg (Gi lo n) [it] it (fun i h => IsRangeIter h it (lo + (i : Nat) * 1) ((n : Int) - (i : Nat)) 1) where
 mem := by simp
 obj := fun i h st b hb => by
  have e : b = it := by simpa using hb
  subst e;exact ⟨_, st, fun v z => by
   have z' : Data.fields _ = Data.cell v := z;cases z'⟩
 keep := fun i h h' st k => k it (by simp) _ st
 item := by
  intro X hP hw hK hc i pins s σ H E I hf st hg;subst hP hw hK;obtain ⟨f0, f1, f2, f3, f4, f5⟩ := hf it (by simp);have W := Walks.range (prog := X.prog) (w := X.w) (I.ok.hd hc) it lo 1 n;refine W.item i s _ _ hg st fun v h' tk hv st' kk => ?_;obtain ⟨t, rfl⟩ := hv;have I1 : Inv X pins σ H { s with heap := h', toks := tk } := I.turned (fun b o hb e => kk b o (by simpa using hb) e) f0 f1 f3 f4 f5;refine ⟨_, rfl, uT (s := { s with heap := h', toks := tk }) (n := "range_iterator") st' rfl rfl (by decide) ⟨.int (lo + i), H, I1, ⟨t, ?_⟩, ⟨rfl, rfl⟩, st', fun b hb => (hf b hb).1⟩⟩;rw [Int.mul_one]
 done := by
  intro X hP hw hK hc i pins s σ H E I hf st hg;subst hP hw hK;obtain ⟨f0, f1, f2, f3, f4, f5⟩ := hf it (by simp);exact wpAny_pyNext_range_end (I.ok.hd hc) st (by have : n <= i := hg; omega) fun h' eb => ⟨rfl, I.turned (t' := s.toks) (fun b o hb e => eb b o hb e) f0 f1 f3 f4 f5⟩
 self := fun _ _ _ _ _ st h => wpAny_pyIter_rangeiter st h
section
variable {X : Cx} {tg : Expr}
def FZ (K : Frag) (tl : TE) : TI := fun σ H R => tl σ H fun x H1 => ∃ a, x = .ref a /\ (∃ xs, dM K H1 a xs) /\ R (Hr K a) H1
theorem A2 {l : Expr} {tl : TE} (hl : PE X l tl) : PI X tg l (FZ X.K tl) := by
 intro pins s σ H R I h;refine ck (hl pins s σ H _ I h) fun v s1 ⟨x, H1, I1, r1, q1⟩ => ?_;obtain ⟨a, e, ⟨xs, hq⟩, q⟩ := q1;subst e;cases r1;obtain ⟨its, rv, p, hz⟩ := I1.list hq;refine wpAny_pyIter_list p.isList ?_;refine ⟨s1.heap.objs.size, [s1.heap.objs.size], _, _, H1, rfl, I1.kept (t' := s1.toks) fun b o e => get?_push_of_some _ e, w8 a _, ⟨_, get?_push_size _ rfl, rfl, rfl⟩, fun b hb => ?_, q⟩;have e : b = s1.heap.objs.size := by simpa using hb
 subst e;exact I1.pK (Nat.le_refl _) (I1.hok.fresh (Nat.le_refl _))
theorem zz {pins : HZ} {σ : St} {H : Hp} {s : Shared} {R : It -> Hp -> Prop} {E : HR} {lo hi : Int} {t u v : Tok} {tk : Nat} (I : Inv X pins σ H s) (h1 : -(2 ^ 62) <= lo) (h2 : lo < 2 ^ 62) (h3 : -(2 ^ 62) <= hi) (h4 : hi < 2 ^ 62)
 (q : R (Gi lo (hi - lo).toNat) H) : wpAny (model X.prog X.w) X.A (pyIter (.ref s.heap.objs.size)) (GG X pins σ tg R) E { s with heap := s.heap.push { cls := .type "range", data := .fields #[.int lo t, .int hi u, .int 1 v] }, toks := tk } := by
 refine wpAny_pyIter_range (IsRange.new ..) (small_one h1 h2 h3 h4) ?_;have I1 : Inv X pins σ H { s with heap := s.heap.push { cls := .type "range", data := .fields #[.int lo t, .int hi u, .int 1 v] }, toks := tk } := I.kept fun b o e => get?_push_of_some _ e;refine ⟨(s.heap.push { cls := .type "range", data := .fields #[.int lo t, .int hi u, .int 1 v] }).objs.size, [(s.heap.push { cls := .type "range", data := .fields #[.int lo t, .int hi u, .int 1 v] }).objs.size], _, _, H, rfl,
  I1.kept (t' := tk) fun b o e => get?_push_of_some _ e, uf _ lo (hi - lo).toNat, ?_, fun b hb => ?_, q⟩
 . have e1 : lo + ((0 : Nat) : Int) * 1 = lo := by simp
   have e2 : (((hi - lo).toNat : Nat) : Int) - ((0 : Nat) : Int) = Builtin.Range.rangeSize lo hi 1 := by rw [rangeSize_one]; split <;> omega
   show IsRangeIter _ _ (lo + ((0 : Nat) : Int) * 1) ((((hi - lo).toNat : Nat) : Int) - ((0 : Nat) : Int)) 1;rw [e1, e2];exact get?_push_size _ rfl
 . have e : b = (s.heap.push { cls := .type "range", data := .fields #[.int lo t, .int hi u, .int 1 v] }).objs.size := by simpa using hb
   subst e;exact I1.pK (Nat.le_refl _) (I1.hok.fresh (Nat.le_refl _))
def ER (ta : TA) : TI := fun σ H R => ta σ H fun vs H1 => ∃ j : Int, vs = [.int j] /\ -(2 ^ 62) <= j /\ j < 2 ^ 62 /\ R (Gi 0 j.toNat) H1
theorem wb {a : Expr} {ta : TA} {p pos : Pos} (hg : Gl X "range") (hm : X.mg "range" = none) (ha : PA X [a] ta) (hs : starEach [a] X.env = [(false, eval a X.env)] := by rfl) : PI X tg (.Call (.Name "range" p) [a] [] pos) (ER ta) := by
 intro pins s σ H R I h;refine Call_ (fh I hg hm boot_range (PyProof.Rows.callWith_type1 (ck (ha pos pins s σ H _ I h) fun us s1 ⟨vs, H1, I1, r1, q1⟩ => ?_) hs rfl));obtain ⟨j, e, q1, q2, q⟩ := q1;subst e
 cases r1 with
 | cons r rr =>
  cases rr;obtain ⟨t, rfl⟩ := r;exact call_range_1 (zz I1 (by omega) (by omega) q1 q2 (by simpa using q))
def GR (wi : TI) (g : TG) (tb : TS) : TS := fun D σ H => wi σ H fun J H1 => ∃ W : Nat -> Nat -> St -> Hp -> Prop, (∃ m, W 0 m σ H1) /\ ∀ i m σ H, W i m σ H ->
 (J.stop i H /\ D.nx σ H) \/ (J.go i H /\ ∃ N : St -> Hp -> Prop, (∀ σ' H', N σ' H' -> ∃ m', m' < m /\ W (i + 1) m' σ' H') /\ ∀ x H', J.yld i H x H' -> g x σ H' fun σ2 H2 => tb { D with nx := N, ct := N, bk := D.nx } σ2 H2)
def jY (fp : List Addr) (h : Heap) : List (Addr × Obj) := fp.filterMap fun b => (h.get? b).map fun o => (b, o)
theorem eI {fp : List Addr} {h : Heap} {b : Addr} {o : Obj} (hb : b ∈ fp) (e : h.get? b = some o) : (b, o) ∈ jY fp h := List.mem_filterMap.mpr ⟨b, hb, by rw [e]; rfl⟩
theorem v8 {fp : List Addr} {h : Heap} {p : Addr × Obj} (hp : p ∈ jY fp h) : p.1 ∈ fp /\ h.get? p.1 = some p.2 := by
 obtain ⟨b, hb, e⟩ := List.mem_filterMap.mp hp
 cases q : h.get? b with
 | none => rw [q] at e; cases e
 | some o =>
  rw [q] at e;have e' : (b, o) = p := Option.some.inj e;subst e';exact ⟨hb, q⟩
theorem Inv.pinned {pins : HZ} {σ : St} {H : Hp} {s : Shared} {fp : List Addr} (I : Inv X pins σ H s) (hf : ∀ b ∈ fp, gT X pins H b) (ho : ∀ b ∈ fp, ∃ o, s.heap.get? b = some o /\ ∀ v, o.data ≠ .cell v) : Inv X (pins ++ jY fp s.heap) σ H s :=
 I.ux fun p hp => (mem_append.mp hp).elim (fun z => I.pin p (mem_append_right _ z)) fun z => by
  obtain ⟨hb, e⟩ := v8 z;obtain ⟨f0, f1, f2, _⟩ := hf p.1 hb;obtain ⟨o, e', d⟩ := ho p.1 hb;rw [e] at e'; cases e';exact ⟨e, f0, f1, f2, d⟩
theorem Inv.fw {pins pl : HZ} {σ : St} {H : Hp} {s : Shared} (I : Inv X (pins ++ pl) σ H s) : Inv X pins σ H s := I.ux fun p hp => I.pin p (mem_append_right _ (List.mem_append_left _ hp))
theorem DQ {iter : Expr} {body : List Stmt} {wi : TI} {g : TG} {tb : TS} {pos : Pos} (hp : PassesOwn (model X.prog X.w) X.A X.env X.xe) (hc : X.calm = true) (hi : PI X tg iter wi) (hg : PG X tg g) (hb : lZ X body tb)
 (hs : ∀ x, foldedSetIterable iter X.env x = pure x := by intro _; rfl) : PS X (.For tg iter body [] pos) (GR wi g tb) := by
 intro pins s σ H D I h;refine wpAny_For (ck (hi pins s σ H _ I h) fun v s1 h1 => ck h1 fun itv s2 h2 => ?_) hs;obtain ⟨it, fp, tn, J, H2, e, I2, T, st2, f2, W, ⟨m0, w0⟩, turn⟩ := h2;subst e
 -- what stays true of the iterator's objects through the loop
 have stat : ∀ {H' : Hp}, (∀ b ∈ fp, H' b = none) -> ∀ b ∈ fp, gT X pins H' b := fun hn b hb => ⟨hn b hb, (f2 b hb).2⟩
 refine codeAny_forLoop_any (fun n s' => ∃ i σ' H', Inv X pins σ' H' s' /\ tn i s'.heap /\ (∀ b ∈ fp, H' b = none) /\ W i n σ' H') ?_ m0 ⟨0, σ, H2, I2, st2, fun b hb => (f2 b hb).1, w0⟩;rintro n s3 ⟨i, σ3, H3, I3, st3, fr3, w3⟩;rcases turn i n σ3 H3 w3 with ⟨stop, qn⟩ | ⟨go, N, hN, step⟩
 . refine wpAny_passesOwn hp (ck (T.done X rfl rfl rfl hc i pins s3 σ3 H3 X.xe I3 (stat fr3) st3 stop) fun r s4 ⟨hr, I4⟩ => ?_);subst hr;exact wpAny_execs_nil ⟨σ3, H3, I4, qn⟩
 . refine wpAny_passesOwn hp (ck (T.item X rfl rfl rfl hc i pins s3 σ3 H3 X.xe I3 (stat fr3) st3 go) fun r s4 ⟨u, hr, h4⟩ => ?_);subst hr;refine wpAny_passesOwn hp (ck h4 fun _ s5 ⟨x, H5, I5, r5, y5, st5, fr5⟩ => ?_);have I5' := I5.pinned (stat fr5) (T.obj _ _ st5);refine wpAny_passesOwn hp (ck (hg _ s5 σ3 H5 x u _ I5' r5 (step x H5 y5)) fun _ s6 ⟨σ6, H6, I6, q6⟩ => ?_);refine wpAny_passesOwn hp (ck (hb _ s6 σ6 H6 _ I6 q6) fun f s7 q7 => ?_);have again : ∀ {σ7 : St} {H7 : Hp}, Inv X (pins ++ jY fp s5.heap) σ7 H7 s7 -> N σ7 H7 -> ∃ m, m < n /\ ∃ i σ' H', Inv X pins σ' H' s7 /\ tn i s7.heap /\ (∀ b ∈ fp, H' b = none) /\ W i m σ' H' := fun {σ7 H7} I7 n7 => by
    obtain ⟨m', hm, w7⟩ := hN σ7 H7 n7;refine ⟨m', hm, i + 1, σ7, H7, I7.fw, T.keep _ _ _ st5 fun b hb o e => (I7.pin (b, o) (mem_append_right _ (mem_append_right _ (eI hb e)))).1, fun b hb => ?_, w7⟩;obtain ⟨o, e, d⟩ := T.obj _ _ st5 b hb;exact (I7.pin (b, o) (mem_append_right _ (mem_append_right _ (eI hb e)))).2.1
   cases f with
   | next => obtain ⟨σ7, H7, I7, n7⟩ := q7; exact again I7 n7
   | cont => obtain ⟨σ7, H7, I7, n7⟩ := q7; exact again I7 n7
   | brk => obtain ⟨σ7, H7, I7, q7⟩ := q7; exact ⟨σ7, H7, I7.fw, q7⟩
   | ret v => obtain ⟨x7, σ7, H7, I7, r7, q7⟩ := q7; exact ⟨x7, σ7, H7, I7.fw, r7, q7⟩
end
abbrev R2 := V -> V -> Hp -> VK -> Prop
def jC (X : Cx) (f : Value -> Value -> Sem Value) (r : R2) : Prop :=
 ∀ (pins : HZ) (s : Shared) (σ : St) (H : Hp) (x y : V) (v u : Value) (Q : VK), Inv X pins σ H s -> RelV x v -> RelV y u -> r x y H Q ->
  wpAny (model X.prog X.w) X.A (f v u) (EP X pins σ Q) X.xe s
def jg (X : Cx) (f : Value) (r : List V -> Hp -> VK -> Prop) : Prop :=
 ∀ (pins : HZ) (s : Shared) (σ : St) (H : Hp) (xs : List V) (us : HW) (Q : VK), Inv X pins σ H s -> Vals xs us -> r xs H Q ->
  wpAny (model X.prog X.w) X.A (call f us) (EP X pins σ Q) X.xe s
def Ge (r : R2) (ta tb : TE) : TE := fun σ H Q => ta σ H fun x H1 => tb σ H1 fun y H2 => r x y H2 Q
def rI (C : Int -> Int -> Prop) (g : Int -> Int -> V) : R2 := fun x y H Q => ∃ i j, x = .int i /\ y = .int j /\ C i j /\ Q (g i j) H
def EI (g : Int -> Int -> V) : R2 := fun x y H Q => ∃ i j, x = .int i /\ y = .int j /\ Q (g i j) H
section
variable {X : Cx} {a b c : Expr} {ta tb tc : TE} {pos : Pos}
theorem C4 (ha : PE X a ta) (hb : PE X b tb) {pins : HZ} {s : Shared} {σ : St} {H : Hp} {R : V -> V -> Hp -> Prop} (I : Inv X pins σ H s)
 (h : ta σ H fun x H1 => tb σ H1 fun y H2 => R x y H2) {Q : HR} {f : Value -> Value -> Sem Value}
 (hf : ∀ v u s2 x y H2, Inv X pins σ H2 s2 -> RelV x v -> RelV y u -> R x y H2 -> wpAny (model X.prog X.w) X.A (f v u) Q X.xe s2) :
 wpAny (model X.prog X.w) X.A (eval a X.env) (fun v s₁ => wpAny (model X.prog X.w) X.A (eval b X.env) (fun u s₂ => wpAny (model X.prog X.w) X.A (f v u) Q X.xe s₂) X.xe s₁) X.xe s := by
 refine ck (ha pins s σ H _ I h) fun v s1 ⟨x, H1, I1, r1, q1⟩ => ?_;refine ck (hb pins s1 σ H1 _ I1 q1) fun u s2 ⟨y, H2, I2, r2, q2⟩ => ?_;exact hf v u s2 x y H2 I2 r1 r2 q2
theorem CK {op : Operator} {r : R2} (ho : jC X (binaryOp op) r) (ha : PE X a ta) (hb : PE X b tb) : PE X (.BinOp a op b pos) (Ge r ta tb) := by
 intro pins s σ H Q I h;exact wpAny_BinOp (C4 ha hb I h fun v u s2 x y H2 I2 rx ry q => ho pins s2 σ H2 x y v u Q I2 rx ry q)
theorem GJ {f : Value -> Value -> Sem Value} {C : Int -> Int -> Prop} {g : Int -> Int -> Int}
 (rule : ∀ (i j : Int) (t u : Tok) (s : Shared) (Q : HR) (E : HR), C i j -> Q (.int (g i j) s.toks) { s with toks := s.toks + 1 } -> wpAny (model X.prog X.w) X.A (f (.int i t) (.int j u)) Q E s) :
 jC X f (rI C fun i j => .int (g i j)) := by
 intro pins s σ H x y v u Q I rx ry h;obtain ⟨i, j, rfl, rfl, hc, q⟩ := h;obtain ⟨t, rfl⟩ := rx;obtain ⟨t', rfl⟩ := ry;exact rule i j t t' s _ _ hc ⟨.int (g i j), H, I.tok _, ⟨_, rfl⟩, q⟩
theorem Fw {f : Value -> Value -> Sem Value} {g : Int -> Int -> Int}
 (rule : ∀ (i j : Int) (t u : Tok) (s : Shared) (Q : HR) (E : HR), Q (.int (g i j) s.toks) { s with toks := s.toks + 1 } -> wpAny (model X.prog X.w) X.A (f (.int i t) (.int j u)) Q E s) :
 jC X f (EI fun i j => .int (g i j)) := by
 intro pins s σ H x y v u Q I rx ry h;obtain ⟨i, j, rfl, rfl, q⟩ := h;obtain ⟨t, rfl⟩ := rx;obtain ⟨t', rfl⟩ := ry;exact rule i j t t' s _ _ ⟨.int (g i j), H, I.tok _, ⟨_, rfl⟩, q⟩
theorem Fe {f : Value -> Value -> Sem Value} {g : Int -> Int -> Bool}
 (rule : ∀ (i j : Int) (t u : Tok) (s : Shared) (Q : HR) (E : HR), Q (.bool (g i j)) s -> wpAny (model X.prog X.w) X.A (f (.int i t) (.int j u)) Q E s) :
 jC X f (EI fun i j => .bl (g i j)) := by
 intro pins s σ H x y v u Q I rx ry h;obtain ⟨i, j, rfl, rfl, q⟩ := h;obtain ⟨t, rfl⟩ := rx;obtain ⟨t', rfl⟩ := ry;exact rule i j t t' s _ _ ⟨.bl (g i j), H, I, rfl, q⟩
def EZ (i j : Int) : Prop := 0 < j /\ j < 1073741824
def Ar (i j : Int) : Prop := (-(2 ^ 64) < i /\ i < 2 ^ 64) \/ (-(2 ^ 64) < j /\ j < 2 ^ 64)
theorem Ar.ok {i j : Int} (h : Ar i j) : IntMulOk i j := by
 rcases h with ⟨h1, h2⟩ | ⟨h1, h2⟩
 . exact .of_left (intBits_le_64 h1 h2)
 . exact .of_right (intBits_le_64 h1 h2)
theorem C5 : jC X (binaryOp .Add) (EI fun i j => .int (i + j)) := Fw fun _ _ _ _ _ _ _ q => add_int q
theorem Et : jC X (binaryOp .Sub) (EI fun i j => .int (i - j)) := Fw fun _ _ _ _ _ _ _ q => sub_int q
theorem Eo : jC X (binaryOp .Mult) (rI Ar fun i j => .int (i * j)) := GJ fun _ _ _ _ _ _ _ hc q => mul_int q hc.ok
theorem B0 : jC X (binaryOp .FloorDiv) (rI EZ fun i j => .int (i / j)) := GJ fun i j _ _ _ _ _ hc q => by
 have h1 : (0 : Int) < j := hc.1;have h2 : j < 1073741824 := hc.2;exact floordiv_int (by omega) (by rw [Int.fdiv_eq_ediv_of_nonneg i (by omega)]; exact q) (.inl (PyProof.noPylong_small (by omega)))
theorem DI : jC X (binaryOp .Mod) (rI (fun _ j => 0 < j) fun i j => .int (i % j)) := GJ fun i j _ _ _ _ _ hc q => by
 have h1 : (0 : Int) < j := hc;exact mod_int' (by omega) (by rw [Int.fmod_eq_emod_of_nonneg i (by omega)]; exact q)
end
def EK : V -> V -> Bool
 | .non, .non => true | .non, .int _ => true | .int _, .non => true | .non, .bl _ => true | .bl _, .non => true | .non, .str _ => true | .str _, .non => true
 | .int _, .int _ => true | .bl _, .bl _ => true | .str _, .str _ => true | .byt _, .byt _ => true
 | .int _, .str _ => true | .str _, .int _ => true | .bl _, .str _ => true | .str _, .bl _ => true
 | _, _ => false
def HE : R2 := fun x y H Q => EK x y = true /\ Q (.bl (decide (x = y))) H
def HM : R2 := fun x y H Q => EK x y = true /\ Q (.bl (!decide (x = y))) H
theorem uD {i j : Int} : decide (V.int i = V.int j) = (i == j) := by
 rw [Bool.eq_iff_iff];simp
theorem za {i j : Bool} : decide (V.bl i = V.bl j) = (i == j) := by
 rw [Bool.eq_iff_iff];simp
theorem vb {i j : Str} : decide (V.str i = V.str j) = (i == j) := by
 rw [Bool.eq_iff_iff];simp
theorem ur {i j : Array UInt8} : decide (V.byt i = V.byt j) = (i.toList == j.toList) := by
 rw [Bool.eq_iff_iff];cases i;cases j;simp
section
variable {X : Cx} {a b c : Expr} {ta tb tc : TE} {pos : Pos}
theorem aN {pins : HZ} {σ : St} {H : Hp} {s : Shared} {Q : VK} {k k' : Bool} (I : Inv X pins σ H s) (q : Q (.bl k) H) (e : k = k') : EP X pins σ Q (.bool k') s := by
 subst e;exact ⟨.bl k, H, I, rfl, q⟩
theorem zJ : jC X (compareOp .Eq) HE := by
 intro pins s σ H x y v u Q I rx ry h;obtain ⟨hs, q⟩ := h
 cases x with
 | non =>
  cases rx
  cases y with
  | non => cases ry; exact PySem.EqNone.eq_none_none (aN I q (by simp))
  | bl j => cases ry; exact PySem.EqNone.eq_none_bool (aN I q (by simp))
  | int j => obtain ⟨t', rfl⟩ := ry; exact PySem.EqNone.eq_none_int (aN I q (by simp))
  | str j => obtain ⟨t', rfl⟩ := ry; exact PySem.EqNone.eq_none_str (aN I q (by simp))
  | _ => exact absurd (show false = true from hs) Bool.false_ne_true
 | bl i =>
  cases rx
  cases y with
  | non => cases ry; exact PySem.EqNone.eq_bool_none (aN I q (by simp))
  | bl j => cases ry; exact eq_bool (aN I q za)
  | str j => obtain ⟨t', rfl⟩ := ry; exact PySem.EqMixed.eq_bool_str (aN I q (by simp))
  | _ => exact absurd (show false = true from hs) Bool.false_ne_true
 | int i =>
  obtain ⟨t, rfl⟩ := rx
  cases y with
  | non => cases ry; exact PySem.EqNone.eq_int_none (aN I q (by simp))
  | int j => obtain ⟨t', rfl⟩ := ry; exact eq_int (aN I q uD)
  | str j => obtain ⟨t', rfl⟩ := ry; exact PySem.EqMixed.eq_int_str (aN I q (by simp))
  | _ => exact absurd (show false = true from hs) Bool.false_ne_true
 | str i =>
  obtain ⟨t, rfl⟩ := rx
  cases y with
  | non => cases ry; exact PySem.EqNone.eq_str_none (aN I q (by simp))
  | bl j => cases ry; exact PySem.EqMixed.eq_str_bool (aN I q (by simp))
  | int j => obtain ⟨t', rfl⟩ := ry; exact PySem.EqMixed.eq_str_int (aN I q (by simp))
  | str j => obtain ⟨t', rfl⟩ := ry; exact eq_str (aN I q vb)
  | _ => exact absurd (show false = true from hs) Bool.false_ne_true
 | byt i =>
  obtain ⟨t, rfl⟩ := rx
  cases y with
  | byt j => obtain ⟨t', rfl⟩ := ry; exact PySem.W.eq_bytes (aN I q ur)
  | _ => exact absurd (show false = true from hs) Bool.false_ne_true
 | _ => cases y <;> exact absurd (show false = true from hs) Bool.false_ne_true
theorem Co : jC X (compareOp .NotEq) HM := by
 intro pins s σ H x y v u Q I rx ry h;obtain ⟨hs, q⟩ := h
 cases x with
 | non =>
  cases rx
  cases y with
  | non => cases ry; exact PySem.EqNone.ne_none_none (aN I q (by simp))
  | bl j => cases ry; exact PySem.EqNone.ne_none_bool (aN I q (by simp))
  | int j => obtain ⟨t', rfl⟩ := ry; exact PySem.EqNone.ne_none_int (aN I q (by simp))
  | str j => obtain ⟨t', rfl⟩ := ry; exact PySem.EqNone.ne_none_str (aN I q (by simp))
  | _ => exact absurd (show false = true from hs) Bool.false_ne_true
 | bl i =>
  cases rx
  cases y with
  | non => cases ry; exact PySem.EqNone.ne_bool_none (aN I q (by simp))
  | bl j => cases ry; exact ne_bool (aN I q (congrArg not za))
  | str j => obtain ⟨t', rfl⟩ := ry; exact PySem.EqMixed.ne_bool_str (aN I q (by simp))
  | _ => exact absurd (show false = true from hs) Bool.false_ne_true
 | int i =>
  obtain ⟨t, rfl⟩ := rx
  cases y with
  | non => cases ry; exact PySem.EqNone.ne_int_none (aN I q (by simp))
  | int j => obtain ⟨t', rfl⟩ := ry; exact ne_int (aN I q (congrArg not uD))
  | str j => obtain ⟨t', rfl⟩ := ry; exact PySem.EqMixed.ne_int_str (aN I q (by simp))
  | _ => exact absurd (show false = true from hs) Bool.false_ne_true
 | str i =>
  obtain ⟨t, rfl⟩ := rx
  cases y with
  | non => cases ry; exact PySem.EqNone.ne_str_none (aN I q (by simp))
  | bl j => cases ry; exact PySem.EqMixed.ne_str_bool (aN I q (by simp))
  | int j => obtain ⟨t', rfl⟩ := ry; exact PySem.EqMixed.ne_str_int (aN I q (by simp))
  | str j => obtain ⟨t', rfl⟩ := ry; exact ne_str (aN I q (congrArg not vb))
  | _ => exact absurd (show false = true from hs) Bool.false_ne_true
 | byt i =>
  obtain ⟨t, rfl⟩ := rx
  cases y with
  | byt j => obtain ⟨t', rfl⟩ := ry; exact PySem.W.ne_bytes (aN I q (congrArg not ur))
  | _ => exact absurd (show false = true from hs) Bool.false_ne_true
 | _ => cases y <;> exact absurd (show false = true from hs) Bool.false_ne_true
theorem Ck : jC X (compareOp .Lt) (EI fun i j => .bl (decide (i < j))) := Fe fun _ _ _ _ _ _ _ q => lt_int q
theorem CD : jC X (compareOp .Gt) (EI fun i j => .bl (decide (j < i))) := Fe fun _ _ _ _ _ _ _ q => gt_int q
theorem wB : jC X (compareOp .In) (fun x y H Q => ∃ i j, x = .str i /\ y = .str j /\ Q (.bl (!(Builtin.Str.occurrences j i 0 j.length 1).isEmpty)) H) := by
 intro pins s σ H x y v u Q I rx ry h;obtain ⟨i, j, rfl, rfl, q⟩ := h;obtain ⟨t, rfl⟩ := rx;obtain ⟨t', rfl⟩ := ry;exact in_str (aN I q rfl)
theorem cy (b : Expr) {op : CmpOp} (h : op ≠ .In := by decide) (h2 : op ≠ .NotIn := by decide) : behindInMarks op b = false := by
 have e1 : (op == CmpOp.In) = false := by cases op <;> first | rfl | exact absurd rfl h
 have e2 : (op == CmpOp.NotIn) = false := by cases op <;> first | rfl | exact absurd rfl h2
 cases b <;> simp [behindInMarks, e1, e2]
theorem AY {op : CmpOp} {r : R2} (ho : jC X (compareOp op) r) (ha : PE X a ta) (hb : PE X b tb) (hm : behindInMarks op b = false) : PE X (.Compare a [op] [b] pos) (Ge r ta tb) := by
 intro pins s σ H Q I h;exact wpAny_Compare1 (C4 ha hb I h fun v u s2 x y H2 I2 rx ry q => ho pins s2 σ H2 x y v u Q I2 rx ry q) hm
def Fs (t : TE) : TT := fun σ H Q => t σ H fun x H' => ∃ k, x = .bl k /\ Q k H'
theorem AR {op : CmpOp} {r : R2} (ho : jC X (compareOp op) r) (ha : PE X a ta) (hb : PE X b tb) (hm : behindInMarks op b = false) : PT X (.Compare a [op] [b] pos) (Fs (Ge r ta tb)) := by
 intro pins s σ H Q I h;refine wpAny_isTrue_Compare1 (ck (ha pins s σ H _ I h) fun v s1 ⟨x, H1, I1, r1, q1⟩ => ck (hb pins s1 σ H1 _ I1 q1) fun u s2 ⟨y, H2, I2, r2, q2⟩ =>
  ck (ho pins s2 σ H2 x y v u _ I2 r1 r2 q2) fun c s3 ⟨z, H3, I3, r3, k, e, q3⟩ => ?_) hm
 subst e;cases r3;exact wpAny_truthy_bool ⟨H3, I3, q3⟩
theorem pj : (sizeLine : Nat) < 2 ^ 63 := by rw [sizeLine_eq]; decide
theorem t5 : jC X (binaryOp .Add) (fun x y H Q => ∃ i j, x = .str i /\ y = .str j /\ i.length + j.length <= sizeLine /\ Q (.str (i ++ j)) H) := by
 intro pins s σ H x y v u Q I rx ry h;obtain ⟨i, j, rfl, rfl, hz, q⟩ := h;obtain ⟨t, rfl⟩ := rx;obtain ⟨t', rfl⟩ := ry;exact add_str (fun t' tk => ⟨.str (i ++ j), H, I.tok _, ⟨_, rfl⟩, q⟩) hz
theorem vals1 {x : V} {us : HW} (r : Vals [x] us) : ∃ u, us = [u] /\ RelV x u := by
 cases r with
 | cons r1 r2 => cases r2; exact ⟨_, rfl, r1⟩
theorem vals2 {x y : V} {us : HW} (r : Vals [x, y] us) : ∃ u w', us = [u, w'] /\ RelV x u /\ RelV y w' := by
 cases r with
 | cons r1 r2 =>
  cases r2 with
  | cons r3 r4 => cases r4; exact ⟨_, _, rfl, r1, r3⟩
theorem wV (hc : X.calm = true) : jg X (.builtin "max") (fun xs H Q => ∃ i j, xs = [.int i, .int j] /\ Q (.int (if j > i then j else i)) H) := by
 intro pins s σ H xs us Q I r h;obtain ⟨i, j, rfl, q⟩ := h;obtain ⟨u, w', rfl, ⟨t, rfl⟩, ⟨t', rfl⟩⟩ := vals2 r;refine max_two_ints (I.ok.hd hc) fun h' tk k => ⟨_, H, I.kept k, ?_, q⟩
 by_cases hj : j > i
 . rw [if_pos hj, if_pos hj]; exact ⟨_, rfl⟩
 . rw [if_neg hj, if_neg hj]; exact ⟨_, rfl⟩
end
structure bt (k : Nat) (A : Around) : Prop where
 hd : A.handled = none
 dp : A.depth + 3 * k + 5 < recursionLimit
 un : A.units + 16 * k + 200 < cLine
theorem bt.mono {j k : Nat} {A : Around} (r : bt k A) (h : j <= k) : bt j A := ⟨r.hd, by have := r.dp; omega, by have := r.un; omega⟩
theorem bt.deeper {k : Nat} {A : Around} (r : bt (k + 1) A) (env : Env) : bt k (A.deeper env) :=
 ⟨r.hd, by have := r.dp; show A.depth + 1 + 3 * k + 5 < _; omega, by have := r.un; show A.units + 3 + 16 * k + 200 < _; omega⟩
theorem bt.in1 {k : Nat} {A : Around} (r : bt (k + 1) A) : bt k A.in1 :=
 ⟨r.hd, by have := r.dp; show A.depth + 3 * k + 5 < _; omega, by have := r.un; show A.units + 1 + 16 * k + 200 < _; omega⟩
theorem bt.depth {k : Nat} {A : Around} (r : bt k A) : A.depth < recursionLimit := by have := r.dp; omega
def Gp : TA := fun _ H Q => Q [] H
def EY (ta : TE) (tr : TA) : TA := fun σ H Q => ta σ H fun x H1 => tr σ H1 fun xs H2 => Q (x :: xs) H2
section
variable {X : Cx} {e : Expr} {es : List Expr} {te : TE} {t : TA} {pos : Pos}
theorem bh : PA X [] Gp := fun _ _ _ _ H Q I h => Calls.spliced_nil ⟨[], H, I, .nil, h⟩
theorem aM (ha : PE X e te) (hr : PA X es t) (hs : starEach (e :: es) X.env = (false, eval e X.env) :: starEach es X.env := by rfl) : PA X (e :: es) (EY te t) := by
 intro pos pins s σ H Q I h;rw [hs];show wpAny _ _ (spliced ((false, eval e X.env) :: backTo pos (starEach es X.env))) _ _ s;refine Calls.spliced_cons (ck (ha pins s σ H _ I h) fun u s1 ⟨x, H1, I1, r1, q1⟩ => ?_);exact ck (hr pos pins s1 σ H1 _ I1 q1) fun us s2 ⟨xs, H2, I2, r2, q2⟩ => ⟨x :: xs, H2, I2, .cons r1 r2, q2⟩
def GA (t : TA) : TE := fun σ H Q => t σ H fun xs H1 => xs.length <= sizeLine /\ ∀ p, H1 p = none -> Q (.ref p) (upd H1 p (.tup xs))
def GV (t : TA) : TE := fun σ H Q => t σ H fun xs H1 => xs.length <= sizeLine /\ ∀ p, H1 p = none -> Q (.ref p) (upd H1 p (.lst xs))
theorem zi {x1} (h : PA X es t) : PE X (.Tuple es x1 pos) (GA t) := by
 intro pins s σ H Q I hq;refine wpAny_Tuple_spliced (ck (h pos pins s σ H _ I hq) fun us s1 ⟨xs, H1, I1, r, z, q⟩ => ⟨by rw [<- r.length]; exact z, ?_⟩);have hf : H1 s1.heap.objs.size = none := I1.hok.fresh (Nat.le_refl _);refine ⟨.ref s1.heap.objs.size, upd H1 s1.heap.objs.size (.tup xs), I1.laid (t' := s1.toks) (fun b u e => get?_push_of_some _ e) (Nat.le_refl _) ?_, rfl, q _ hf⟩;exact ⟨z, us, r, ⟨_, get?_push_size _ rfl, rfl, _, rfl⟩⟩
theorem tM (h : PA X es t) : PE X (.List es pos) (GV t) := by
 intro pins s σ H Q I hq;refine wpAny_List_spliced (ck (h pos pins s σ H _ I hq) fun us s1 ⟨xs, H1, I1, r, z, q⟩ => ⟨by rw [<- r.length]; exact z, ?_⟩);have hf : H1 s1.heap.objs.size = none := I1.hok.fresh (Nat.le_refl _);refine ⟨.ref s1.heap.objs.size, upd H1 s1.heap.objs.size (.lst xs), I1.laid (t' := s1.toks) (fun b u e => get?_push_of_some _ e) (Nat.le_refl _) ?_, rfl, q _ hf⟩;exact ⟨z, us, 0, r, get?_push_size _ rfl⟩
end
abbrev Sp := List V -> Hp -> VK -> XK -> Prop
abbrev Bn := List Env -> Hp -> Shared -> XK -> Value -> Shared -> Prop
structure lQ (P : Program) (w : World) (K : Frag) (mg : HV) (base : Heap) (A : Around) (outer : List Env) (s : Shared) (H : Hp) : Prop where
 frames : A.frames = some outer
 mod : Mod K mg base
 bs : ∀ b o, base.get? b = some o -> s.heap.get? b = some o /\ H b = none
 bsz : base.objs.size <= s.heap.objs.size
 fJ : s.heap.FunFrames base outer
 frf : ∀ b ∈ oR outer, H b = none
 hok : gz P w H s.heap
 bare : AllBare s.gens
def CE (outer : List Env) (P : Program) (w : World) (H : Hp) (s : Shared) (Q : VK) (u : Value) (s' : Shared) : Prop :=
 ∃ v H', s'.os = s.os /\ AllBare s'.gens /\ Un (oR outer) [] H H' s.heap s'.heap /\ gz P w H' s'.heap /\ RelV v u /\ Q v H'
def CR (CX : Bn) (outer : List Env) (P : Program) (w : World) (H : Hp) (s : Shared) (Q : VK) (E : XK) (r : Result) (s' : Shared) : Prop :=
 match r with
 | .ok (.ret u) => CE outer P w H s Q u s'
 | .ok _ => False
 | .error e => CX outer H s E e s'
structure eB (P : Program) (w : World) (K : Frag) (mg : HV) (base : Heap) (CX : Bn) (k : Nat) (f : Addr) (fd : FuncData) (ps : Ie) (sp : Sp) : Prop where
 len : ∀ vs H Q E, sp vs H Q E -> vs.length = ps.length
 run : ∀ (A : Around) (outer : List Env) (s : Shared) (H : Hp) (args : Args) (us : HW) (vs : List V) (Q : VK) (E : XK), bt k A -> lQ P w K mg base A outer s H -> BindsTo s fd args (ps.zip us) -> Vals vs us -> sp vs H Q E ->
  codeAny (model P w) A (.call (.ref f) args) (CR CX outer P w H s Q E) s
theorem eB.imp {P : Program} {w : World} {K : Frag} {mg : HV} {base : Heap} {CX : Bn} {k : Nat} {f : Addr} {fd : FuncData} {ps : Ie} {sp sp' : Sp} (F : eB P w K mg base CX k f fd ps sp)
 (h : ∀ vs H Q E, sp' vs H Q E -> sp vs H Q E) : eB P w K mg base CX k f fd ps sp' :=
 ⟨fun vs H Q E q => F.len vs H Q E (h _ _ _ _ q), fun A outer s H args us vs Q E hr he hb hv hs => F.run A outer s H args us vs Q E hr he hb hv (h _ _ _ _ hs)⟩
section
variable {X : Cx} {pins : HZ} {σ : St} {H : Hp} {s s' : Shared}
theorem Inv.fb (I : Inv X pins σ H s) : lQ X.prog X.w X.K X.mg X.base X.A X.stack s H :=
 ⟨I.ok.frames, I.ok.mod, I.bs, Nat.le_trans I.ok.bsz I.sz, I.stack, I.uH, I.hok, I.bare⟩
theorem Inv.after {Q : VK} {u : Value} (I : Inv X pins σ H s) (h : CE X.stack X.prog X.w H s Q u s') : EP X pins σ Q u s' := by
 obtain ⟨v, H', os, bare, un, hok, r, q⟩ := h;obtain ⟨hh, g, d, t, os'⟩ := s';obtain rfl : os' = s.os := os;exact ⟨v, H', I.call (h' := hh) (g' := g) (d' := d) (t' := t) (ch := []) un hok bare (fun b z => absurd z (by simp)), r, q⟩
end
def FP (sp : Sp) (dvs : List V) (E : XK) (t : TA) : TE := fun σ H Q => t σ H fun vs H1 => sp (vs ++ dvs) H1 Q E
def Binds (K : Frag) (fd : FuncData) (ps : Ie) (ds : HW) : Prop :=
 ∀ (s : Shared) (us : HW), K.In s.heap -> (us ++ ds).length = ps.length -> BindsTo s fd ⟨us, []⟩ (ps.zip (us ++ ds))
theorem Binds.all {K : Frag} {fd : FuncData} {ps : Ie} (h : ∀ us : List Value, us.length = ps.length -> bindArgs fd ⟨us, []⟩ = pure (ps.zip us)) : Binds K fd ps [] := fun s us _ hl => by
 rw [append_nil] at hl ⊢;exact .of_eq (h us hl)
def Passes (CX : Bn) (X : Cx) (E : XK) : Prop := ∀ (pins : HZ) (σ : St) (H : Hp) (s : Shared) (e : Value) (s' : Shared), Inv X pins σ H s -> CX X.stack H s E e s' -> X.xe e s'
section
variable {X : Cx} {CX : Bn} {k : Nat} {f C : Addr} {fd : FuncData} {ps : Ie} {sp : Sp} {dvs : List V} {ds : HW} {E : XK} {x m : Str} {p pos apos : Pos} {e o : Expr} {es : List Expr} {ta : TE} {t : TA}
theorem Ek {pins : HZ} {σ : St} {H : Hp} {s : Shared} {Q : VK} {us : HW} {vs : List V} (F : eB X.prog X.w X.K X.mg X.base CX k f fd ps sp) (hr : bt k X.A) (hb : Binds X.K fd ps ds) (hd : Vals dvs ds) (hx : Passes CX X E)
 (I : Inv X pins σ H s) (r : Vals vs us) (h : sp (vs ++ dvs) H Q E) : wpAny (model X.prog X.w) X.A (call (.ref f) us) (EP X pins σ Q) X.xe s := by
 have r2 : Vals (vs ++ dvs) (us ++ ds) := r.append hd;have hl : (us ++ ds).length = ps.length := by rw [<- r2.length]; exact F.len _ _ _ _ h
 refine wpAny_call (codeAny_mono (F.run X.A X.stack s H ⟨us, []⟩ (us ++ ds) (vs ++ dvs) Q E hr I.fb (hb s us I.Be hl) r2 h) fun r s' hq => ?_)
 cases r with
 | error e => exact hx pins σ H s e s' I hq
 | ok fl =>
  cases fl with
  | ret u => exact I.after hq
  | next => exact False.elim hq
  | brk => exact False.elim hq
  | cont => exact False.elim hq
theorem AH (F : eB X.prog X.w X.K X.mg X.base CX k f fd ps sp) (hr : bt k X.A) (hg : Gl X x) (hm : X.mg x = some (.ref f)) (hk : keepIn X.K (.ref f) = true) (hb : Binds X.K fd ps ds) (hd : Vals dvs ds) (hx : Passes CX X E)
 (ha : PA X (e :: es) t) (hdb : (x == ("__debug__" : Str)) = false := by decide) (he : starEach (e :: es) X.env = (false, eval e X.env) :: starEach es X.env := by rfl) (hpl : (backTo pos (starEach es X.env)).any (·.1) = false := by rfl) :
 PE X (.Call (.Name x p) (e :: es) [] pos) (FP sp dvs E t) := by
 intro pins s σ H Q I h;refine wpAny_Call_Name_kw (oi I hg hm ?_ hdb);refine PySem.W.callWith_K (h₀ := X.base) I.ok.mod.kin hk (ck (ha pos pins s σ H _ I h) fun us s1 ⟨vs, H1, I1, r, q⟩ => ⟨I1.Be, ?_⟩) he hpl;exact Ek F hr hb hd hx I1 r q
structure Mk (K : Frag) (C f : Addr) : Prop where
 makes : PySem.W.makesIn K C = true
 init : PySem.W.findIn K (.ref C) "__init__" = some (some (.ref f))
 fn : PySem.W.isFn K (.ref f) = true
 kp : keepIn K (.ref C) = true
end
structure aE (N P : Ie) (sc : Scope) : Prop where
 kind : sc.kind = .function
 co : sc.isCoroutine = false
 gen : sc.isGenerator = false
 nd : N.Nodup
 pre : N.take P.length = P
 par : ∀ x ∈ P, sc.names.lookup x = some .local \/ sc.names.lookup x = some .cell
 nofree : ∀ y ∈ sc.names, y.2 ≠ .free
theorem mD {kindOf : Str -> Option NameKind} {x : Str} : ∀ {binds : List (Str × Value)} {m : HV}, (∀ v, (x, v) ∉ binds) -> bindL kindOf binds m x = m x
 | [], _, _ => rfl
 | (n, v) :: r, m, h => by
  unfold bindL;rw [mD fun w hw => h w (mem_cons_of_mem _ hw)];split
  . have : x ≠ n := by rintro rfl; exact h v mem_cons_self
    simp [this]
  . rfl
theorem nr {kindOf : Str -> Option NameKind} {x : Str} : ∀ {binds : List (Str × Value)} {m : HV}, (∀ v, (x, v) ∉ binds) -> bindC kindOf binds m x = m x
 | [], _, _ => rfl
 | (n, v) :: r, m, h => by
  unfold bindC;rw [nr fun w hw => h w (mem_cons_of_mem _ hw)];split
  . rfl
  . have : x ≠ n := by rintro rfl; exact h v mem_cons_self
    simp [this]
theorem mx {kindOf : Str -> Option NameKind} {x : Str} {v : Value} : ∀ {P : Ie} {vs : HW} {i : Nat} {m : HV}, P.Nodup -> P[i]? = some x -> vs[i]? = some v -> kindOf x = some .local ->
 bindL kindOf (P.zip vs) m x = some v
 | [], _, _, _, _, h, _, _ => by simp at h
 | _ :: _, [], _, _, _, _, h, _ => by simp at h
 | p :: P, w :: vs, 0, m, nd, h1, h2, hk => by
  simp at h1 h2; subst h1; subst h2;show bindL kindOf ((p, w) :: P.zip vs) m p = _;unfold bindL;rw [mD fun v hv => (nodup_cons.mp nd).1 (List.of_mem_zip hv).1, if_pos hk];simp
 | p :: P, w :: vs, i + 1, m, nd, h1, h2, hk => by
  show bindL kindOf ((p, w) :: P.zip vs) m x = _;unfold bindL;exact mx (i := i) (nodup_cons.mp nd).2 (by simpa using h1) (by simpa using h2) hk
theorem nu {kindOf : Str -> Option NameKind} {x : Str} {v : Value} : ∀ {P : Ie} {vs : HW} {i : Nat} {m : HV}, P.Nodup -> P[i]? = some x -> vs[i]? = some v -> kindOf x ≠ some .local ->
 bindC kindOf (P.zip vs) m x = some v
 | [], _, _, _, _, h, _, _ => by simp at h
 | _ :: _, [], _, _, _, _, h, _ => by simp at h
 | p :: P, w :: vs, 0, m, nd, h1, h2, hk => by
  simp at h1 h2; subst h1; subst h2;show bindC kindOf ((p, w) :: P.zip vs) m p = _;unfold bindC;rw [nr fun v hv => (nodup_cons.mp nd).1 (List.of_mem_zip hv).1, if_neg hk];simp
 | p :: P, w :: vs, i + 1, m, nd, h1, h2, hk => by
  show bindC kindOf ((p, w) :: P.zip vs) m x = _;unfold bindC;exact nu (i := i) (nodup_cons.mp nd).2 (by simpa using h1) (by simpa using h2) hk
def start (N : Ie) (vs : List V) : St := vs.map some ++ List.replicate (N.length - vs.length) none
def kl (CX : Bn) (P : Program) (w : World) (K : Frag) (mg : HV) (base : Heap) (N : Ie) (qual : Str) (scope : Scope) (f : Addr) (cd : Value) (A : Around) (outer : List Env) (s : Shared) (H : Hp) (E : XK) : Cx where
 prog := P
 w := w
 K := K
 mg := mg
 base := base
 A := A.deeper (envOfC qual scope s.heap.objs.size f cd)
 N := N
 s₀ := s
 H₀ := H
 env := envOfC qual scope s.heap.objs.size f cd
 outer := outer
 stack := envOfC qual scope s.heap.objs.size f cd :: outer
 ex := []
 calm := true
 fn := fun _ => true
 pn := []
 xe := fun e s' => wpAny (model P w) (A.deeper (envOfC qual scope s.heap.objs.size f cd)) (leaving (envOfC qual scope s.heap.objs.size f cd) e) (fun _ s'' => CX outer H s E e s'') (fun e' s'' => CX outer H s E e' s'') s'
theorem qW {sc : Scope} {n : Nat} {x : Str} (h : sc.names.lookup x = some .cell) : ∃ c, (cellsFrom n sc.names []).lookup x = some c := by
 have q := PySem.W.cellsFrom_some sc.names n [] (.inl h);exact Option.isSome_iff_exists.mp q
theorem xm {CX : Bn} {P : Program} {w : World} {K : Frag} {mg : HV} {base : Heap} {N ps : Ie} {qual : Str} {scope : Scope} {f : Addr} {cd : Value} {A : Around} {outer : List Env} {s s1 : Shared} {H : Hp} {E : XK} {us : HW} {vs : List V}
 (S : aE N ps scope) (hd : A.handled = none) (e0 : lQ P w K mg base A outer s H) (hl : vs.length = ps.length) (r : Vals vs us)
 (x : InCallC s s.heap.objs.size (bindL (envOfC qual scope s.heap.objs.size f cd).kindOf (ps.zip us) fun _ => none) (cellsFrom (s.heap.objs.size + 1) scope.names []) (bindC (envOfC qual scope s.heap.objs.size f cd).kindOf (ps.zip us) fun _ => none) s1) :
 Inv (kl CX P w K mg base N qual scope f cd A outer s H E) [] (start N vs) H s1 := by
 have hpl : ps.length <= N.length := by have := congrArg List.length S.pre; rw [length_take] at this; omega
 obtain ⟨h1, tk, rfl, hk⟩ := x.done;have noA : ∀ b : Addr, b ∉ (kl CX P w K mg base N qual scope f cd A outer s H E).ex := fun b z => absurd (show b ∈ ([] : List Addr) from z) (by simp);refine ⟨⟨e0.mod, S.kind, rfl, rfl, Nat.le_refl _, fun y z c h1 h2 => ?_, fun y hy => ?_, fun y c _ h => ?_, fun _ => hd, Around.frames_deeper e0.frames, .inr ⟨rfl, rfl⟩, fun b z => absurd z (noA b), e0.bs, e0.bsz, fun b _ _ => noA b, fun b z => absurd z (noA b), e0.fJ, e0.frf⟩,
  rfl, e0.bare, Un.kept hk, ⟨_, x.toInCall.ns, fun i y v h1 h2 h3 => ?_⟩, fun y c h => ⟨_, x.cell y c h⟩, e0.hok.fresh (Nat.le_refl _), fun y c h => ?_, fun p hp => absurd (show p ∈ ([] : HZ) from hp) (by simp), e0.hok.kept hk, ?_⟩
 . exact name_of_addr x.apart (PySem.mem_of_lookup h1) (PySem.mem_of_lookup h2)
 . have hy : scope.names.lookup y = some .cell \/ scope.names.lookup y = some .free := hy;rcases hy with hy | hy
   . exact qW hy
   . exact absurd rfl (S.nofree _ (PySem.mem_of_lookup hy))
 . exact Nat.le_of_lt (x.above y c (PySem.mem_of_lookup h))
 . have hi : i < vs.length := by
    unfold start at h2;by_cases hi : i < vs.length
    . exact hi
    . rw [getElem?_append_right (by simpa using hi)] at h2;rw [List.getElem?_replicate] at h2;split at h2 <;> cases h2
   have ha : vs[i]? = some v := by
    unfold start at h2;rw [getElem?_append_left (by simpa using hi), getElem?_map] at h2
    cases e : vs[i]? with
    | none => rw [e] at h2; cases h2
    | some a => rw [e] at h2; cases h2; rfl
   obtain ⟨u, hu, rv⟩ := r.get ha;have hp : ps[i]? = some y := by
    rw [<- S.pre, List.getElem?_take_of_lt (by omega)]; exact h1
   have ndP : ps.Nodup := by rw [<- S.pre]; exact S.nd.sublist (List.take_sublist _ _)
   refine ⟨u, rv, ?_⟩;rcases S.par y (mem_of_getElem? hp) with k | k
   . exact .inl ⟨k, mx ndP hp hu k⟩
   . obtain ⟨c, e⟩ := qW (n := s.heap.objs.size + 1) k;refine .inr ⟨.inl k, c, e, ?_⟩;have q := x.cell y c e;rw [nu ndP hp hu (by show scope.names.lookup y ≠ _; rw [k]; decide)] at q;exact q
 . exact e0.hok.fresh (Nat.le_of_lt (x.above y c (PySem.mem_of_lookup h)))
 . unfold start;show _ = N.length;rw [List.length_append, length_map, List.length_replicate];omega
theorem Cq {CX : Bn} {P : Program} {w : World} {K : Frag} {mg : HV} {base : Heap} {k : Nat} {f : Addr} {name qual : Str} {params : Arguments} {body : List Stmt} {scope : Scope} {dV kV doc pm cdv ct oc : Value} {an od : HY}
 {osl : HU} {N ps : Ie} {sp : Sp} (lk : K.lookup f = some ⟨oc, od, .func (PySem.W.fnOf name qual params body scope dV kV doc pm an cdv ct), osl⟩) (hcd : PySem.W.codeIn K cdv qual = true) (S : aE N ps scope)
 (len : ∀ vs H Q E, sp vs H Q E -> vs.length = ps.length)
 (hbody : ∀ (A : Around) (outer : List Env) (s : Shared) (H : Hp) (vs : List V) (Q : VK) (E : XK), bt k (A.deeper (envOfC qual scope s.heap.objs.size f cdv)) -> sp vs H Q E ->
  ∃ t, lZ (kl CX P w K mg base N qual scope f cdv A outer s H E) body t /\ t { nx := fun _ H' => Q .non H', rt := Q } (start N vs) H) :
 eB P w K mg base CX (k + 1) f (PySem.W.fnOf name qual params body scope dV kV doc pm an cdv ct) ps sp := by
 refine ⟨len, fun A outer s H args us vs Q E hr e0 hb r hsp => ?_⟩;have hl := len _ _ _ _ hsp;have KX : K.In s.heap := e0.mod.kin.keeps fun b o e => (e0.bs b o e).1;have lim : s.heap.NoLimit := e0.mod.nolimit.keeps fun b o e => (e0.bs b o e).1;have hkind : ∀ y ∈ ps.zip us, scope.names.lookup y.1 = some .local \/ (scope.names.lookup y.1 = some .cell /\ ((cellsFrom (s.heap.objs.size + 1) scope.names []).lookup y.1).isSome = true) := fun ⟨n, v⟩ hy => by
  rcases S.par n (List.of_mem_zip hy).1 with q | q
  . exact .inl q
  . exact .inr ⟨q, PySem.W.cellsFrom_some _ _ _ (.inl q)⟩
 refine codeAny_call_function hr.depth (KX _ _ lk) rfl S.co S.gen rfl (PySem.W.codeRec_of KX hcd) (hb _ _ _ _ ?_);refine wpAny_newFunctionEnv_cells S.kind hkind fun env he s1 x => ?_;subst he;refine ⟨lim.keeps x.toInCall.keep, codeAny_func ?_⟩;obtain ⟨t, ht, hq⟩ := hbody A outer s H vs Q E (hr.deeper _) hsp;have I : Inv (kl CX P w K mg base N qual scope f cdv A outer s H E) [] (start N vs) H s1 := xm S hr.hd e0 hl r x;refine wpAny_mono (ht [] s1 (start N vs) H _ I hq) (fun fl s' hs => ?_) fun e s' hs => hs;have fin : ∀ {σ' : St} {H' : Hp} {v : V} {u : Value}, Inv (kl CX P w K mg base N qual scope f cdv A outer s H E) [] σ' H' s' -> RelV v u -> Q v H' -> CE outer P w H s Q u s' :=
  fun {σ' H' v u} J rv q => ⟨v, H', J.os, J.bare, J.base, J.hok, rv, q⟩
 cases fl with
 | ret u =>
  obtain ⟨v, σ', H', J, rv, q⟩ := hs;exact fin J rv q
 | next =>
  obtain ⟨σ', H', J, q⟩ := hs;exact fin (v := V.non) (u := Value.none) J rfl q
 | brk =>
  obtain ⟨_, _, _, q⟩ := hs;exact False.elim q
 | cont =>
  obtain ⟨_, _, _, q⟩ := hs;exact False.elim q
section
variable {X : Cx} {x : Str} {p pos : Pos} {e : Expr} {es : List Expr} {t : TA} {id T : String} {r : List V -> Hp -> VK -> Prop}
def Ho (r : List V -> Hp -> VK -> Prop) (t : TA) : TE := fun σ H Q => t σ H fun vs H1 => r vs H1 Q
theorem fg (hc : jg X (.builtin id) r) (hg : Gl X x) (hm : X.mg x = none) (hv : bootBuiltins x = some (.builtin id)) (ha : PA X (e :: es) t) (hn : x ≠ "__name__" := by decide) (hdb : (x == ("__debug__" : Str)) = false := by decide)
 (he : starEach (e :: es) X.env = (false, eval e X.env) :: starEach es X.env := by rfl) (hpl : (backTo pos (starEach es X.env)).any (·.1) = false := by rfl) : PE X (.Call (.Name x p) (e :: es) [] pos) (Ho r t) := by
 intro pins s σ H Q I h;refine wpAny_Call_Name_kw (fh I hg hm hv ?_ hn hdb);exact PyProof.Rows.callWith_builtin1 (ck (ha pos pins s σ H _ I h) fun us s1 ⟨vs, H1, I1, r1, q1⟩ => hc pins s1 σ H1 vs us Q I1 r1 q1) he hpl
theorem nq (hc : jg X (.type T) r) (hg : Gl X x) (hm : X.mg x = none) (hv : bootBuiltins x = some (.type T)) (ha : PA X (e :: es) t) (hn : x ≠ "__name__" := by decide) (hdb : (x == ("__debug__" : Str)) = false := by decide)
 (he : starEach (e :: es) X.env = (false, eval e X.env) :: starEach es X.env := by rfl) (hpl : (backTo pos (starEach es X.env)).any (·.1) = false := by rfl) : PE X (.Call (.Name x p) (e :: es) [] pos) (Ho r t) := by
 intro pins s σ H Q I h;refine wpAny_Call_Name_kw (fh I hg hm hv ?_ hn hdb);exact PyProof.Rows.callWith_type1 (ck (ha pos pins s σ H _ I h) fun us s1 ⟨vs, H1, I1, r1, q1⟩ => hc pins s1 σ H1 vs us Q I1 r1 q1) he hpl
end
end L2
namespace HT
open PySem PyProof.Rows
section
variable {prog : Program} {w : World} {A : Around} {E : HR} {s : Shared}
def m9 (n d : Nat) : Option Int -> Nat
 | none => d
 | some v => if v < 0 then (v + (n : Int)).toNat else min v.toNat n
theorem rA (n d : Nat) : m9 n d none = d := rfl
theorem jF (n d k : Nat) : m9 n d (some (k : Int)) = min k n := by
 show (if (k : Int) < 0 then ((k : Int) + (n : Int)).toNat else min (k : Int).toNat n) = min k n;rw [if_neg (by omega), Int.toNat_natCast]
end
end HT
namespace L2
open PySem PySem.Spec PyProof.Rows
abbrev TO := St -> Hp -> (Option Int -> Hp -> Prop) -> Prop
def PO (X : Cx) (e : Option Expr) (t : TO) : Prop :=
 ∀ (pins : HZ) (s : Shared) (σ : St) (H : Hp) (Q : Option Int -> Hp -> Prop), Inv X pins σ H s -> t σ H Q ->
  wpAny (model X.prog X.w) X.A (evalPart e X.env) (fun u s' => ∃ o H', Inv X pins σ H' s' /\ IsPart u o /\ Q o H') X.xe s
def AA : TO := fun _ H Q => Q none H
def Fm (t : TE) : TO := fun σ H Q => t σ H fun x H1 => ∃ i, x = .int i /\ Q (some i) H1
section
variable {X : Cx} {e : Expr} {te : TE} {lo hi : Option Expr} {tl th : TO} {pos p2 : Pos}
theorem B7 : PO X none AA := by
 intro pins s σ H Q I h;rw [evalPart_none];exact wpAny_pure ⟨none, H, I, .none, h⟩
theorem BM (h : PE X e te) : PO X (some e) (Fm te) := by
 intro pins s σ H Q I hw;rw [evalPart_some];refine ck (h pins s σ H _ I hw) fun u s1 ⟨x, H1, I1, r1, q1⟩ => ?_;obtain ⟨i, rfl, q⟩ := q1;obtain ⟨t, rfl⟩ := r1;exact ⟨some i, H1, I1, .int i t, q⟩
def G5 (X : Cx) (r : V -> Option Int -> Option Int -> Hp -> VK -> Prop) : Prop :=
 ∀ (pins : HZ) (s : Shared) (σ : St) (H : Hp) (x : V) (v vl vu : Value) (lo hi : Option Int) (sl : Addr) (Q : VK), Inv X pins σ H s -> RelV x v -> s.heap.IsSliceOf sl vl vu .none -> IsPart vl lo -> IsPart vu hi -> r x lo hi H Q ->
  ∃ T id, typeLookup (.type T) "__getitem__" = pure (some (.builtin id)) /\ s.TypeIs v T /\ wpAny (model X.prog X.w) X.A (getItem v (.ref sl)) (EP X pins σ Q) X.xe s
def HD (r : V -> Option Int -> Option Int -> Hp -> VK -> Prop) (te : TE) (tl th : TO) : TE := fun σ H Q => te σ H fun x H1 => tl σ H1 fun l H2 => th σ H2 fun u H3 => r x l u H3 Q
theorem rY {r : V -> Option Int -> Option Int -> Hp -> VK -> Prop} (hr : G5 X r) (he : PE X e te) (hl : PO X lo tl) (hu : PO X hi th) : PE X (.Subscript e (.Slice lo hi none p2) pos) (HD r te tl th) := by
 intro pins s σ H Q I h;refine Subscript_ (ck (he pins s σ H _ I h) fun v s1 ⟨x, H1, I1, r1, q1⟩ => ?_);refine wpAny_Slice (ck (hl pins s1 σ H1 _ I1 q1) fun vl s2 ⟨l, H2, I2, pl, q2⟩ => ck (hu pins s2 σ H2 _ I2 q2) fun vu s3 ⟨u, H3, I3, pu, q3⟩ => ?_);rw [evalPart_none];refine wpAny_pure ?_;have I4 : Inv X pins σ H3 { s3 with heap := s3.heap.push { cls := .type "slice", data := .fields #[vl, vu, .none] } } := I3.kept (t' := s3.toks) fun b ob q => get?_push_of_some _ q;obtain ⟨T, id, hT, ht, hg⟩ := hr pins { s3 with heap := s3.heap.push { cls := .type "slice", data := .fields #[vl, vu, .none] } } σ H3 x v vl vu l u s3.heap.objs.size Q I4 r1 (Heap.IsSliceOf.new ..) pl pu q3;show wpAny (model X.prog X.w) X.A (subscriptTail e (.Slice lo hi none p2) v (.ref s3.heap.objs.size)) (EP X pins σ Q) X.xe { s3 with heap := s3.heap.push { cls := .type "slice", data := .fields #[vl, vu, .none] } };exact tail_any (ops := [.ref s3.heap.objs.size, v]) ht hT hg (by with_unfolding_all rfl)
def ub (xs : List V) (lo hi : Option Int) : List V := (xs.drop (HT.m9 xs.length 0 lo)).take (HT.m9 xs.length xs.length hi - HT.m9 xs.length 0 lo)
theorem rG (xs : List V) (lo hi : Option Int) : (ub xs lo hi).length <= xs.length := by
 unfold ub;rw [length_take, length_drop];omega
end
def Al (n : Nat) (i : Int) : Option Nat := if 0 <= i then (if i < n then some i.toNat else none) else if -(n : Int) <= i then some (i + n).toNat else none
def gS {α : Type} (xs : List α) (i : Int) : Option α := (Al xs.length i).bind fun j => xs[j]?
theorem AJ {n : Nat} {i : Int} {j : Nat} (h : Al n i = some j) : seqIndex? i n = some j /\ j < n /\ -(n : Int) <= i /\ i < n := by
 unfold Al at h;by_cases h0 : 0 <= i
 . rw [if_pos h0] at h;by_cases h1 : i < n
   . rw [if_pos h1] at h;have e : i.toNat = j := Option.some.inj h;exact ⟨by rw [seqIndex_of h0 h1, e], by omega, by omega, h1⟩
   . rw [if_neg h1] at h; cases h
 . rw [if_neg h0] at h;by_cases h1 : -(n : Int) <= i
   . rw [if_pos h1] at h;have e : (i + n).toNat = j := Option.some.inj h;exact ⟨by rw [seqIndex_neg (by omega) h1, e], by omega, h1, by omega⟩
   . rw [if_neg h1] at h; cases h
theorem eJ {α : Type} {xs : List α} {i : Int} {v : α} (h : gS xs i = some v) : ∃ j, seqIndex? i xs.length = some j /\ xs[j]? = some v /\ j < xs.length /\ -(xs.length : Int) <= i /\ i < xs.length := by
 unfold gS at h
 cases e : Al xs.length i with
 | none => rw [e] at h; cases h
 | some j =>
  rw [e] at h;obtain ⟨h1, h2, h3, h4⟩ := AJ e;exact ⟨j, h1, h, h2, h3, h4⟩
theorem aX {α : Type} {xs : List α} {j : Nat} {v : α} (h : xs[j]? = some v) : gS xs (j : Int) = some v := by
 have hj : j < xs.length := (List.getElem?_eq_some_iff.mp h).1;have e : Al xs.length (j : Int) = some j := by
  unfold Al;rw [if_pos (by omega), if_pos (by omega)]; simp
 unfold gS; rw [e]; exact h
def jV (b : Expr) : Prop := ∀ o i, subscripted b false o i = operate [o, i] (getItem o i)
def Gd (X : Cx) (r : R2) : Prop :=
 ∀ (value slice : Expr) (pins : HZ) (s : Shared) (σ : St) (H : Hp) (x y : V) (v u : Value) (Q : VK), Inv X pins σ H s -> RelV x v -> RelV y u -> r x y H Q ->
  subscripted slice false v u = operate [v, u] (getItem v u) -> wpAny (model X.prog X.w) X.A (subscriptTail value slice v u) (EP X pins σ Q) X.xe s
def Cz (X : Cx) (id : String) (r : V -> List V -> Hp -> VK -> Prop) : Prop :=
 ∀ (pins : HZ) (s : Shared) (σ : St) (H : Hp) (x : V) (xs : List V) (v : Value) (us : HW) (Q : VK), Inv X pins σ H s -> RelV x v -> Vals xs us -> r x xs H Q ->
  wpAny (model X.prog X.w) X.A (call (.builtin id) (v :: us)) (EP X pins σ Q) X.xe s
section
variable {X : Cx} {a b : Expr} {ta tb : TE} {pos : Pos}
theorem zk {r : R2} (hr : Gd X r) (ha : PE X a ta) (hb : PE X b tb) (hs : jV b) : PE X (.Subscript a b pos) (Ge r ta tb) := by
 intro pins s σ H Q I h;exact Subscript_ (C4 ha hb I h fun v u s2 x y H2 I2 rx ry q => hr a b pins s2 σ H2 x y v u Q I2 rx ry q (hs _ _))
def G6 (K : Frag) : R2 := fun x y H Q => ∃ p xs i v, x = .ref p /\ y = .int i /\ dM K H p xs /\ gS xs i = some v /\ Q v H
def GF (K : Frag) : R2 := fun x y H Q => ∃ p xs i v, x = .ref p /\ y = .int i /\ z6 K H p xs /\ gS xs i = some v /\ Q v H
def GP : R2 := fun x y H Q => ∃ z i c, x = .str z /\ y = .int i /\ z.length <= sizeLine /\ gS z.cps.toList i = some c /\ Q (.str ⟨#[c]⟩) H
theorem B3 : Gd X (G6 X.K) := by
 intro value slice pins s σ H x y v u Q I rx ry h hs;obtain ⟨p, xs, i, z, rfl, rfl, hq, he, q⟩ := h;cases rx;obtain ⟨t, rfl⟩ := ry;obtain ⟨its, r, pl, hz⟩ := I.list hq;obtain ⟨j, h1, h2, h3, h4, h5⟩ := eJ he;obtain ⟨w, ew, rw'⟩ := r.get h2;have hl := r.length;have hn := pj;have fin : EP X pins σ Q w s := ⟨z, H, I, rw', q⟩
 by_cases h0 : 0 <= i
 . have hj : i.toNat = j := by
    rw [seqIndex_of h0 h5] at h1;exact Option.some.inj h1
   exact item_listR pl.isList h0 (by omega) (by rw [hj]; simpa using ew) fin hs
 . have hj : (i + (its.toArray.size : Int)).toNat = j := by
    rw [seqIndex_neg (by omega) h4] at h1;rw [size_toArray, <- hl];exact Option.some.inj h1
   exact subscriptTail_builtinR (x := w) pl.isList.typeIs slot_list_getitem.lookup
    (wpAny_getItem_list_neg (Q := fun r s' => r = w /\ EP X pins σ Q r s') pl.isList (by omega) (by rw [size_toArray] <;> omega) (by omega) (by rw [hj]; simpa using ew) ⟨rfl, fin⟩) hs
theorem Dt : Gd X (GF X.K) := by
 intro value slice pins s σ H x y v u Q I rx ry h hs;obtain ⟨p, xs, i, z, rfl, rfl, hq, he, q⟩ := h;cases rx;obtain ⟨t, rfl⟩ := ry;obtain ⟨its, r, pl, hz⟩ := I.tuple hq;obtain ⟨j, h1, h2, h3, h4, h5⟩ := eJ he;obtain ⟨w, ew, rw'⟩ := r.get h2;have hl := r.length;have hn := pj;have fin : EP X pins σ Q w s := ⟨z, H, I, rw', q⟩
 exact subscriptTail_builtinR (x := w) pl.typeIs slot_tuple_getitem.lookup
  (getItem_tuple (j := j) (Q := fun r s' => r = w /\ EP X pins σ Q r s') pl (by omega) (by omega) (by rw [size_toArray, <- hl]; exact h1) (by simpa using ew) ⟨rfl, fin⟩) hs
theorem Dz : Gd X GP := by
 intro value slice pins s σ H x y v u Q I rx ry h hs;obtain ⟨z, i, c, rfl, rfl, hz, he, q⟩ := h;obtain ⟨t, rfl⟩ := rx;obtain ⟨t', rfl⟩ := ry;obtain ⟨j, h1, h2, h3, h4, h5⟩ := eJ he;have hl : z.cps.toList.length = z.length := by simp [Str.length]
 rw [hl] at h1 h4 h5;have hn := pj;exact tail_any (typeIs_str s z t) slot_str_getitem.lookup (getItem_str (c := c) (by
  have e1 : decide (i < -(2 ^ 63 : Int)) = false := decide_eq_false (by omega);have e2 : decide (i ≥ 2 ^ 63) = false := decide_eq_false (by omega);rw [e1, e2, Bool.or_false]) (by rw [h1]; simpa using h2) ⟨.str ⟨#[c]⟩, H, I.tok _, ⟨_, rfl⟩, q⟩) hs
theorem pH (lo hi : Option Int) (n : Nat) : (sliceBounds lo hi none n).1 = ((HT.m9 n 0 lo : Nat) : Int) /\ (sliceBounds lo hi none n).2.1 = ((HT.m9 n n hi : Nat) : Int) /\ (sliceBounds lo hi none n).2.2 = 1 := by
 refine ⟨?_, ?_, rfl⟩
 . cases lo with
   | none => simp [sliceBounds, HT.m9]
   | some i =>
    simp only [sliceBounds, HT.m9, Option.getD_none, show (1 : Int) > 0 by decide, if_true];by_cases h : i < 0
    . simp only [h, if_true] <;> omega
    . simp only [h, if_false] <;> omega
 . cases hi with
   | none => simp [sliceBounds, HT.m9]
   | some i =>
    simp only [sliceBounds, HT.m9, Option.getD_none, show (1 : Int) > 0 by decide, if_true];by_cases h : i < 0
    . simp only [h, if_true] <;> omega
    . simp only [h, if_false] <;> omega
theorem mq (its : HW) (lo hi : Option Int) : slicePick its.toArray lo hi none = ((its.drop (HT.m9 its.length 0 lo)).take (HT.m9 its.length its.length hi - HT.m9 its.length 0 lo)).toArray := by
 obtain ⟨h1, h2, h3⟩ := pH lo hi its.toArray.size;unfold slicePick;rw [h1, h2, h3];simp only [sliceRange_one, pick_run, size_toArray] <;> rfl
def GN (K : Frag) : V -> Option Int -> Option Int -> Hp -> VK -> Prop := fun x lo hi H Q => ∃ a xs, x = .ref a /\ dM K H a xs /\ ∀ p, H p = none -> Q (.ref p) (upd H p (.lst (ub xs lo hi)))
theorem BL : G5 X (GN X.K) := by
 intro pins s σ H x v vl vu lo hi sl Q I rx hs pl pu h;obtain ⟨a, xs, rfl, hx, q⟩ := h;cases rx;obtain ⟨its, r, ht, hz⟩ := I.list hx;have hlen := r.length;refine ⟨"list", _, slot_list_getitem.lookup, ht.isList.typeIs, ?_⟩;refine wpAny_getItem_list_slice ht.isList hs pl pu .none (by simp) ?_ (by rw [size_toArray] <;> omega);rw [mq, <- hlen];refine ⟨.ref s.heap.objs.size, _, I.laid (t' := s.toks) (o := .lst (ub xs lo hi)) (fun b ob q => get?_push_of_some _ q) (Nat.le_refl _) ?_, rfl, q _ (I.hok.fresh (Nat.le_refl _))⟩;exact ⟨Nat.le_trans (rG xs lo hi) hz, _, 0, (r.drop (HT.m9 xs.length 0 lo)).take (HT.m9 xs.length xs.length hi - HT.m9 xs.length 0 lo), get?_push_size _ rfl⟩
def Fh : V -> Bool
 | .non => true
 | .bl _ => true
 | .int _ => true
 | .str _ => true
 | _ => false
theorem iF : jg X (.builtin "len") (fun xs H Q => ∃ p ys, xs = [.ref p] /\ (dM X.K H p ys \/ z6 X.K H p ys) /\ Q (.int ys.length) H) := by
 intro pins s σ H xs us Q I r h;obtain ⟨p, ys, rfl, hq, q⟩ := h;obtain ⟨u, rfl, rx⟩ := vals1 r;cases rx;have hn := pj;rcases hq with hq | hq
 . obtain ⟨its, r', pl, hz⟩ := I.list hq;have hlen := r'.length;exact Calls.call_len_list pl.isList (by simp only [size_toArray] <;> omega) ⟨.int ys.length, H, I.tok _, ⟨s.toks + 1, by rw [size_toArray, hlen]⟩, q⟩
 . obtain ⟨its, r', pl, hz⟩ := I.tuple hq;have hlen := r'.length;exact len_tuple pl (by simp only [size_toArray] <;> omega) ⟨.int ys.length, H, I.tok _, ⟨s.toks + 1, by rw [size_toArray, hlen]⟩, q⟩
theorem oP : jg X (.type "list") (fun xs H Q => ∃ p ys, xs = [.ref p] /\ (dM X.K H p ys \/ z6 X.K H p ys) /\ ∀ l, H l = none -> Q (.ref l) (upd H l (.lst ys))) := by
 intro pins s σ H xs us Q I r h;obtain ⟨p, ys, rfl, hq, q⟩ := h;obtain ⟨u, rfl, rx⟩ := vals1 r;cases rx;have fin : ∀ (its : HW), Vals ys its -> ys.length <= sizeLine -> ∀ (h' : Heap) (c' : Nat), (∀ b o', s.heap.get? b = some o' -> h'.get? b = some o') ->
  h'.get? s.heap.objs.size = some { cls := .type "list", dict := none, data := .seq its.toArray c', slots := #[] } -> EP X pins σ Q (.ref s.heap.objs.size) { s with heap := h' } := fun its r' hz h' c' kp e =>
  ⟨.ref s.heap.objs.size, _, I.laid (t' := s.toks) kp (Nat.le_refl _) (show bB X.prog X.w _ h' _ (.lst ys) from ⟨hz, its, c', r', e⟩), rfl, q _ (I.hok.fresh (Nat.le_refl _))⟩
 rcases hq with hq | hq
 . obtain ⟨its, r', pl, hz⟩ := I.list hq;have hlen := r'.length;obtain ⟨o, ho, hc, n, hd⟩ := pl.isList;exact call_list_seq p (.inl rfl) ho hc hd (fun h' c' kp e => fin its r' hz h' c' kp e) (by simp only [size_toArray] <;> omega)
 . obtain ⟨its, r', pl, hz⟩ := I.tuple hq;have hlen := r'.length;obtain ⟨o, ho, hc, n, hd⟩ := pl;exact call_list_seq p (.inr rfl) ho hc hd (fun h' c' kp e => fin its r' hz h' c' kp e) (by simp only [size_toArray] <;> omega)
theorem ma : jg X (.type "tuple") (fun xs H Q => ∃ p ys, xs = [.ref p] /\ ((dM X.K H p ys /\ ∀ l, H l = none -> Q (.ref l) (upd H l (.tup ys))) \/ (z6 X.K H p ys /\ Q (.ref p) H))) := by
 intro pins s σ H xs us Q I r h;obtain ⟨p, ys, rfl, h⟩ := h;obtain ⟨u, rfl, rx⟩ := vals1 r;cases rx;rcases h with ⟨hq, q⟩ | ⟨hq, q⟩
 . obtain ⟨its, r', pl, hz⟩ := I.list hq;have hlen := r'.length;refine call_tuple_list pl.isList (fun h' kp => ?_) (by simp only [size_toArray] <;> omega);have I1 : Inv X pins σ H { s with heap := h' } := I.kept (t' := s.toks) kp;have I2 : Inv X pins σ (upd H h'.objs.size (.tup ys)) { s with heap := h'.push { cls := .type "tuple", data := .seq its.toArray } } :=
    I1.laid (t' := s.toks) (fun b o e => get?_push_of_some _ e) (Nat.le_refl _) (show bB X.prog X.w _ _ _ (.tup ys) from ⟨hz, its, r', IsTup.new _ _⟩)
   exact ⟨.ref h'.objs.size, _, I2, rfl, q _ (I1.hok.fresh (Nat.le_refl _))⟩
 . obtain ⟨its, r', pl, hz⟩ := I.tuple hq;exact call_tuple_same pl ⟨.ref p, H, I, rfl, q⟩
def Gw (K : Frag) (T : String) (x : V) (H : Hp) : Prop := match x with
 | .str _ => T = "str"
 | .int _ => T = "int"
 | .ref p => (T = "list" /\ ∃ xs, dM K H p xs) \/ (T = "tuple" /\ ∃ o, K.lookup p = some o /\ o.cls = .type "tuple" /\ o.dict = none) \/
  (T = "dict" /\ ((∃ kvs, H p = some (.dK kvs)) \/ ∃ kvs, H p = some (.dT kvs))) \/ (T = "set" /\ ∃ S n, H p = some (.set S n))
 | _ => False
theorem yq {pins : HZ} {σ : St} {H : Hp} {s : Shared} {T : String} {x : V} {v : Value} (I : Inv X pins σ H s) (r : RelV x v) (ty : Gw X.K T x H) :
 s.TypeIs v T /\ ∀ a, v = .ref a -> ∃ ob, s.heap.get? a = some ob /\ ob.dict = none := by
 cases x with
 | str z =>
  obtain ⟨t, rfl⟩ := r;cases (show T = "str" from ty);exact ⟨typeIs_str s z t, fun _ e => nomatch e⟩
 | int i =>
  obtain ⟨t, rfl⟩ := r;cases (show T = "int" from ty);exact ⟨typeIs_int s i t, fun _ e => nomatch e⟩
 | ref p =>
  cases r;rcases ty with ⟨rfl, xs, hq⟩ | ⟨rfl, o, hk, hc, hd⟩ | ⟨rfl, hk⟩ | ⟨rfl, S, n, hk⟩
  . obtain ⟨its, _, pl, _⟩ := I.list hq;refine ⟨pl.isList.typeIs, fun a e => ?_⟩;cases e;obtain ⟨o, n, e, c, hd, _⟩ := pl;exact ⟨o, e, hd⟩
  . refine ⟨⟨o, I.Be p o hk, hc⟩, fun a e => ?_⟩;cases e;exact ⟨o, I.Be _ o hk, hd⟩
  . have z : ∃ o, s.heap.get? p = some o /\ o.ExactDict := by
     rcases hk with ⟨kvs, hk⟩ | ⟨kvs, hk⟩
     . obtain ⟨_, _, _, _, o, _, _, e, ex, _⟩ := I.hok p _ hk;exact ⟨o, e, ex⟩
     . obtain ⟨_, _, _, _, o, _, _, e, ex, _⟩ := I.hok p _ hk;exact ⟨o, e, ex⟩
    obtain ⟨o, e, ex⟩ := z;refine ⟨⟨o, e, ex.1⟩, fun a e2 => ?_⟩;cases e2;exact ⟨o, e, ex.2.1⟩
  . obtain ⟨o, _, _, _, e, ex, _⟩ := I.hok p _ hk;refine ⟨⟨o, e, ex.1⟩, fun a e2 => ?_⟩;cases e2;exact ⟨o, e, ex.2.1⟩
 | _ => exact False.elim ty
def GQ (K : Frag) (T : String) (r : V -> List V -> Hp -> VK -> Prop) (to : TE) : TE := fun σ H Q => to σ H fun x H1 => Gw K T x H1 /\ r x [] H1 Q
def HI (K : Frag) (T : String) (r : V -> List V -> Hp -> VK -> Prop) (to : TE) (t : TA) : TE := fun σ H Q => to σ H fun x H1 => Gw K T x H1 /\ t σ H1 fun xs H2 => r x xs H2 Q
variable {o e : Expr} {es : List Expr} {to : TE} {t : TA} {name : Str} {apos cpos : Pos} {T id : String} {r : V -> List V -> Hp -> VK -> Prop}
theorem tL (pa : PlainAttrs T) (slot : Slot T name id) (hty : typeOf (.builtin id) = pure (.type "method_descriptor")) (hm : Cz X id r) (ho : PE X o to)
 (hbase : attributeBase o name X.env (eval o X.env) = eval o X.env := by rfl) (hline : (apos.endLine == cpos.line) = true := by rfl) : PE X (.Call (.Attribute o name apos) [] [] cpos) (GQ X.K T r to) := by
 intro pins s σ H Q I h;refine wpAny_Call_method0_late hbase hline (ck (ho pins s σ H _ I h) fun v s1 ⟨x, H1, I1, r1, ty, q1⟩ => ?_);obtain ⟨h1, h2⟩ := yq I1 r1 ty;exact ⟨T, id, pa, slot, hty, h1, h2, Calls.callWith_builtin rfl (PySem.evalArgs_none (hm pins s1 σ H1 x [] v [] Q I1 r1 .nil q1))⟩
theorem mO (pa : PlainAttrs T) (slot : Slot T name id) (hty : typeOf (.builtin id) = pure (.type "method_descriptor")) (hm : Cz X id r) (ho : PE X o to) (ha : PA X (e :: es) t)
 (hbase : attributeBase o name X.env (eval o X.env) = eval o X.env := by rfl)
 (hfew : ((backTo cpos (starEach (e :: es) X.env)).all (fun x => !x.1) && (backToKw cpos (keywordEach [] X.env)).all (fun x => x.1.isSome)
  && decide ((e :: es).length + ([] : List Keyword).length + (if ([] : List Keyword).isEmpty then 0 else 1) < 30)) = true := by rfl)
 (hline : (apos.endLine == cpos.line) = true := by rfl) (hs : starEach (e :: es) X.env = (false, eval e X.env) :: starEach es X.env := by rfl) (hplain : (backTo cpos (starEach es X.env)).any (·.1) = false := by rfl) :
 PE X (.Call (.Attribute o name apos) (e :: es) [] cpos) (HI X.K T r to t) := by
 intro pins s σ H Q I h;refine wpAny_Call_method_late hbase hfew hline rfl (ck (ho pins s σ H _ I h) fun v s1 ⟨x, H1, I1, r1, ty, q1⟩ => ?_);obtain ⟨h1, h2⟩ := yq I1 r1 ty;refine ⟨T, id, pa, slot, hty, h1, h2, ?_⟩;have hA := ha cpos pins s1 σ H1 _ I1 q1;rw [hs] at hA ⊢;refine Calls.callWith_builtin (by show (false || (backTo cpos (starEach es X.env)).any (·.1)) = false; rw [hplain] <;> rfl) (Calls.evalArgs_plain ?_);exact ck hA fun us s2 ⟨vs, H2, I2, r2, q2⟩ => hm pins s2 σ H2 x vs v us Q I2 r1 r2 q2
end
def G9 (X : Cx) (id : String) (r : V -> List V -> Hp -> VK -> Prop) : Prop :=
 ∀ (pins : HZ) (s : Shared) (σ : St) (H : Hp) (x : V) (xs : List V) (v : Value) (us : HW) (Q : VK), Inv X pins σ H s -> RelV x v -> Vals xs us -> r x xs H Q ->
  wpAny (model X.prog X.w) X.A (call (.builtin id) (v :: us)) (EP X pins σ Q) X.xe s
theorem Vals.one : ∀ {x : V} {us : HW}, Vals [x] us -> ∃ u, us = [u] /\ RelV x u
 | _, _, .cons r .nil => ⟨_, rfl, r⟩
theorem Vals.zero : ∀ {us : HW}, Vals [] us -> us = []
 | _, .nil => rfl
section
variable {X : Cx} {pins : HZ} {σ : St} {H : Hp} {s : Shared} {l b : Addr} {xs ys zs : List V}
theorem Inv.AN {its its' : HW} {n : Nat} {f : Array Value -> Array Value} {t' : Nat} (I : Inv X pins σ H s) (hH : H l = some (.lst xs))
 (e : s.heap.get? l = some { cls := .type "list", data := .seq its.toArray n }) (hf : f its.toArray = its'.toArray) (hv : Vals ys its') (hz : ys.length <= sizeLine) :
 Inv X pins σ (upd H l (.lst ys)) { s with heap := s.heap.update l (Obj.mapSeq f), toks := t' } := by
 have q := PySem.IsL.update e f;rw [hf] at q;refine I.write (x := l) (e := l) (by rw [hH]; exact trivial) (.inl rfl) (fun b' u hb hu => (Heap.get?_update_other s.heap (Obj.mapSeq f) (Ne.symm hb)).trans hu) ⟨_, q⟩ ?_;exact ⟨hz, its', _, hv, q⟩
theorem Inv.FO {its : HW} {t' : Nat} (I : Inv X pins σ H s) (hv : Vals ys its) (hz : ys.length <= sizeLine) :
 Inv X pins σ (upd H s.heap.objs.size (.lst ys)) { s with heap := s.heap.push { cls := .type "list", data := .seq its.toArray }, toks := t' } :=
 I.laid (fun _ _ q => get?_push_of_some _ q) (Nat.le_refl _) ⟨hz, its, 0, hv, get?_push_size _ rfl⟩
theorem Inv.fresh (I : Inv X pins σ H s) : H s.heap.objs.size = none := I.hok.fresh (Nat.le_refl _)
theorem Inv.zM (I : Inv X pins σ H s) (hH : H l = some (.lst xs)) : xs.length <= sizeLine /\ ∃ (its : HW) (n : Nat), Vals xs its /\ xs.length = its.length /\ s.heap.get? l = some { cls := .type "list", data := .seq its.toArray n } := by
 obtain ⟨z, its, n, r, e⟩ := I.hok l _ hH;exact ⟨z, its, n, r, r.length, e⟩
theorem xD {n : Nat} (h : n <= sizeLine) : Builtin.List.listTooLong n = false := by
 unfold Builtin.List.listTooLong;exact decide_eq_false (by omega)
end
section
variable {X : Cx}
def Cb : V -> List V -> Hp -> VK -> Prop := fun x vs H Q => ∃ l xs y, x = .ref l /\ vs = [y] /\ H l = some (.lst xs) /\ xs.length < sizeLine /\ Q .non (upd H l (.lst (xs ++ [y])))
theorem iS : G9 X "list.append" Cb := by
 intro pins s σ H x vs v us Q I rx rv h;obtain ⟨l, xs, y, rfl, rfl, hH, hz, q⟩ := h;cases rx;obtain ⟨u, rfl, ru⟩ := rv.one;obtain ⟨z, its, n, r, hl, e⟩ := I.zM hH;refine call_meets F.slot_list_append ⟨_, e, rfl⟩ F.entry_list_append (F.args_list_append_2 _ _) (PySem.list_append l its.toArray n u (by rw [size_toArray]; omega)) ⟨e, ?_⟩;refine ⟨.non, _, I.AN (its' := its ++ [u]) hH e (by simp) (r.append (.cons ru .nil)) ?_, rfl, q⟩;rw [List.length_append, List.length_singleton];omega
def A9 : V -> List V -> Hp -> VK -> Prop := fun x vs H Q => ∃ l b xs zs, x = .ref l /\ vs = [.ref b] /\ H l = some (.lst xs) /\ H b = some (.lst zs) /\ xs.length + zs.length <= sizeLine /\ Q .non (upd H l (.lst (xs ++ zs)))
theorem xh : G9 X "list.extend" A9 := by
 intro pins s σ H x vs v us Q I rx rv h;obtain ⟨l, b, xs, zs, rfl, rfl, hH, hB, hz, q⟩ := h;cases rx;obtain ⟨u, rfl, ru⟩ := rv.one;cases ru;obtain ⟨z, its, n, r, hl, e⟩ := I.zM hH;obtain ⟨z2, its2, n2, r2, hl2, e2⟩ := I.zM hB;have hsz : its.toArray.size + its2.toArray.size <= sizeLine := by rw [size_toArray, size_toArray]; omega
 have hlong : ¬ (!its.toArray.isEmpty && Builtin.List.listTooLong (its.toArray.size + its2.toArray.size)) = true := by
  rw [xD hsz, Bool.and_false];exact Bool.false_ne_true
 refine call_meets F.slot_list_extend ⟨_, e, rfl⟩ F.entry_list_extend (F.args_list_extend_2 _ _)
  (AutoSeq1.list_extend_list_list_0 l its.toArray n b its2.toArray n2 hlong (by rw [size_toArray]; omega) (by omega)) ⟨e, e2, ?_⟩
 refine ⟨.non, _, I.AN (its' := its ++ its2) hH e (by simp) (r.append r2) ?_, rfl, q⟩;rw [List.length_append];omega
end
end L2
namespace Att
open PySem PySem.W PySem.Calls PyProof.Rows
theorem ju {P : Params} {h : Heap} : ∀ (ns : List Int) (vs : HW), WellAll P h vs (ns.map WData.int) -> IntsAre vs ns := by
 intro ns
 induction ns with
 | nil =>
  intro vs w;rw [map_nil] at w;cases w;exact .nil
 | cons n ns ih =>
  intro vs w;rw [map_cons] at w
  cases w with
  | cons a b =>
   cases a;exact .cons _ _ (ih _ b)
theorem vQ {l : OpenLaw} {n : Nat} (hn : l.most = some n) {P : Params} {h : Heap} {args : List WData} {vals : HW}
 (hpre : l.row.toRowW.claim.pre args = true) (hwl : WellAll P h vals args) :
 ∃ a vs ns, vals = [Value.ref a] /\ args = [WData.list (ns.map WData.int)] /\ h.get? a = some { cls := .type "list", data := .seq vs.toArray } /\ IntsAre vs ns /\ ns.length <= n := by
 have hsh : WShape.hasAll [] args [.list .int] = true := (pre_splitW hpre).1;have hc : l.pre.holds [] { args := args } = true := (pre_splitW hpre).2;obtain ⟨d, r, rfl, h1, h2⟩ := hasAllW_cons hsh;obtain rfl := hasAllW_nil h2;obtain ⟨xs, rfl, h3⟩ := hasW_list h1;obtain ⟨ns, rfl⟩ := items_int h3;have hlen : ns.length <= n := by
  unfold OpenLaw.pre at hc;have h4 : (WTm.not (.lt (.lit (.int (n : Int))) (.len (.arg 0)))).holds [] { args := [.list (ns.map .int)] } = true := by
   have h4 := (holds_andW hc).1;rw [hn] at h4;exact h4
  have h5 := condW_of h4 (w_not (w_lt w_lit (w_len_list (w_arg rfl))));rw [length_map] at h5;refine Nat.le_of_not_lt fun q => ?_;have q' : (n : Int) < ((ns.length : Nat) : Int) := by omega
  first
   | (rw [decide_eq_true q'] at h5; exact absurd h5 (by decide))
   | (simp at h5; omega)
 cases hwl with
 | cons w1 w2 =>
  cases w2
  cases w1 with
  | list ho hall => exact ⟨_, _, ns, rfl, rfl, ho, ju ns _ hall, hlen⟩
theorem wJ (l : OpenLaw) (args : List WData) : l.row.toRowW.claim.post args (.bool true) args = true :=
 postW_of (r := l.row.toRowW) (X := (true == true))
  (show WShape.has [] (.bool true) .bool = true by first | rfl | decide | simp [WShape.has, WShape.arms, WShape.armsAll])
  (show (WTm.eq .res (.lit (.bool true))).value [] { args := args, res := some (.bool true), after := args } = some (.bool (true == true)) from w_eq_bool (w_res rfl) w_lit) rfl
theorem qG {l : OpenLaw} {n : Nat} {q : Program} {loose : Ie} {XP : HV -> Heap -> Prop} {YP : World -> Heap -> Prop} {d : DefRec}
 (hn : l.most = some n) (hdf : d.params.defaults = [])
 (call : ∀ (w : World) (s₀ s₁ : Shared) (mg mb : HV) (fa : Addr) (o : Obj) (pm cd doc : Value) (a : Addr) (vs : HW) (ns : List Int),
  Ground q loose [] XP w s₀ mg mb s₁.heap -> YP w s₁.heap ->
  s₁.heap.get? fa = some o -> o.data = .func (docDef d.name d.params d.body d.scope pm cd doc) -> s₁.heap.CodeRec cd d.name -> mg d.name = some (.ref fa) ->
  s₁.heap.get? a = some { cls := .type "list", data := .seq vs.toArray } -> IntsAre vs ns -> ns.length <= n -> s₁.gens = #[] ->
  codeAny (model l.prog w) callerA (.call (.ref fa) ⟨[.ref a], []⟩) (fun r s' => r = .ok (.ret (.bool true)) /\ OldK s₁.heap s'.heap /\ s'.os = s₁.os /\ AllBare s'.gens) s₁) :
 WalkO q loose XP YP l.row.toRowW d [] (fun f vs => PySem.call f vs) := by
 intro w s₀ s₁ mg mb G Y fa o pm cd doc dV kV ho hd hcd hD hmg hg args vals as hpre hlay hrd hwl hlo;obtain rfl : dV = .none := Dflts.none hD hdf;obtain rfl : kV = .none := Dflts.noKw hD;obtain ⟨a, vs, ns, rfl, rfl, hobj, hints, hlen⟩ := vQ hn hpre hwl;refine enter_call (codeAny_mono (call w s₀ s₁ mg mb fa o pm cd doc a vs ns G Y ho (fd_plain hd) hcd hmg hobj hints hlen hg) fun r s' hq => ?_);obtain ⟨rfl, h2, h3, h4⟩ := hq;exact ⟨.inl ⟨.bool true, .bool true, [], rfl, fun _ => rfl, .bool true, wJ l _, fun _ => ⟨List.Pairwise.nil, fun _ hm => (nomatch hm)⟩⟩, h2, h3, h4⟩
end Att
namespace L2
open PySem PySem.Spec PyProof.Rows
theorem m7 : ∀ {vs : HW} {ns : List Int}, IntsAre vs ns -> Vals (ns.map V.int) vs
 | _, _, .nil => .nil
 | _, _, .cons n t h => .cons ⟨t, rfl⟩ (m7 h)
def HC (H : Hp) : Prop := ∀ b, H b = none \/ ∃ o xs, H b = some (.frz o (.lst xs))
def cD (s : Stmt) : Arguments := match s with
 | .FunctionDef _ a _ _ _ _ _ _ _ _ => a
 | _ => { posonlyargs := [], args := [], vararg := none, kwonlyargs := [], kw_defaults := [], kwarg := none, defaults := [] }
def bb (s : Stmt) : List Stmt := match s with
 | .FunctionDef _ _ b _ _ _ _ _ _ _ => b
 | _ => []
def ah (s : Stmt) : Scope := match s with
 | .FunctionDef _ _ _ _ _ _ sc _ _ _ => sc
 | _ => { kind := .function, names := [], isGenerator := false, isCoroutine := false }
abbrev lP : Bn := fun _ _ _ _ _ _ => False
abbrev E0 : XK := fun _ _ _ => False
theorem CS {X : Cx} : Passes lP X E0 := fun _ _ _ _ _ _ _ h => h.elim
structure gr (K : Frag) (x qual : Str) (st : Stmt) (f : Addr) (fd : FuncData) : Prop where
 ex : ∃ (oc : Value) (od : HY) (kV doc pm : Value) (an : HY) (cdv ct : Value) (osl : HU),
  fd = PySem.W.fnOf x qual (cD st) (bb st) (ah st) .none kV doc pm an cdv ct /\ K.lookup f = some ⟨oc, od, .func fd, osl⟩ /\ PySem.W.codeIn K cdv qual = true
 kp : keepIn K (.ref f) = true
section
variable {P : Program} {w : World} {K : Frag} {mg : HV} {base : Heap}
theorem gr.ok {x qual : Str} {st : Stmt} {f : Addr} {fd : FuncData} {N ps : Ie} {k : Nat} {sp : Sp} (F : gr K x qual st f fd) (S : aE N ps (ah st)) (len : ∀ vs H Q E, sp vs H Q E -> vs.length = ps.length)
 (hbody : ∀ (cdv : Value) (A : Around) (outer : List Env) (s : Shared) (H : Hp) (vs : List V) (Q : VK) (E : XK), bt k (A.deeper (envOfC qual (ah st) s.heap.objs.size f cdv)) -> sp vs H Q E ->
  ∃ t, lZ (kl lP P w K mg base N qual (ah st) f cdv A outer s H E).Am (bb st) t /\ t { nx := fun _ H' => Q .non H', rt := Q } (start N vs) H) : eB P w K mg base lP (k + 1) f fd ps sp := by
 obtain ⟨oc, od, kV, doc, pm, an, cdv, ct, osl, rfl, lk, hcd⟩ := F.ex;refine Cq lk hcd S len fun A outer s H vs Q E hr hsp => ?_;obtain ⟨t, h, q⟩ := hbody cdv A outer s H vs Q E hr hsp;exact ⟨t, h.Am, q⟩
theorem gr.binds {x qual : Str} {st : Stmt} {f : Addr} {fd : FuncData} {ps : Ie} (F : gr K x qual st f fd)
 (h : ∀ (kV doc pm : Value) (an : HY) (cdv ct : Value) (us : HW), us.length = ps.length -> bindArgs (PySem.W.fnOf x qual (cD st) (bb st) (ah st) .none kV doc pm an cdv ct) ⟨us, []⟩ = pure (ps.zip us)) : Binds K fd ps [] := by
 obtain ⟨oc, od, kV, doc, pm, an, cdv, ct, osl, rfl, lk, hcd⟩ := F.ex;exact .all (h kV doc pm an cdv ct)
theorem zW {x qual : Str} {st : Stmt} {f : Addr} {oc : Value} {od an : HY} {osl : HU} {kV doc pm cdv ct : Value} (l : K.lookup f = some ⟨oc, od, .func (PySem.W.fnOf x qual (cD st) (bb st) (ah st) .none kV doc pm an cdv ct), osl⟩)
 (c : PySem.W.codeIn K cdv qual = true) (k : keepIn K (.ref f) = true) : gr K x qual st f (PySem.W.fnOf x qual (cD st) (bb st) (ah st) .none kV doc pm an cdv ct) := ⟨⟨oc, od, kV, doc, pm, an, cdv, ct, osl, rfl, l, c⟩, k⟩
end
theorem bS {n : Nat} (h : n <= 1000) : n < sizeLine := Nat.lt_of_le_of_lt h (by decide)
theorem lW {A B : Prop} (h : B) : if false = true then A else B := by
 rw [if_neg Bool.false_ne_true];exact h
theorem lO {A B : Prop} (h : A) : if true = true then A else B := by
 rw [if_pos rfl];exact h
def aq (H H' : Hp) : Prop := ∀ b o, H b = some o -> H' b = some o
theorem aq.refl (H : Hp) : aq H H := fun _ _ h => h
theorem aq.trans {H H1 H2 : Hp} (a : aq H H1) (b : aq H1 H2) : aq H H2 := fun c o h => b c o (a c o h)
theorem aq.free {H H' : Hp} (e : aq H H') {l : Addr} (h : H' l = Option.none) : H l = Option.none := by
 cases q : H l with
 | none => rfl
 | some o =>
  rw [e l o q] at h;cases h
theorem aq.seq {K : Frag} {H H' : Hp} {a : Addr} {xs : List V} (e : aq H H') (h : dM K H a xs) : dM K H' a xs := by
 rcases h with (h | ⟨o, h⟩) | h
 . exact .inl (.inl (e _ _ h))
 . exact .inl (.inr ⟨o, e _ _ h⟩)
 . exact .inr h
end L2
set_option autoImplicit false
set_option maxHeartbeats 4000000
namespace Y
open PySem
theorem aO {α : Sort _} {B C D : α → Prop} {R : Prop} (h : ∃ a, B a /\ C a /\ D a) (f : ∀ a, B a → C a → D a → R) : R := by
 obtain ⟨a, b, c, d⟩ := h;exact f a b c d
theorem fc {α β γ : Sort _} {B C D : α → β → γ → Prop} {R : Prop} (h : ∃ a b c, B a b c /\ C a b c /\ D a b c) (f : ∀ a b c, B a b c → C a b c → D a b c → R) : R := by
 obtain ⟨a, b, c, x, y, z⟩ := h;exact f a b c x y z
namespace Tb
def bp (m : Nat) (h : Int) : Nat -> Nat × Nat
 | 0 => (SetTable.bits h % (m + 1), SetTable.bits h)
 | k + 1 => SetTable.leap m (bp m h k).1 (bp m h k).2
def FQ (m : Nat) (p : SetTable.Probe) : SetTable.Probe := if p.more > 0 then { p with j := p.j + 1, more := p.more - 1 } else
 { p with j := (SetTable.leap m p.i p.perturb).1, more := SetTable.runEnd m (SetTable.leap m p.i p.perturb).1 - (SetTable.leap m p.i p.perturb).1, i := (SetTable.leap m p.i p.perturb).1, perturb := (SetTable.leap m p.i p.perturb).2 }
def top (m i q : Nat) : SetTable.Probe := { j := i, more := SetTable.runEnd m i - i, i := i, perturb := q, dummy := none }
def sq (m : Nat) (h : Int) : Nat -> SetTable.Probe
 | 0 => top m (SetTable.bits h % (m + 1)) (SetTable.bits h)
 | n + 1 => FQ m (sq m h n)
def js (m : Nat) (h : Int) (n : Nat) : Nat := (sq m h n).j
theorem Es (m i : Nat) : SetTable.runEnd m i - i <= 9 := by unfold SetTable.runEnd; split <;> omega
theorem zo {m i : Nat} (h : i <= m) : SetTable.runEnd m i <= m := by unfold SetTable.runEnd; split <;> omega
theorem Ab (m i : Nat) : i <= SetTable.runEnd m i := by unfold SetTable.runEnd; split <;> omega
theorem oq {m : Nat} {h : Int} {n i q : Nat} (e : sq m h n = top m i q) : ∀ r, r <= SetTable.runEnd m i - i -> sq m h (n + r) = { j := i + r, more := SetTable.runEnd m i - i - r, i := i, perturb := q, dummy := none }
 | 0, _ => by rw [Nat.add_zero, e]; rfl
 | r + 1, hr => by
  rw [<- Nat.add_assoc];show FQ m (sq m h (n + r)) = _;rw [oq e r (by omega)];unfold FQ;rw [if_pos (by show SetTable.runEnd m i - i - r > 0; omega)];show (_ : SetTable.Probe) = _;congr 1
theorem Bc {m : Nat} {h : Int} {n i q : Nat} (e : sq m h n = top m i q) : sq m h (n + (SetTable.runEnd m i - i) + 1) = top m (SetTable.leap m i q).1 (SetTable.leap m i q).2 := by
 show FQ m (sq m h (n + (SetTable.runEnd m i - i))) = _;rw [oq e _ (Nat.le_refl _)];unfold FQ;rw [if_neg (by show ¬ SetTable.runEnd m i - i - (SetTable.runEnd m i - i) > 0; omega)];rfl
def bs (m : Nat) (h : Int) : Nat -> Nat
 | 0 => 0
 | k + 1 => bs m h k + (SetTable.runEnd m (bp m h k).1 - (bp m h k).1) + 1
theorem yv (m : Nat) (h : Int) : ∀ k, sq m h (bs m h k) = top m (bp m h k).1 (bp m h k).2
 | 0 => rfl
 | k + 1 => Bc (yv m h k)
theorem CG (m : Nat) (h : Int) : ∀ k, bs m h k <= 10 * k
 | 0 => by simp [bs]
 | k + 1 => by
  have := CG m h k;have := Es m (bp m h k).1;unfold bs; omega
theorem qD (m : Nat) (h : Int) (k r : Nat) (hr : r <= SetTable.runEnd m (bp m h k).1 - (bp m h k).1) : js m h (bs m h k + r) = (bp m h k).1 + r := by
 unfold js;rw [oq (yv m h k) r hr]
theorem Ed (m : Nat) (h : Int) (k : Nat) : js m h (bs m h k) = (bp m h k).1 := qD m h k 0 (Nat.zero_le _)
theorem sS (m : Nat) (h : Int) (k : Nat) : (bp m h k).1 <= m := by
 cases k with
 | zero => exact Nat.le_of_lt_succ (Nat.mod_lt (SetTable.bits h) (Nat.succ_pos m))
 | succ k => exact Nat.le_of_lt_succ (Nat.mod_lt ((bp m h k).1 * 5 + 1 + (bp m h k).2 / 32) (Nat.succ_pos m))
theorem t6 (m : Nat) (h : Int) : ∀ n, ∃ k r, n = bs m h k + r /\ r <= SetTable.runEnd m (bp m h k).1 - (bp m h k).1
 | 0 => ⟨0, 0, rfl, Nat.zero_le _⟩
 | n + 1 => by
  obtain ⟨k, r, e, hr⟩ := t6 m h n;by_cases q : r = SetTable.runEnd m (bp m h k).1 - (bp m h k).1
  . exact ⟨k + 1, 0, by unfold bs; omega, Nat.zero_le _⟩
  . exact ⟨k, r + 1, by omega, by omega⟩
theorem Fy (m : Nat) (h : Int) (n : Nat) : js m h n <= m := by
 obtain ⟨k, r, rfl, hr⟩ := t6 m h n;rw [qD m h k r hr];have := zo (sS m h k);have := Ab m (bp m h k).1;omega
theorem AQ (h : Int) : SetTable.bits h < 2 ^ 64 := by
 unfold SetTable.bits;have := Int.emod_lt_of_pos h (show (0 : Int) < 2 ^ 64 by decide);have := Int.emod_nonneg h (show (2 ^ 64 : Int) ≠ 0 by decide);omega
theorem uK (m : Nat) (h : Int) : ∀ k, (bp m h k).2 = SetTable.bits h / 32 ^ k
 | 0 => by simp [bp]
 | k + 1 => by
  show (bp m h k).2 / 32 = _;rw [uK m h k, Nat.div_div_eq_div_mul, Nat.pow_succ]
def vk (m : Nat) : Nat -> Nat -> Nat
 | 0, i => i
 | r + 1, i => (vk m r i * 5 + 1) % (m + 1)
theorem jK (m i : Nat) (b : Nat) : ∀ a, vk m (a + b) i = vk m a (vk m b i)
 | 0 => by rw [Nat.zero_add]; rfl
 | a + 1 => by
  rw [show a + 1 + b = a + b + 1 by omega];show (vk m (a + b) i * 5 + 1) % (m + 1) = (vk m a (vk m b i) * 5 + 1) % (m + 1);rw [jK m i b a]
theorem uP (m : Nat) (h : Int) : ∀ r, (bp m h (13 + r)).1 = vk m r (bp m h 13).1
 | 0 => rfl
 | r + 1 => by
  show ((bp m h (13 + r)).1 * 5 + 1 + (bp m h (13 + r)).2 / 32) % (m + 1) = (vk m r (bp m h 13).1 * 5 + 1) % (m + 1);rw [uP m h r, uK];have : SetTable.bits h / 32 ^ (13 + r) = 0 := Nat.div_eq_of_lt (Nat.lt_of_lt_of_le (AQ h) (Nat.le_trans (by decide : 2 ^ 64 <= 32 ^ 13) (Nat.pow_le_pow_right (by decide) (Nat.le_add_right 13 r))));rw [this]
def Mk (m : Nat) : Prop := m = 7 \/ m = 31 \/ m = 127
def G8 (m : Nat) : Bool := (List.range (m + 1)).all (fun j => (List.range (m + 1)).any fun r => vk m r 0 == j) && vk m (m + 1) 0 == 0
theorem Ew {m : Nat} (h : Mk m) : G8 m = true := by
 rcases h with rfl | rfl | rfl <;> decide +kernel
theorem BO {m : Nat} (hm : Mk m) {i j : Nat} (hi : i <= m) (hj : j <= m) : ∃ r, r <= m /\ vk m r i = j := by
 have o := Ew hm;unfold G8 at o;rw [Bool.and_eq_true, List.all_eq_true] at o;obtain ⟨o1, o2⟩ := o;have get : ∀ j, j <= m -> ∃ r, r <= m /\ vk m r 0 = j := fun j hj => by
  have := o1 j (List.mem_range.mpr (by omega));rw [any_eq_true] at this;obtain ⟨r, hr, e⟩ := this;exact ⟨r, by have := List.mem_range.mp hr; omega, by simpa using e⟩
 obtain ⟨a, ha, ea⟩ := get i hi;obtain ⟨b, hb, eb⟩ := get j hj;by_cases q : a <= b
 . refine ⟨b - a, by omega, ?_⟩;rw [<- ea, <- jK, show b - a + a = b by omega, eb]
 . refine ⟨b + (m + 1 - a), by omega, ?_⟩;rw [<- ea, <- jK, show b + (m + 1 - a) + a = b + (m + 1) by omega, jK, show vk m (m + 1) 0 = 0 by simpa using o2, eb]
theorem sy {m : Nat} (hm : Mk m) (h : Int) {j : Nat} (hj : j <= m) : ∃ k, k <= m + 13 /\ (bp m h k).1 = j := by
 obtain ⟨r, hr, e⟩ := BO hm (sS m h 13) hj;exact ⟨13 + r, by omega, by rw [uP, e]⟩
theorem Dy {m : Nat} (hm : Mk m) (h : Int) {j : Nat} (hj : j <= m) : ∃ n, n <= 10 * (m + 13) /\ js m h n = j := by
 obtain ⟨k, hk, e⟩ := sy hm h hj;exact ⟨bs m h k, Nat.le_trans (CG m h k) (by omega), by rw [Ed, e]⟩
end Tb
end Y
namespace Y
open PySem
namespace Tb
def Up (xs : Ih) : Prop := xs.Pairwise (· < ·)
theorem ua {xs : Array Nat} (u : Up xs.toList) {a b : Nat} (h : a < b) (hb : b < xs.size) : xs.getD a 0 < xs.getD b 0 := by
 have hl : xs.toList.length = xs.size := Array.length_toList;have := (List.pairwise_iff_getElem.mp u) a b (by omega) (by omega) h;simpa [Array.getD, hb, (by omega : a < xs.size)] using this
theorem lx {xs : Array Nat} {j : Nat} (u : Up xs.toList) : ∀ (f lo hi : Nat), hi - lo <= f -> lo <= hi -> hi <= xs.size -> (∀ a, a < lo -> xs.getD a 0 < j) -> (∀ a, hi <= a -> a < xs.size -> j <= xs.getD a 0) ->
 (∀ a, a < SetTable.below.go xs j f lo hi -> xs.getD a 0 < j) /\ (∀ a, SetTable.below.go xs j f lo hi <= a -> a < xs.size -> j <= xs.getD a 0) /\ SetTable.below.go xs j f lo hi <= xs.size
 | 0, lo, hi, h1, h2, h3, h4, h5 => by
  have : lo = hi := by omega
  subst this;unfold SetTable.below.go;exact ⟨h4, h5, h3⟩
 | f + 1, lo, hi, h1, h2, h3, h4, h5 => by
  unfold SetTable.below.go;by_cases q : lo < hi
  . rw [if_pos q];have hm : (lo + hi) / 2 < hi := by omega
    have hm2 : lo <= (lo + hi) / 2 := by omega
    have e : xs.getD ((lo + hi) / 2) j = xs.getD ((lo + hi) / 2) 0 := by simp [Array.getD, (by omega : (lo + hi) / 2 < xs.size)]
    dsimp only;rw [e];by_cases z : xs.getD ((lo + hi) / 2) 0 < j
    . rw [if_pos z];refine lx u f _ hi (by omega) (by omega) h3 (fun a ha => ?_) h5;by_cases w : a = (lo + hi) / 2
      . rw [w]; exact z
      . exact Nat.lt_trans (ua u (by omega : a < (lo + hi) / 2) (by omega)) z
    . rw [if_neg z];refine lx u f lo _ (by omega) (by omega) (by omega) h4 fun a ha hs => ?_;by_cases w : a = (lo + hi) / 2
      . rw [w]; omega
      . have := ua u (by omega : (lo + hi) / 2 < a) hs; omega
  . rw [if_neg q];have : lo = hi := by omega
    subst this;exact ⟨h4, h5, h3⟩
theorem rV {xs : Array Nat} (u : Up xs.toList) (j : Nat) : (∀ a, a < SetTable.below xs j -> xs.getD a 0 < j) /\ (∀ a, SetTable.below xs j <= a -> a < xs.size -> j <= xs.getD a 0) /\ SetTable.below xs j <= xs.size :=
 lx u xs.size 0 xs.size (by omega) (Nat.zero_le _) (Nat.le_refl _) (fun a h => absurd h (by omega)) fun a h1 h2 => absurd h1 (by omega)
theorem below_at {xs : Array Nat} (u : Up xs.toList) {i j : Nat} (e : xs[i]? = some j) : SetTable.below xs j = i := by
 obtain ⟨b1, b2, b3⟩ := rV u j;have hi : i < xs.size := (Array.getElem?_eq_some_iff.mp e).1;have ei : xs.getD i 0 = j := by rw [Array.getD_eq_getD_getElem?, e]; rfl
 rcases Nat.lt_trichotomy (SetTable.below xs j) i with h | h | h
 . have a := b2 _ (Nat.le_refl _) (by omega);have b := ua u h hi;omega
 . exact h
 . have := b1 i h; omega
theorem gV {t : SetTable} (u : Up t.place.toList) {i j : Nat} (e : t.place[i]? = some j) : t.slot j = .live i := by
 unfold SetTable.slot;dsimp only;rw [below_at u e, e];simp
theorem Bh {t : SetTable} (d : t.dummies = #[]) {j : Nat} (h : j ∉ t.place.toList) : t.slot j = .empty := by
 unfold SetTable.slot;dsimp only;have n : (t.place[SetTable.below t.place j]? == some j) = false := by
  cases q : t.place[SetTable.below t.place j]? == some j with
  | false => rfl
  | true =>
   have e : t.place[SetTable.below t.place j]? = some j := by simpa using q
   exact absurd (mem_of_getElem? (by rw [Array.getElem?_toList]; exact e)) h
 rw [n, d];rfl
structure Tab (t : SetTable) (es : Ib) : Prop where
 mks : Mk t.mask
 dum : t.dummies = #[]
 len : t.place.size = es.size
 up : Up t.place.toList
 le : ∀ j ∈ t.place.toList, j <= t.mask
 reach : ∀ (i j : Nat) (e : Int × Value), t.place[i]? = some j -> es[i]? = some e -> ∃ n, js t.mask e.1 n = j /\ ∀ r, r < n -> js t.mask e.1 r ∈ t.place.toList
structure vj (t : SetTable) (h : Int) (N : Nat) : Prop where
 no : js t.mask h N ∉ t.place.toList
 all : ∀ r, r < N -> js t.mask h r ∈ t.place.toList
theorem Ad (P : Nat -> Prop) [DecidablePred P] : ∀ n, P n -> ∃ N, N <= n /\ P N /\ ∀ r, r < N -> ¬ P r
 | 0, h => ⟨0, Nat.le_refl _, h, fun r hr => absurd hr (by omega)⟩
 | n + 1, h => by
  by_cases q : ∃ m, m <= n /\ P m
  . obtain ⟨m, hm, pm⟩ := q;clear h;have : ∀ k, k <= n -> P k -> ∃ N, N <= k /\ P N /\ ∀ r, r < N -> ¬ P r := fun k hk pk => by
     induction k using Nat.strongRecOn with
     | _ k ih =>
      by_cases z : ∃ r, r < k /\ P r
      . obtain ⟨r, hr, pr⟩ := z;obtain ⟨N, a, b, c⟩ := ih r hr (by omega) pr;exact ⟨N, by omega, b, c⟩
      . exact ⟨k, Nat.le_refl _, pk, fun r hr p => z ⟨r, hr, p⟩⟩
    obtain ⟨N, a, b, c⟩ := this m hm pm;exact ⟨N, by omega, b, c⟩
  . exact ⟨n + 1, Nat.le_refl _, h, fun r hr p => q ⟨r, by omega, p⟩⟩
theorem gap {xs : Ih} {m : Nat} (hl : xs.length <= m) : ∃ j, j <= m /\ j ∉ xs := by
 cases q : (List.range (m + 1)).find? fun j => decide (j ∉ xs) with
 | some j =>
  have a := List.mem_of_find?_eq_some q;have b := List.find?_some q;exact ⟨j, by have := List.mem_range.mp a; omega, by simpa using b⟩
 | none =>
  rw [List.find?_eq_none] at q;have sub : ∀ j ∈ List.range (m + 1), j ∈ xs := fun j hj => by simpa using q j hj
  have := (List.nodup_range (n := m + 1)).length_le_of_subset sub;simp at this;omega
theorem zP {t : SetTable} {es : Ib} (T : Tab t es) (hs : es.size <= t.mask) (h : Int) : ∃ N, N <= 10 * (t.mask + 13) /\ vj t h N := by
 obtain ⟨j, hj, nj⟩ := gap (xs := t.place.toList) (m := t.mask) (by rw [Array.length_toList, T.len]; exact hs);obtain ⟨n, hn, e⟩ := Dy T.mks h hj;obtain ⟨N, a, b, c⟩ := Ad (fun n => js t.mask h n ∉ t.place.toList) n (by rw [e]; exact nj);exact ⟨N, by omega, b, fun r hr => Classical.byContradiction fun z => c r hr z⟩
theorem BI {t : SetTable} {es : Ib} (T : Tab t es) {h : Int} {x : Value} {N : Nat} (F : vj t h N) :
 Tab (t.put (js t.mask h N)).1 (SetTable.insertAt es (t.put (js t.mask h N)).2 (h, x)) := by
 generalize hj : js t.mask h N = j at F;have nj : j ∉ t.place.toList := by rw [<- hj]; exact F.no
 have hle : j <= t.mask := by rw [<- hj]; exact Fy _ _ _
 obtain ⟨b1, b2, b3⟩ := rV T.up j;have pl : (t.put j).1.place.toList = t.place.toList.take (SetTable.below t.place j) ++ j :: t.place.toList.drop (SetTable.below t.place j) := SetTable.toList_insertAt ..;have el : (SetTable.insertAt es (t.put j).2 (h, x)).toList = es.toList.take (SetTable.below t.place j) ++ (h, x) :: es.toList.drop (SetTable.below t.place j) := SetTable.toList_insertAt ..;generalize SetTable.below t.place j = p at b1 b2 b3 pl el;have hpl : t.place.toList.length = t.place.size := Array.length_toList;have hel : es.toList.length = es.size := Array.length_toList;have len := T.len;have mem : ∀ k, k ∈ (t.put j).1.place.toList ↔ k ∈ t.place.toList \/ k = j := fun k => by
  rw [pl, mem_append, mem_cons]
  conv => rhs; rw [<- take_append_drop p t.place.toList, mem_append]
  constructor
  . rintro (a | a | a)
    . exact .inl (.inl a)
    . exact .inr a
    . exact .inl (.inr a)
  . rintro ((a | a) | a)
    . exact .inl a
    . exact .inr (.inr a)
    . exact .inr (.inl a)
 refine ⟨T.mks, ?_, ?_, ?_, ?_, ?_⟩
 . show (if SetTable.has t.dummies j = true then _ else _) = _;rw [T.dum];rfl
 . have a := congrArg List.length pl;have b := congrArg List.length el;simp at a b;omega
 . unfold Up;rw [pl, List.pairwise_append, List.pairwise_cons];have u := T.up;unfold Up at u;have getL : ∀ (i : Nat) (hi : i < t.place.toList.length), t.place.toList[i] = t.place.getD i 0 := fun i hi => by
    have hi2 : i < t.place.size := by omega
    simp [Array.getD, hi2]
   have lo : ∀ a ∈ t.place.toList.take p, a < j := fun a ha => by
    obtain ⟨i, hi, rfl⟩ := List.mem_iff_getElem.mp ha;rw [length_take] at hi;rw [List.getElem_take, getL _ (by omega)];exact b1 i (by omega)
   have hi : ∀ a ∈ t.place.toList.drop p, j < a := fun a ha => by
    have na : a ≠ j := fun z => nj (z ▸ List.mem_of_mem_drop ha);obtain ⟨i, hi, rfl⟩ := List.mem_iff_getElem.mp ha;rw [length_drop] at hi;rw [List.getElem_drop, getL _ (by omega)] at na ⊢;have := b2 (p + i) (by omega) (by omega);omega
   refine ⟨u.sublist (List.take_sublist ..), ⟨hi, u.sublist (List.drop_sublist ..)⟩, fun a ha b hb => ?_⟩;rcases mem_cons.mp hb with rfl | hb
   . exact lo a ha
   . exact Nat.lt_trans (lo a ha) (hi b hb)
 . intro k hk;rcases (mem k).mp hk with a | a
   . exact T.le k a
   . rw [a]; exact hle
 . intro i k e hi he;rw [<- Array.getElem?_toList, pl] at hi;rw [<- Array.getElem?_toList, el] at he;have old : ∀ i, t.place[i]? = some k -> es[i]? = some e -> ∃ n, js t.mask e.1 n = k /\ ∀ r, r < n -> js t.mask e.1 r ∈ (t.put j).1.place.toList := fun i a b => by
    obtain ⟨n, e1, e2⟩ := T.reach i k e a b;exact ⟨n, e1, fun r hr => (mem _).mpr (.inl (e2 r hr))⟩
   have l1 : (t.place.toList.take p).length = p := by rw [length_take]; omega
   have l2 : (es.toList.take p).length = p := by rw [length_take]; omega
   rcases Nat.lt_trichotomy i p with q | q | q
   . rw [getElem?_append_left (by omega), List.getElem?_take_of_lt q, Array.getElem?_toList] at hi he;exact old i hi he
   . subst q;rw [getElem?_append_right (by omega), l1] at hi;rw [getElem?_append_right (by omega), l2] at he;simp at hi he;subst hi he;exact ⟨N, hj, fun r hr => (mem _).mpr (.inl (F.all r hr))⟩
   . obtain ⟨d, rfl⟩ : ∃ d, i = p + (d + 1) := ⟨i - p - 1, by omega⟩
     rw [getElem?_append_right (by omega), l1, show p + (d + 1) - p = d + 1 by omega, List.getElem?_cons_succ, List.getElem?_drop, Array.getElem?_toList] at hi;rw [getElem?_append_right (by omega), l2, show p + (d + 1) - p = d + 1 by omega, List.getElem?_cons_succ, List.getElem?_drop, Array.getElem?_toList] at he;exact old (p + d) hi he
end Tb
end Y
namespace Y
open PySem
namespace Tb
structure Own (m : Nat) (hs : List Int) (ow : Array (Option Nat)) : Prop where
 size : ow.size = m + 1
 lt : ∀ j k : Nat, ow[j]? = some (some k) -> k < hs.length
 one : ∀ k : Nat, k < hs.length -> ∃ j : Nat, ow[j]? = some (some k)
 inj : ∀ i j k : Nat, ow[i]? = some (some k) -> ow[j]? = some (some k) -> i = j
 reach : ∀ j k : Nat, ow[j]? = some (some k) -> ∃ n, js m (hs.getD k 0) n = j /\ ∀ r, r < n -> ∃ k' : Nat, ow[js m (hs.getD k 0) r]? = some (some k')
theorem B6 (m : Nat) : Own m [] (Array.replicate (m + 1) none) := by
 have no : ∀ j k : Nat, ¬ (Array.replicate (m + 1) (none : Option Nat))[j]? = some (some k) := fun j k h => by
  rw [Array.getElem?_replicate] at h;split at h <;> cases h
 exact ⟨by simp, fun j k h => absurd h (no j k), fun k h => absurd h (by simp), fun i j k h => absurd h (no i k), fun j k h => absurd h (no j k)⟩
theorem B1 {m : Nat} {hs : List Int} {ow : Array (Option Nat)} (O : Own m hs ow) (hl : hs.length <= m) : ∃ j : Nat, j <= m /\ ow[j]? = some none := by
 refine Classical.byContradiction fun z => ?_;have all : ∀ j : Nat, j <= m -> ∃ k : Nat, ow[j]? = some (some k) := fun j hj => by
  have hz := O.size;have e : ow[j]? = some (ow[j]'(by omega)) := Array.getElem?_eq_getElem (by omega)
  cases q : ow[j]'(by omega) with
  | none => exact absurd ⟨j, hj, by rw [e, q]⟩ z
  | some k => exact ⟨k, by rw [e, q]⟩
 have nd : ((List.range (m + 1)).map fun j => ((ow[j]?).getD none).getD 0).Nodup := by
  rw [List.nodup_iff_pairwise_ne, List.pairwise_map];refine List.Pairwise.imp_of_mem ?_ (List.nodup_iff_pairwise_ne.mp List.nodup_range);intro a b ha hb ne h;obtain ⟨ka, ea⟩ := all a (by have := List.mem_range.mp ha; omega);obtain ⟨kb, eb⟩ := all b (by have := List.mem_range.mp hb; omega);rw [ea, eb] at h;have h : ka = kb := h;subst h;exact ne (O.inj a b ka ea eb)
 have sub : ∀ k ∈ (List.range (m + 1)).map fun j => ((ow[j]?).getD none).getD 0, k ∈ List.range hs.length := fun k hk => by
  obtain ⟨j, hj, rfl⟩ := mem_map.mp hk;obtain ⟨k, e⟩ := all j (by have := List.mem_range.mp hj; omega);rw [e];exact List.mem_range.mpr (O.lt j k e)
 have := nd.length_le_of_subset sub;simp at this;omega
theorem uE {m : Nat} {h : Int} {ow : Array (Option Nat)} (hz : ow.size = m + 1) : ∀ (f k : Nat), (∀ r, r < bs m h k -> ∃ k' : Nat, ow[js m h r]? = some (some k')) -> (∃ c, k <= c /\ c < k + f /\ ow[(bp m h c).1]? = some none) ->
 ∃ N, SetTable.layClean.free m ow f (bp m h k).1 (bp m h k).2 = some (js m h N) /\ ow[js m h N]? = some none /\ ∀ r, r < N -> ∃ k' : Nat, ow[js m h r]? = some (some k')
 | 0, k, _, ⟨c, h1, h2, _⟩ => absurd h2 (by omega)
 | f + 1, k, hb, ⟨c, h1, h2, h3⟩ => by
  have hi := sS m h k;have re := zo hi;have rg := Ab m (bp m h k).1;have inb : ∀ r, r <= SetTable.runEnd m (bp m h k).1 - (bp m h k).1 -> (bp m h k).1 + r < ow.size := fun r hr => by omega
  unfold SetTable.layClean.free
  cases q : (List.range (SetTable.runEnd m (bp m h k).1 + 1 - (bp m h k).1)).find? fun r => (ow.getD ((bp m h k).1 + r) (some 0)).isNone with
  | some r =>
   rw [List.find?_range_eq_some] at q;obtain ⟨q1, q2, q3⟩ := q;have hr : r <= SetTable.runEnd m (bp m h k).1 - (bp m h k).1 := by have := List.mem_range.mp q2; omega
   have e := qD m h k r hr;refine ⟨bs m h k + r, by rw [e], ?_, fun r' hr' => ?_⟩
   . rw [e, Array.getElem?_eq_getElem (inb r hr)];have : ow.getD ((bp m h k).1 + r) (some 0) = ow[(bp m h k).1 + r]'(inb r hr) := by simp [Array.getD, inb r hr]
     rw [this] at q1;rw [Option.isNone_iff_eq_none.mp q1]
   . by_cases z : r' < bs m h k
     . exact hb r' z
     . obtain ⟨d, rfl⟩ : ∃ d, r' = bs m h k + d := ⟨r' - bs m h k, by omega⟩
       have hd : d <= SetTable.runEnd m (bp m h k).1 - (bp m h k).1 := by omega
       rw [qD m h k d hd, Array.getElem?_eq_getElem (inb d hd)];have := q3 d (by omega);have e2 : ow.getD ((bp m h k).1 + d) (some 0) = ow[(bp m h k).1 + d]'(inb d hd) := by simp [Array.getD, inb d hd]
       rw [e2] at this
       cases w : ow[(bp m h k).1 + d]'(inb d hd) with
       | none => rw [w] at this; simp at this
       | some k' => exact ⟨k', rfl⟩
  | none =>
   rw [List.find?_eq_none] at q;have live : ∀ d, d <= SetTable.runEnd m (bp m h k).1 - (bp m h k).1 -> ∃ k' : Nat, ow[(bp m h k).1 + d]? = some (some k') := fun d hd => by
    have := q d (List.mem_range.mpr (by omega));have e2 : ow.getD ((bp m h k).1 + d) (some 0) = ow[(bp m h k).1 + d]'(inb d hd) := by simp [Array.getD, inb d hd]
    rw [e2] at this;rw [Array.getElem?_eq_getElem (inb d hd)]
    cases w : ow[(bp m h k).1 + d]'(inb d hd) with
    | none => rw [w] at this; simp at this
    | some k' => exact ⟨k', rfl⟩
   have nk : c ≠ k := fun z => by
    subst z;obtain ⟨k', e⟩ := live 0 (Nat.zero_le _);rw [Nat.add_zero, h3] at e;cases e
   refine uE hz f (k + 1) (fun r hr => ?_) ⟨c, by omega, by omega, h3⟩;by_cases z : r < bs m h k
   . exact hb r z
   . unfold bs at hr;obtain ⟨d, rfl⟩ : ∃ d, r = bs m h k + d := ⟨r - bs m h k, by omega⟩
     rw [qD m h k d (by omega)];exact live d (by omega)
theorem AV {m : Nat} (hm : Mk m) {hs : List Int} {ow : Array (Option Nat)} (O : Own m hs ow) (hl : hs.length <= m) (h : Int) : ∃ N, SetTable.layClean.free m ow (SetTable.turns m) (SetTable.bits h % (m + 1)) (SetTable.bits h) = some (js m h N) /\ ow[js m h N]? = some none /\ ∀ r, r < N -> ∃ k' : Nat, ow[js m h r]? = some (some k') := by
 obtain ⟨j, hj, e⟩ := B1 O hl;obtain ⟨c, hc, ec⟩ := sy hm h hj;exact uE O.size (SetTable.turns m) 0 (fun r hr => absurd hr (by simp [bs])) ⟨c, Nat.zero_le _, by unfold SetTable.turns; omega, by rw [ec]; exact e⟩
theorem xJ {m : Nat} {hs : List Int} {ow : Array (Option Nat)} (O : Own m hs ow) {h : Int} {N : Nat} (h1 : ow[js m h N]? = some none) (h2 : ∀ r, r < N -> ∃ k' : Nat, ow[js m h r]? = some (some k')) :
 Own m (hs ++ [h]) (ow.setIfInBounds (js m h N) (some hs.length)) := by
 have hb : js m h N < ow.size := (Array.getElem?_eq_some_iff.mp h1).1;have get : ∀ j : Nat, (ow.setIfInBounds (js m h N) (some hs.length))[j]? = if js m h N = j then some (some hs.length) else ow[j]? := fun j => by
  rw [Array.getElem?_setIfInBounds];by_cases z : js m h N = j
  . subst z; simp [hb]
  . simp [z]
 have keep : ∀ j : Nat, (∃ k : Nat, ow[j]? = some (some k)) -> ∃ k : Nat, (ow.setIfInBounds (js m h N) (some hs.length))[j]? = some (some k) := fun j ⟨k, e⟩ => by
  rw [get];by_cases z : js m h N = j
  . exact ⟨hs.length, by rw [if_pos z]⟩
  . exact ⟨k, by rw [if_neg z]; exact e⟩
 have old : ∀ j k : Nat, (ow.setIfInBounds (js m h N) (some hs.length))[j]? = some (some k) -> (j = js m h N /\ k = hs.length) \/ ow[j]? = some (some k) := fun j k e => by
  rw [get] at e;by_cases z : js m h N = j
  . rw [if_pos z] at e; cases e; exact .inl ⟨z.symm, rfl⟩
  . rw [if_neg z] at e; exact .inr e
 refine ⟨by rw [Array.size_setIfInBounds, O.size], fun j k e => ?_, fun k hk => ?_, fun i j k a b => ?_, fun j k e => ?_⟩
 . rw [List.length_append];rcases old j k e with ⟨_, rfl⟩ | e
   . simp
   . have := O.lt j k e; simp; omega
 . rw [List.length_append, List.length_singleton] at hk;by_cases z : k = hs.length
   . exact ⟨js m h N, by rw [get, if_pos rfl, z]⟩
   . obtain ⟨j, e⟩ := O.one k (by omega);refine ⟨j, ?_⟩;rw [get, if_neg fun z => ?_]
     . exact e
     . rw [<- z, h1] at e; cases e
 . rcases old i k a with ⟨ha, hk⟩ | ha
   . rcases old j k b with ⟨hb, _⟩ | hb
     . rw [ha, hb]
     . have := O.lt j k hb; omega
   . rcases old j k b with ⟨hb, hk⟩ | hb
     . have := O.lt i k ha; omega
     . exact O.inj i j k ha hb
 . rcases old j k e with ⟨rfl, rfl⟩ | e
   . have g : (hs ++ [h]).getD hs.length 0 = h := by simp
     rw [g];exact ⟨N, rfl, fun r hr => keep _ (h2 r hr)⟩
   . have hk := O.lt j k e;have g : (hs ++ [h]).getD k 0 = hs.getD k 0 := by simp [List.getD_eq_getElem?_getD, getElem?_append_left hk]
     rw [g];obtain ⟨n, e1, e2⟩ := O.reach j k e;exact ⟨n, e1, fun r hr => keep _ (e2 r hr)⟩
end Tb
end Y
namespace Y
open PySem
namespace Tb
def jG (m : Nat) (acc : Option (Array (Option Nat) × Nat)) (h : Int) : Option (Array (Option Nat) × Nat) := do
 let (owner, k) <- acc
 let j <- SetTable.layClean.free m owner (SetTable.turns m) (SetTable.bits h % (m + 1)) (SetTable.bits h)
 pure (owner.setIfInBounds j (some k), k + 1)
theorem DG (m : Nat) (hs : Array Int) : SetTable.layClean m hs = (hs.toList.foldl (jG m) (some (Array.replicate (m + 1) none, 0))).map (·.1) := by
 unfold SetTable.layClean;rw [<- Array.foldl_toList];rfl
theorem qK {m : Nat} (hm : Mk m) : ∀ (b a : List Int) (ow : Array (Option Nat)), Own m a ow -> a.length + b.length <= m + 1 -> ∃ ow', b.foldl (jG m) (some (ow, a.length)) = some (ow', a.length + b.length) /\ Own m (a ++ b) ow'
 | [], a, ow, O, _ => ⟨ow, rfl, by rw [append_nil]; exact O⟩
 | h :: b, a, ow, O, hl => by
  rw [length_cons] at hl;obtain ⟨N, e1, e2, e3⟩ := AV hm O (by omega) h;have st : jG m (some (ow, a.length)) h = some (ow.setIfInBounds (js m h N) (some a.length), a.length + 1) := by
   show (do let j <- SetTable.layClean.free m ow (SetTable.turns m) (SetTable.bits h % (m + 1)) (SetTable.bits h); pure (ow.setIfInBounds j (some a.length), a.length + 1)) = _;rw [e1];rfl
  obtain ⟨ow', f1, f2⟩ := qK hm b (a ++ [h]) _ (xJ O e2 e3) (by rw [List.length_append, List.length_singleton]; omega);rw [List.length_append, List.length_singleton] at f1;refine ⟨ow', ?_, by rw [List.append_assoc] at f2; exact f2⟩;rw [List.foldl_cons, st, f1, length_cons];congr 2;omega
theorem C6 {m : Nat} (hm : Mk m) (hs : Array Int) (hl : hs.size <= m + 1) : ∃ ow, SetTable.layClean m hs = some ow /\ Own m hs.toList ow := by
 obtain ⟨ow, e, O⟩ := qK hm hs.toList [] _ (B6 m) (by rw [Array.length_toList]; simpa using hl);refine ⟨ow, ?_, O⟩;have e : hs.toList.foldl (jG m) (some (Array.replicate (m + 1) none, 0)) = some (ow, 0 + hs.toList.length) := e;rw [DG, e];rfl
def gq (m : Nat) (ow : Array (Option Nat)) : List Ij := (List.range (m + 1)).filterMap fun j => (ow.getD j none).map (j, ·)
theorem eF {m : Nat} {hs : List Int} {ow : Array (Option Nat)} (O : Own m hs ow) {p : Ij} : p ∈ gq m ow ↔ ow[p.1]? = some (some p.2) := by
 have hz := O.size;unfold gq;rw [List.mem_filterMap];constructor
 . rintro ⟨j, hj, e⟩;have hj2 : j < ow.size := by have := List.mem_range.mp hj; omega
   rw [Option.map_eq_some_iff] at e;obtain ⟨k, ek, rfl⟩ := e;rw [Array.getD_eq_getD_getElem?, Array.getElem?_eq_getElem hj2] at ek;show ow[j]? = some (some k);rw [Array.getElem?_eq_getElem hj2];exact congrArg some ek
 . intro e;have hb : p.1 < ow.size := (Array.getElem?_eq_some_iff.mp e).1;exact ⟨p.1, List.mem_range.mpr (by omega), by rw [Array.getD_eq_getD_getElem?, e]; rfl⟩
theorem Aa (m : Nat) (ow : Array (Option Nat)) : (gq m ow).Pairwise fun p q => p.1 < q.1 := by
 unfold gq;rw [List.pairwise_filterMap];refine List.pairwise_lt_range.imp fun {a b} h x hx y hy => ?_;rw [Option.map_eq_some_iff] at hx hy;obtain ⟨_, _, rfl⟩ := hx;obtain ⟨_, _, rfl⟩ := hy;exact h
theorem yr {m : Nat} {hs : List Int} {ow : Array (Option Nat)} (O : Own m hs ow) : ((gq m ow).map (·.2)).Perm (List.range hs.length) := by
 refine (List.perm_ext_iff_of_nodup ?_ List.nodup_range).mpr fun k => ?_
 . rw [List.nodup_iff_pairwise_ne, List.pairwise_map];refine (Aa m ow).imp_of_mem fun {p q} hp hq h z => ?_;have a := (eF O).mp hp;have b := (eF O).mp hq;rw [<- z] at b;have := O.inj _ _ _ a b;omega
 . rw [mem_map, List.mem_range];constructor
   . rintro ⟨p, hp, rfl⟩;exact O.lt _ _ ((eF O).mp hp)
   . intro hk;obtain ⟨j, e⟩ := O.one k hk;exact ⟨(j, k), (eF O).mpr e, rfl⟩
theorem yY (es : Ib) : ∀ (l : HS), (∀ p ∈ l, p.2 < es.size) -> (l.map (·.2)).filterMap (es[·]?) = l.map fun p => es.getD p.2 (0, .none)
 | [], _ => rfl
 | p :: l, h => by
  have hp := h p mem_cons_self;have ih := yY es l fun q hq => h q (mem_cons_of_mem _ hq);rw [map_cons, List.filterMap_cons_some (b := es.getD p.2 (0, .none)) (by simp [Array.getD, hp]), map_cons, ih]
theorem wK {t : SetTable} {es : Ib} {wanted : Nat} (hm : Mk (SetTable.sizeAbove wanted - 1)) (hl : es.size <= SetTable.sizeAbove wanted - 1) :
 ∃ t' order, t.relaid (es.map (·.1)) wanted = some (t', order) /\ t'.mask = SetTable.sizeAbove wanted - 1 /\ t'.led = t.led /\ t'.plain = t.plain /\ (order.filterMap (es[·]?)).size = es.size /\ (order.filterMap (es[·]?)).toList.Perm es.toList /\ Tab t' (order.filterMap (es[·]?)) := by
 generalize hmm : SetTable.sizeAbove wanted - 1 = m at hm hl;obtain ⟨ow, e, O⟩ := C6 hm (es.map (·.1)) (by rw [Array.size_map]; omega);have hlen : (es.map (·.1)).toList.length = es.size := by simp
 have pm := yr O;rw [hlen] at pm;have ord : ∀ k ∈ (gq m ow).map (·.2), k < es.size := fun k hk => by simpa using pm.mem_iff.mp hk
 have fm : (((gq m ow).map (·.2)).toArray.filterMap (es[·]?)).toList = ((gq m ow).map (·.2)).filterMap (es[·]?) := by rw [Array.toList_filterMap]
 have pe : (((gq m ow).map (·.2)).filterMap (es[·]?)).Perm es.toList := by
  have := pm.filterMap (es[·]?)
  rwa [PySem.filterMap_getElem?_range] at this
 have get := yY es;have gl := get (gq m ow) fun p hp => ord p.2 (mem_map.mpr ⟨p, hp, rfl⟩);refine ⟨{ mask := m, place := ((gq m ow).map (·.1)).toArray, dummies := #[], finger := t.finger, led := t.led, moves := t.movedTo m, plain := t.plain }, ((gq m ow).map (·.2)).toArray, ?_, rfl, rfl, rfl, ?_, ?_, ?_⟩
 . unfold SetTable.relaid SetTable.laid;rw [hmm, e];rfl
 . rw [<- Array.length_toList, fm, pe.length_eq, Array.length_toList]
 . rw [fm]; exact pe
 . refine ⟨hm, rfl, ?_, ?_, ?_, ?_⟩
   . show ((gq m ow).map (·.1)).toArray.size = _;rw [<- Array.length_toList (xs := Array.filterMap _ _), fm, gl];simp
   . show (((gq m ow).map (·.1)).toArray.toList).Pairwise _;rw [List.toList_toArray, List.pairwise_map];exact Aa m ow
   . intro j hj;rw [List.toList_toArray] at hj;obtain ⟨p, hp, rfl⟩ := mem_map.mp hj;have := (Array.getElem?_eq_some_iff.mp ((eF O).mp hp)).1;have := O.size;show p.1 <= m;omega
   . intro i j x hi hx;rw [List.getElem?_toArray, getElem?_map] at hi;rw [<- Array.getElem?_toList, fm, gl, getElem?_map] at hx
     cases q : (gq m ow)[i]? with
     | none => rw [q] at hi; cases hi
     | some p =>
      rw [q] at hi hx;have hi : p.1 = j := by simpa using hi
      have hx : es.getD p.2 (0, .none) = x := by simpa using hx
      have hp := mem_of_getElem? q;have ho := (eF O).mp hp;obtain ⟨n, e1, e2⟩ := O.reach _ _ ho;have hh : (es.map (·.1)).toList.getD p.2 0 = x.1 := by
       have hk := ord p.2 (mem_map.mpr ⟨p, hp, rfl⟩);rw [<- hx];simp [Array.getD, hk, List.getD_eq_getElem?_getD]
      rw [hh] at e1 e2;refine ⟨n, e1.trans hi, fun r hr => ?_⟩;obtain ⟨k', e'⟩ := e2 r hr;show js m x.1 r ∈ ((gq m ow).map (·.1)).toArray.toList;rw [List.toList_toArray, mem_map];exact ⟨(js m x.1 r, k'), (eF O).mpr e', rfl⟩
end Tb
end Y
namespace L2
open PySem PySem.Spec PyProof.Rows
section
variable {κ : Type} [DecidableEq κ]
def dq (kvs : List (κ × V)) (k : κ) : Option V := (kvs.find? fun kv => decide (kv.1 = k)).map (·.2)
def putK (kvs : List (κ × V)) (k : κ) (v : V) : List (κ × V) :=
 if (kvs.any fun kv => decide (kv.1 = k)) = true then kvs.map (fun kv => if kv.1 = k then (kv.1, v) else kv) else kvs ++ [(k, v)]
theorem lF {p : κ × V} {r : List (κ × V)} {k : κ} (e : p.1 = k) : dq (p :: r) k = some p.2 := by simp [dq, find?_cons, e]
theorem kA {p : κ × V} {r : List (κ × V)} {k : κ} (e : ¬ p.1 = k) : dq (p :: r) k = dq r k := by simp [dq, find?_cons, e]
theorem lA (k : κ) : ∀ kvs : List (κ × V), (kvs.any fun kv => decide (kv.1 = k)) = (dq kvs k).isSome
 | [] => rfl
 | p :: r => by
  rw [List.any_cons];by_cases e : p.1 = k
  . simp only [lF e, decide_eq_true e, Bool.true_or, Option.isSome_some]
  . rw [kA e, decide_eq_false e, Bool.false_or]; exact lA k r
theorem ja (kvs : List (κ × V)) (k : κ) (v : V) : (putK kvs k v).length <= kvs.length + 1 := by
 unfold putK;split
 . rw [length_map]; omega
 . rw [List.length_append, length_cons, List.length_nil]; omega
theorem zm {kvs : List (κ × V)} {k : κ} (v : V) (h : dq kvs k = none) : putK kvs k v = kvs ++ [(k, v)] := by
 unfold putK;rw [lA, h];exact if_neg (by decide)
theorem wF.iU {o : Option V} {u : Option Value} (r : wF o u) : o.isSome = u.isSome := by
 cases o with
 | none => cases u with
  | none => rfl
  | some _ => exact (show False from r).elim
 | some _ => cases u with
  | none => exact (show False from r).elim
  | some _ => rfl
theorem KV.val {kvs : List (κ × V)} {vs : List (κ × Value)} (r : KV kvs vs) (k : κ) : wF (dq kvs k) (valueAt vs k) := by
 unfold KV at r
 induction r with
 | nil => exact True.intro
 | @cons p q ps qs h t ih =>
  obtain ⟨h1, h2⟩ := h;by_cases e : p.1 = k
  . have e' : q.1 = k := h1.symm.trans e;have b : valueAt (q :: qs) k = some q.2 := by simp [valueAt, find?_cons, e']
    rw [lF e, b]; exact h2
  . have e' : ¬ q.1 = k := fun z => e (h1.trans z);have b : valueAt (q :: qs) k = valueAt qs k := by simp [valueAt, find?_cons, e']
    rw [kA e, b]; exact ih
theorem KV.any {kvs : List (κ × V)} {vs : List (κ × Value)} (r : KV kvs vs) (k : κ) : (kvs.any fun kv => decide (kv.1 = k)) = vs.any fun kv => decide (kv.1 = k) := by
 unfold KV at r
 induction r with
 | nil => rfl
 | cons h t ih => rw [List.any_cons, List.any_cons, ih, h.1]
theorem KV.Ef {kvs : List (κ × V)} {vs : List (κ × Value)} (r : KV kvs vs) (k : κ) {y : V} {u : Value} (ry : RelV y u) :
 KV (kvs.map fun kv => if kv.1 = k then (kv.1, y) else kv) (vs.map fun kv => if kv.1 = k then (kv.1, u) else kv) := by
 unfold KV at r ⊢
 induction r with
 | nil => exact .nil
 | @cons p q ps qs h t ih =>
  rw [map_cons, map_cons];refine .cons ?_ ih;obtain ⟨h1, h2⟩ := h;by_cases e : p.1 = k
  . rw [if_pos e, if_pos (h1.symm.trans e)]; exact ⟨h1, ry⟩
  . rw [if_neg e, if_neg (fun z => e (h1.trans z))]; exact ⟨h1, h2⟩
theorem KV.put {kvs : List (κ × V)} {vs : List (κ × Value)} (r : KV kvs vs) (k : κ) {y : V} {u : Value} (ry : RelV y u) : KV (putK kvs k y) (stored vs k u) := by
 unfold putK stored;rw [r.any k];by_cases e : (vs.any fun kv => decide (kv.1 = k)) = true
 . rw [if_pos e, if_pos e]; exact r.Ef k ry
 . rw [if_neg e, if_neg e]; exact Paired.snoc r ⟨rfl, ry⟩
theorem KV.length {kvs : List (κ × V)} {vs : List (κ × Value)} (r : KV kvs vs) : kvs.length = vs.length := Paired.length r
end
theorem zt {P : Program} {w : World} {k : Key} {u : Value} (r : RelV (kV k) u) : (bV P w).is k u = true := by
 cases k with
 | inl i => obtain ⟨t, e⟩ := (show ∃ t, u = Value.int i t from r); subst e; exact rD P w i t
 | inr x => obtain ⟨t, e⟩ := (show ∃ t, u = Value.str x t from r); subst e; exact rS P w x t
theorem Dr {a b : Key} (e : kV a = kV b) : a = b := by
 cases a with
 | inl i => cases b with
  | inl j => have e' : V.int i = V.int j := e; injection e' with e'; rw [e']
  | inr y => exact nomatch (show V.int i = V.str y from e)
 | inr x => cases b with
  | inl j => exact nomatch (show V.str x = V.int j from e)
  | inr y => have e' : V.str x = V.str y := e; injection e' with e'; rw [e']
theorem uZ : ∀ {a b : List Key}, a.map kV = b.map kV -> a = b
 | [], [], _ => rfl
 | [], _ :: _, e => by simp at e
 | _ :: _, [], e => by simp at e
 | x :: xs, y :: ys, e => by
  rw [map_cons, map_cons] at e;injection e with e1 e2;rw [Dr e1, uZ e2]
theorem m4 {P : Program} {w : World} : ∀ {ks : List Key} {us : HW}, Vals (ks.map kV) us -> ItemsAre (bV P w) ks us
 | [], _, r => by rw [map_nil] at r; cases r; exact .nil
 | k :: ks, _, r => by
  rw [map_cons] at r
  cases r with
  | cons h t => exact .cons (zt h) (m4 t)
abbrev KT (H : Hp) : List (List Key × V) -> List (List Key × Addr × Value) -> Prop := Paired fun p q => p.1 = q.1 /\ H q.2.1 = some (.tup (p.1.map kV)) /\ RelV p.2 q.2.2
theorem KT.val {H : Hp} {kvs : List (List Key × V)} {xs : List (List Key × Addr × Value)} (r : KT H kvs xs) (k : List Key) : wF (dq kvs k) ((atKey xs k).map (·.2)) := by
 induction r with
 | nil => exact True.intro
 | @cons p q ps qs h t ih =>
  obtain ⟨h1, _, h2⟩ := h;by_cases e : p.1 = k
  . have e' : q.1 = k := h1.symm.trans e;have b : atKey (q :: qs) k = some q.2 := by simp [atKey, find?_cons, e']
    rw [lF e, b]; exact h2
  . have e' : ¬ q.1 = k := fun z => e (h1.trans z);have b : atKey (q :: qs) k = atKey qs k := by simp [atKey, find?_cons, e']
    rw [kA e, b]; exact ih
theorem KT.Ef {H : Hp} {kvs : List (List Key × V)} {xs : List (List Key × Addr × Value)} (r : KT H kvs xs) (k : List Key) {y : V} {u : Value} (ry : RelV y u) :
 KT H (kvs.map fun kv => if kv.1 = k then (kv.1, y) else kv) (xs.map (putAt k u)) := by
 induction r with
 | nil => exact .nil
 | @cons p q ps qs h t ih =>
  rw [map_cons, map_cons];refine .cons ?_ ih;obtain ⟨h1, h2, h3⟩ := h;unfold putAt;by_cases e : p.1 = k
  . rw [if_pos e, if_pos (h1.symm.trans e)]; exact ⟨h1, h2, ry⟩
  . rw [if_neg e, if_neg (fun z => e (h1.trans z))]; exact ⟨h1, h2, h3⟩
theorem KT.put {H : Hp} {kvs : List (List Key × V)} {xs : List (List Key × Addr × Value)} (r : KT H kvs xs) (k : List Key) {b : Addr} {y : V} {u : Value} (hb : H b = some (.tup (k.map kV))) (ry : RelV y u) :
 KT H (putK kvs k y) (storedH xs k b u) := by
 have e : (kvs.any fun kv => decide (kv.1 = k)) = (atKey xs k).isSome := by
  rw [lA, (r.val k).iU, Option.isSome_map]
 unfold putK storedH;rw [e];by_cases q : (atKey xs k).isSome = true
 . rw [if_pos q, if_pos q]; exact r.Ef k ry
 . rw [if_neg q, if_neg q]; exact Paired.snoc r ⟨rfl, hb, ry⟩
theorem KT.keeps {H H' : Hp} {kvs : List (List Key × V)} {xs : List (List Key × Addr × Value)} (r : KT H kvs xs) (ht : ∀ b ys, H b = some (.tup ys) -> H' b = some (.tup ys)) : KT H' kvs xs :=
 Paired.DP r fun _ _ z => ⟨z.1, ht _ _ z.2.1, z.2.2⟩
section
variable {P : Program} {w : World} {H : Hp} {h : Heap} {a : Addr}
theorem C2 {u : HO} (ok : gz P w H h) (e : Rd H a u) : bB P w H h a u := e.ok ok
theorem Cm {kvs : List (Key × V)} (ok : gz P w H h) (e : Rd H a (.dK kvs)) : kvs.length <= sizeLine /\ (a == sysModules) = false /\ ∃ vs, KV kvs vs /\ h.DictOf (bV P w) a vs :=
 show bB P w H h a (.dK kvs) from C2 ok e
theorem CH {kvs : List (Key × V)} (ok : gz P w H h) (e : H a = some (.dK kvs)) : kvs.length <= sizeLine /\ (a == sysModules) = false /\ ∃ vs, KV kvs vs /\ h.DictOf (bV P w) a vs := Cm ok (.inl e)
theorem t8 {ks : List Key} (ok : gz P w H h) (e : H a = some (.tup (ks.map kV))) : (tupleKind (bV P w)).is h ks a := by
 obtain ⟨_, its, r, o, h1, h2, n, h3⟩ := (show bB P w H h a (.tup (ks.map kV)) from ok a _ e)
 exact ⟨o, its.toArray, n, h1, h2, h3, by simpa using m4 r⟩
theorem CV {kvs : List (List Key × V)} (ok : gz P w H h) (e : Rd H a (.dT kvs)) : kvs.length <= sizeLine /\ (a == sysModules) = false /\
 ∃ xs, KT H kvs xs /\ h.DictOfH (tupleKind (bV P w)) a xs := by
 obtain ⟨z, y, xs, r, o, es, ep, h1, h2, h3, h4, h5⟩ := (show bB P w H h a (.dT kvs) from C2 ok e)
 refine ⟨z, y, xs, r, o, es, ep, h1, h2, h3, h4, fun x hx => ?_, h5⟩;have all : ∀ {l : List (List Key × V)} {m : List (List Key × Addr × Value)}, KT H l m -> ∀ x ∈ m, (tupleKind (bV P w)).is h x.1 x.2.1 := by
  intro l m q
  induction q with
  | nil => intro x hx; exact nomatch hx
  | @cons p q ps qs hq t ih =>
   intro x hx;rcases mem_cons.mp hx with e | hx
   . subst e;exact t8 ok (by rw [<- hq.1]; exact hq.2.1)
   . exact ih x hx
 exact all r x hx
theorem zU {kvs : List (List Key × V)} (ok : gz P w H h) (e : H a = some (.dT kvs)) : kvs.length <= sizeLine /\ (a == sysModules) = false /\
 ∃ xs, KT H kvs xs /\ h.DictOfH (tupleKind (bV P w)) a xs := CV ok (.inl e)
end
def sO (H : Hp) (a : Addr) (y : V) (r : Option V) : Prop :=
 (∃ kvs k, Rd H a (.dK kvs) /\ y = kV k /\ r = dq kvs k) \/ ∃ kvs k b, Rd H a (.dT kvs) /\ y = .ref b /\ H b = some (.tup (k.map kV)) /\ r = dq kvs k
def sV (H : Hp) (a : Addr) (y v : V) (H' : Hp) : Prop :=
 (∃ kvs k, H a = some (.dK kvs) /\ y = kV k /\ kvs.length < sizeLine /\ H' = upd H a (.dK (putK kvs k v))) \/
 ∃ kvs k b, H a = some (.dT kvs) /\ y = .ref b /\ H b = some (.tup (k.map kV)) /\ kvs.length < sizeLine /\ H' = upd H a (.dT (putK kvs k v))
theorem sO.k {H : Hp} {a : Addr} {kvs : List (Key × V)} {k : Key} (e : H a = some (.dK kvs)) : sO H a (kV k) (dq kvs k) := .inl ⟨kvs, k, .inl e, rfl, rfl⟩
theorem sO.t {H : Hp} {a b : Addr} {kvs : List (List Key × V)} {k : List Key} (e : H a = some (.dT kvs)) (eb : H b = some (.tup (k.map kV))) : sO H a (.ref b) (dq kvs k) := .inr ⟨kvs, k, b, .inl e, rfl, eb, rfl⟩
theorem sV.k {H : Hp} {a : Addr} {kvs : List (Key × V)} {k : Key} {v : V} (e : H a = some (.dK kvs)) (hl : kvs.length < sizeLine) : sV H a (kV k) v (upd H a (.dK (putK kvs k v))) := .inl ⟨kvs, k, e, rfl, hl, rfl⟩
theorem sV.t {H : Hp} {a b : Addr} {kvs : List (List Key × V)} {k : List Key} {v : V} (e : H a = some (.dT kvs)) (eb : H b = some (.tup (k.map kV))) (hl : kvs.length < sizeLine) :
 sV H a (.ref b) v (upd H a (.dT (putK kvs k v))) := .inr ⟨kvs, k, b, e, rfl, eb, hl, rfl⟩
section
variable {X : Cx} {pins : HZ} {σ : St} {H : Hp} {s : Shared} {a : Addr} {y v : V} {u r : Value} {o : Option V} {A : Around} {E : HR}
theorem Inv.big (I : Inv X pins σ H s) : sysModules < s.heap.objs.size := by
 have h : mainGlobals < s.heap.objs.size := (I.mod.glob.keeps I.bk).lt;exact Nat.lt_trans (by decide) h
theorem AB {Q : HR} (hu : A.units + 1 < cLine) (I : Inv X pins σ H s) (g : sO H a y o) (ry : RelV y u) (h : ∀ s', Inv X pins σ H s' -> Q (.bool (!o.isSome)) s') :
 wpAny (model X.prog X.w) A (compareOp .NotIn u (.ref a)) Q E s := by
 rcases g with ⟨kvs, k, e, ey, l⟩ | ⟨kvs, k, b, e, ey, eb, l⟩
 . subst ey;obtain ⟨z, hd, vs, rel, dd⟩ := Cm I.hok e;refine wpAny_notIn_of (zt ry) hd dd.mapOf ?_;rw [<- (rel.val k).iU, <- l];exact h _ (I.tok _)
 . subst ey;cases (show u = Value.ref b from ry);obtain ⟨z, hd, xs, rel, dd⟩ := CV I.hok e;refine wpAny_notIn_heap (tupleKind_room_in1 hu) (t8 I.hok eb) hd dd ?_;have q := (rel.val k).iU;rw [Option.isSome_map] at q;rw [<- q, <- l];exact h _ (I.tok _)
theorem u9 {h' : Heap} {t' : Nat} {ob : HO} (I : Inv X pins σ H s) (mu : E8 (H a)) (hs : Heap.SameBut a s.heap h') (he : ∃ q, h'.get? a = some q) (new : bB X.prog X.w (upd H a ob) h' a ob) :
 Inv X pins σ (upd H a ob) { s with heap := h', toks := t' } :=
 I.write (x := a) (e := a) mu (.inl rfl) (fun b q hb z => (hs.2 b hb).trans z) he new
theorem EF {P : Program} {w : World} {H' : Hp} {h' : Heap} {kvs : List (Key × V)} {vs : List (Key × Value)} (z : kvs.length <= sizeLine) (hd : (a == sysModules) = false) (rel : KV kvs vs) (dd : h'.DictOf (bV P w) a vs) :
 bB P w H' h' a (.dK kvs) := ⟨z, hd, vs, rel, dd⟩
theorem wq {H' : Hp} {Q : Unit -> Shared -> Prop} (hu : A.units + 1 < cLine) (I : Inv X pins σ H s) (g : sV H a y v H') (ry : RelV y u) (rv : RelV v r) (h : ∀ s', Inv X pins σ H' s' -> Q () s') :
 wpAny (model X.prog X.w) A (setItem (.ref a) u r) Q E s := by
 rcases g with ⟨kvs, k, e, ey, l, eH⟩ | ⟨kvs, k, b, e, ey, eb, l, eH⟩
 . subst ey eH;obtain ⟨z, hd, vs, rel, dd⟩ := CH I.hok e;have hz : vs.length <= sizeLine := by rw [<- rel.length]; exact z
   have hl : (putK kvs k v).length <= sizeLine := by have := ja kvs k v; omega
   refine wpAny_setItem_pairs (hsz := hz) (zt ry) dd fun h' dd' hs => h _ ?_;have he : ∃ q, h'.get? a = some q := let ⟨q, _, _, hq, _⟩ := dd'; ⟨q, hq⟩;exact u9 I (by rw [e]; exact True.intro) hs he (EF hl hd (rel.put k rv) dd')
 . subst ey eH;cases (show u = Value.ref b from ry);obtain ⟨z, hd, xs, rel, dd⟩ := zU I.hok e;have hz : xs.length <= sizeLine := by rw [<- Paired.length rel]; exact z
   have hl : (putK kvs k v).length <= sizeLine := by have := ja kvs k v; omega
   refine wpAny_setItem_heap (hsz := hz) (tupleKind_room_in1 hu) (t8 I.hok eb) dd fun h' dd' hs => h _ ?_;obtain ⟨q, es, ep, hq, h2, h3, h4, _, h5⟩ := dd';refine u9 I (by rw [e]; exact True.intro) hs ⟨q, hq⟩ ⟨hl, hd, _, (rel.put k eb rv).keeps fun c ys ec => ?_, q, es, ep, hq, h2, h3, h4, h5⟩;rw [ag (dB ec e (fun z => nomatch z))];exact ec
end
def Av (ty td : TE) : TE := fun σ H Q => ty σ H fun y H1 => td σ H1 fun x H2 => ∃ a o, x = .ref a /\ sO H2 a y o /\ Q (.bl (!o.isSome)) H2
def E4 (td ty tv : TE) : TS := fun D σ H => tv σ H fun v H1 => td σ H1 fun x H2 => ty σ H2 fun y H3 => ∃ a H4, x = .ref a /\ sV H3 a y v H4 /\ D.nx σ H4
section
variable {X : Cx} {o i e value : Expr} {pos pos' tpos : Pos} {td ty tv : TE}
theorem wy (hu : X.A.units + 1 < cLine) (hi : PE X i ty) (ho : PE X o td) : PC X .NotIn i o (Av ty td) := by
 intro pins s σ H Q I h;refine ck (hi pins s σ H _ I h) fun iv s1 ⟨y, H1, I1, ry, q1⟩ => ck (ho pins s1 σ H1 _ I1 q1) fun u s2 ⟨x, H2, I2, rx, a, ov, ex, g, q2⟩ => ?_;subst ex;obtain rfl : u = Value.ref a := rx;exact AB hu I2 g ry fun s3 I3 => ⟨.bl (!ov.isSome), H2, I3, rfl, q2⟩
theorem Bb (hu : X.A.units + 1 < cLine) (ho : PE X o td) (hi : PE X i ty) (hv : PE X value tv) (hs : swapsWith value (some (.Subscript o i pos')) pos.line X.env = pure false) :
 PS X (.Assign [.Subscript o i pos'] value pos) (E4 td ty tv) := by
 intro pins s σ H D I h;refine wpAny_Assign_Subscript (ck (hv pins s σ H _ I h) fun r s1 ⟨v, H1, I1, rv, q1⟩ => ck (ho pins s1 σ H1 _ I1 q1) fun u s2 ⟨x, H2, I2, rx, q2⟩ => ck (hi pins s2 σ H2 _ I2 q2) fun iv s3 ⟨y, H3, I3, ry, a, H4, ex, g, q3⟩ => ?_) hs;subst ex;obtain rfl : u = Value.ref a := rx;exact wq hu I3 g ry rv fun s4 I4 => ⟨σ, H4, I4, q3⟩
end
theorem xO {P : Program} {w : World} {H : Hp} (h : Heap) (hb : sysModules < h.objs.size) : bB P w H (h.push { cls := .type "dict", data := .dict #[] }) h.objs.size (.dT []) :=
 ⟨Nat.zero_le _, beq_eq_false_iff_ne.mpr (Ne.symm (Nat.ne_of_lt hb)), [], .nil, _, #[], 0, get?_push_size _ rfl, ⟨rfl, rfl, rfl⟩, rfl, rfl, List.nodup_nil⟩
def Ej : TE := fun _ H Q => ∀ p, H p = none -> Q (.ref p) (upd H p (.dT []))
section
variable {X : Cx} {pos : Pos}
theorem zg : PE X (.Dict [] [] pos) Ej := fun pins s σ H Q I h =>
 wpAny_Dict_empty ⟨.ref s.heap.objs.size, _, I.laid (a := s.heap.objs.size) (o := .dT []) (t' := s.toks) (fun _ _ q => get?_push_of_some _ q) (Nat.le_refl _) (xO s.heap I.big), rfl, h _ (I.hok.fresh (Nat.le_refl _))⟩
end
end L2
namespace Y.DEq
open PySem PySem.SeqAt PySem.MeetsSeq PySem.AutoSeq1
abbrev xo (dd : HY) (es : Array DictEntry) (n : Nat) (sl : HU) : Obj := ⟨.type "dict", dd, .dict es n, sl⟩
abbrev Gg (T : String) (dd : HY) (xs : HX) (n : Nat) (sl : HU) : Obj := ⟨.type T, dd, .seq xs n, sl⟩
section
variable (l b : Addr) (es : Array DictEntry) (xs : HX) (n m : Nat) (dd de : HY) (sl sm : HU) (q : Bool) (i : Int) (z : Str) (t : Tok)
theorem vH : Meets (Builtin.«dict.__eq__» ⟨[.ref l, .none], []⟩) (fun _ R s => s.heap.get? l = some (xo dd es n sl) /\ R (.ok (.ret .notImplemented)) s) :=
 .of_wp fun prog w A R s h => by
  obtain ⟨hp, g, d, tk, os⟩ := s;obtain ⟨hl, h⟩ := h;have f1 := F.sub_NoneType_dict;wp_walk using wpAny_loadPart' hl;exact ⟨_, rfl, h⟩
theorem dict_bool : Meets (Builtin.«dict.__eq__» ⟨[.ref l, .bool q], []⟩) (fun _ R s => s.heap.get? l = some (xo dd es n sl) /\ R (.ok (.ret .notImplemented)) s) :=
 .of_wp fun prog w A R s h => by
  obtain ⟨hp, g, d, tk, os⟩ := s;obtain ⟨hl, h⟩ := h;have f1 := F.sub_bool_dict;wp_walk using wpAny_loadPart' hl;exact ⟨_, rfl, h⟩
theorem dict_int : Meets (Builtin.«dict.__eq__» ⟨[.ref l, .int i t], []⟩) (fun _ R s => s.heap.get? l = some (xo dd es n sl) /\ R (.ok (.ret .notImplemented)) s) :=
 .of_wp fun prog w A R s h => by
  obtain ⟨hp, g, d, tk, os⟩ := s;obtain ⟨hl, h⟩ := h;have f1 := F.sub_int_dict;wp_walk using wpAny_loadPart' hl;exact ⟨_, rfl, h⟩
theorem dict_str : Meets (Builtin.«dict.__eq__» ⟨[.ref l, .str z t], []⟩) (fun _ R s => s.heap.get? l = some (xo dd es n sl) /\ R (.ok (.ret .notImplemented)) s) :=
 .of_wp fun prog w A R s h => by
  obtain ⟨hp, g, d, tk, os⟩ := s;obtain ⟨hl, h⟩ := h;have f1 := F.sub_str_dict;wp_walk using wpAny_loadPart' hl;exact ⟨_, rfl, h⟩
theorem dict_list : Meets (Builtin.«dict.__eq__» ⟨[.ref l, .ref b], []⟩) (fun _ R s => s.heap.get? l = some (xo dd es n sl) /\ s.heap.get? b = some (Gg "list" de xs m sm) /\ R (.ok (.ret .notImplemented)) s) :=
 .of_wp fun prog w A R s h => by
  obtain ⟨hp, g, d, tk, os⟩ := s;obtain ⟨hl, hb, h⟩ := h;have f1 := F.sub_list_dict;wp_walk using wpAny_loadPart' hl, wpAny_loadPart' hb;exact ⟨_, rfl, h⟩
theorem list_dict : Meets (Builtin.«list.__eq__» ⟨[.ref b, .ref l], []⟩) (fun _ R s => s.heap.get? l = some (xo dd es n sl) /\ s.heap.get? b = some (Gg "list" de xs m sm) /\ R (.ok (.ret .notImplemented)) s) :=
 .of_wp fun prog w A R s h => by
  obtain ⟨hp, g, d, tk, os⟩ := s;obtain ⟨hl, hb, h⟩ := h;have f1 := F.sub_dict_list;wp_walk using wpAny_loadPart' hl, wpAny_loadPart' hb;exact ⟨_, rfl, h⟩
theorem dict_tuple : Meets (Builtin.«dict.__eq__» ⟨[.ref l, .ref b], []⟩) (fun _ R s => s.heap.get? l = some (xo dd es n sl) /\ s.heap.get? b = some (Gg "tuple" de xs m sm) /\ R (.ok (.ret .notImplemented)) s) :=
 .of_wp fun prog w A R s h => by
  obtain ⟨hp, g, d, tk, os⟩ := s;obtain ⟨hl, hb, h⟩ := h;have f1 := F.sub_tuple_dict;wp_walk using wpAny_loadPart' hl, wpAny_loadPart' hb;exact ⟨_, rfl, h⟩
theorem tuple_dict : Meets (Builtin.«tuple.__eq__» ⟨[.ref b, .ref l], []⟩) (fun _ R s => s.heap.get? l = some (xo dd es n sl) /\ s.heap.get? b = some (Gg "tuple" de xs m sm) /\ R (.ok (.ret .notImplemented)) s) :=
 .of_wp fun prog w A R s h => by
  obtain ⟨hp, g, d, tk, os⟩ := s;obtain ⟨hl, hb, h⟩ := h;have f1 := F.sub_dict_tuple;wp_walk using wpAny_loadPart' hl, wpAny_loadPart' hb;exact ⟨_, rfl, h⟩
theorem bool_dict : Meets (Builtin.«int.__eq__» ⟨[.bool q, .ref l], []⟩) (fun _ R s => s.heap.get? l = some (xo dd es n sl) /\ R (.ok (.ret .notImplemented)) s) :=
 .of_wp fun prog w A R s h => by
  obtain ⟨hp, g, d, tk, os⟩ := s;obtain ⟨hl, h⟩ := h;wp_walk using wpAny_loadPart' hl, wpAny_load hl;exact ⟨_, rfl, h⟩
theorem int_dict : Meets (Builtin.«int.__eq__» ⟨[.int i t, .ref l], []⟩) (fun _ R s => s.heap.get? l = some (xo dd es n sl) /\ R (.ok (.ret .notImplemented)) s) :=
 .of_wp fun prog w A R s h => by
  obtain ⟨hp, g, d, tk, os⟩ := s;obtain ⟨hl, h⟩ := h;wp_walk using wpAny_loadPart' hl, wpAny_load hl;exact ⟨_, rfl, h⟩
theorem str_dict : Meets (Builtin.«str.__eq__» ⟨[.str z t, .ref l], []⟩) (fun _ R s => s.heap.get? l = some (xo dd es n sl) /\ R (.ok (.ret .notImplemented)) s) :=
 .of_wp fun prog w A R s h => by
  obtain ⟨hp, g, d, tk, os⟩ := s;obtain ⟨hl, h⟩ := h;wp_walk using wpAny_loadPart' hl, wpAny_load hl;exact ⟨_, rfl, h⟩
end
def dD (h : Heap) (a : Addr) : Prop := ∃ dd es n sl, h.get? a = some (xo dd es n sl)
section
variable {A : Around} {s : Shared} {l b : Addr}
theorem AX  (hl : dD s.heap l) (hu : A.units < cLine) : RcAt A s (.none) (.ref l) false := fun prog w E Q h => by
 obtain ⟨dd, es, n, sl, ho⟩ := hl;refine rc_eq_decline_or (k := false) (Ta := "NoneType") (rfl) ⟨_, ho, rfl⟩ (by decide) F.sub_dict_NoneType F.slot_NoneType_eq F.slot_dict_eq_refl (fun _ hq => ?_) (fun _ hq => ?_) (fun _ hq => wpAny_of_eq (rfl : isSame (.none) (.ref l) = pure false) hq) (.inr hu) h
 . exact call_gives F.slot_NoneType_eq rfl F.entry_NoneType_eq (F.args_NoneType_eq_2 _ _) (NoneType___eq___none_ref_0 l) hq
 . exact call_meets F.slot_dict_eq_refl ⟨_, ho, rfl⟩ F.entry_dict_eq (F.args_dict_eq_2 _ _) (vH l es n dd sl) ⟨ho, hq⟩
theorem Aw  (hl : dD s.heap l) (hu : A.units < cLine) : EqAt A s (.none) (.ref l) false := fun prog w E Q h => by
 unfold eqBool;refine wpAny_holding (wpAny_ite_split (fun hab => absurd (eq_of_beq hab) nofun) fun _ => ?_);exact wpAny_bind (AX  hl hu prog w E _ (wpAny_truthy_bool h))
theorem BK (q : Bool) (hl : dD s.heap l) (hu : A.units < cLine) : RcAt A s (.bool q) (.ref l) false := fun prog w E Q h => by
 obtain ⟨dd, es, n, sl, ho⟩ := hl;refine rc_eq_decline_or (k := false) (Ta := "bool") (rfl) ⟨_, ho, rfl⟩ (by decide) F.sub_dict_bool F.slot_bool_eq F.slot_dict_eq_refl (fun _ hq => ?_) (fun _ hq => ?_) (fun _ hq => wpAny_of_eq (rfl : isSame (.bool q) (.ref l) = pure false) hq) (.inr hu) h
 . exact call_meets F.slot_bool_eq rfl F.entry_int_eq (F.args_int_eq_2 _ _) (bool_dict l es n dd sl q) ⟨ho, hq⟩
 . exact call_meets F.slot_dict_eq_refl ⟨_, ho, rfl⟩ F.entry_dict_eq (F.args_dict_eq_2 _ _) (dict_bool l es n dd sl q) ⟨ho, hq⟩
theorem BA (q : Bool) (hl : dD s.heap l) (hu : A.units < cLine) : EqAt A s (.bool q) (.ref l) false := fun prog w E Q h => by
 unfold eqBool;refine wpAny_holding (wpAny_ite_split (fun hab => absurd (eq_of_beq hab) nofun) fun _ => ?_);exact wpAny_bind (BK q hl hu prog w E _ (wpAny_truthy_bool h))
theorem Eu (i : Int) (t : Tok) (hl : dD s.heap l) (hu : A.units < cLine) : RcAt A s (.int i t) (.ref l) false := fun prog w E Q h => by
 obtain ⟨dd, es, n, sl, ho⟩ := hl;refine rc_eq_decline_or (k := false) (Ta := "int") (typeIs_int s i t) ⟨_, ho, rfl⟩ (by decide) F.sub_dict_int F.slot_int_eq F.slot_dict_eq_refl (fun _ hq => ?_) (fun _ hq => ?_) (fun _ hq => wpAny_of_eq (rfl : isSame (.int i t) (.ref l) = pure false) hq) (.inr hu) h
 . exact call_meets F.slot_int_eq (typeIs_int s i t) F.entry_int_eq (F.args_int_eq_2 _ _) (int_dict l es n dd sl i t) ⟨ho, hq⟩
 . exact call_meets F.slot_dict_eq_refl ⟨_, ho, rfl⟩ F.entry_dict_eq (F.args_dict_eq_2 _ _) (dict_int l es n dd sl i t) ⟨ho, hq⟩
theorem DT (i : Int) (t : Tok) (hl : dD s.heap l) (hu : A.units < cLine) : EqAt A s (.int i t) (.ref l) false := fun prog w E Q h => by
 unfold eqBool;refine wpAny_holding (wpAny_ite_split (fun hab => absurd (eq_of_beq hab) nofun) fun _ => ?_);exact wpAny_bind (Eu i t hl hu prog w E _ (wpAny_truthy_bool h))
theorem Eb (z : Str) (t : Tok) (hl : dD s.heap l) (hu : A.units < cLine) : RcAt A s (.str z t) (.ref l) false := fun prog w E Q h => by
 obtain ⟨dd, es, n, sl, ho⟩ := hl;refine rc_eq_decline_or (k := false) (Ta := "str") (typeIs_str s z t) ⟨_, ho, rfl⟩ (by decide) F.sub_dict_str F.slot_str_eq F.slot_dict_eq_refl (fun _ hq => ?_) (fun _ hq => ?_) (fun _ hq => wpAny_of_eq (rfl : isSame (.str z t) (.ref l) = pure false) hq) (.inr hu) h
 . exact call_meets F.slot_str_eq (typeIs_str s z t) F.entry_str_eq (F.args_str_eq_2 _ _) (str_dict l es n dd sl z t) ⟨ho, hq⟩
 . exact call_meets F.slot_dict_eq_refl ⟨_, ho, rfl⟩ F.entry_dict_eq (F.args_dict_eq_2 _ _) (dict_str l es n dd sl z t) ⟨ho, hq⟩
theorem ED (z : Str) (t : Tok) (hl : dD s.heap l) (hu : A.units < cLine) : EqAt A s (.str z t) (.ref l) false := fun prog w E Q h => by
 unfold eqBool;refine wpAny_holding (wpAny_ite_split (fun hab => absurd (eq_of_beq hab) nofun) fun _ => ?_);exact wpAny_bind (Eb z t hl hu prog w E _ (wpAny_truthy_bool h))
theorem uJ {xs : HX} (hb : s.heap.IsList b xs) (hl : dD s.heap l) : b ≠ l := fun e => by
 subst e;obtain ⟨o, ho, hc, _⟩ := hb;obtain ⟨dd, es, n, sl, ho2⟩ := hl;rw [ho] at ho2;cases ho2;exact absurd hc (by simp)
theorem BP {xs : HX} (hb : s.heap.IsList b xs) (hl : dD s.heap l) (hu : A.units < cLine) : RcAt A s (.ref b) (.ref l) false := fun prog w E Q h => by
 have hne := uJ hb hl;obtain ⟨dd, es, n, sl, ho⟩ := hl;obtain ⟨⟨cls, de, data, sm⟩, hb1, hc, m, hd⟩ := id hb;simp only at hc hd;subst hc hd;refine rc_eq_decline_or (k := false) (Ta := "list") ⟨_, hb1, rfl⟩ ⟨_, ho, rfl⟩ (by decide) F.sub_dict_list F.slot_list_eq F.slot_dict_eq_refl (fun _ hq => ?_) (fun _ hq => ?_) (fun _ hq => wpAny_isSame_ref_other hne hb1 ho (by simp) hq) (.inr hu) h
 . exact call_meets F.slot_list_eq ⟨_, hb1, rfl⟩ F.entry_list_eq (F.args_list_eq_2 _ _) (list_dict l b es xs n m dd de sl sm) ⟨ho, hb1, hq⟩
 . exact call_meets F.slot_dict_eq_refl ⟨_, ho, rfl⟩ F.entry_dict_eq (F.args_dict_eq_2 _ _) (dict_list l b es xs n m dd de sl sm) ⟨ho, hb1, hq⟩
theorem AU {xs : HX} (hb : s.heap.IsList b xs) (hl : dD s.heap l) (hu : A.units < cLine) : EqAt A s (.ref b) (.ref l) false := .of_refs (uJ hb hl) (BP hb hl hu)
theorem qU {xs : HX} (hb : s.heap.IsTuple b xs) (hl : dD s.heap l) : b ≠ l := fun e => by
 subst e;obtain ⟨o, ho, hc, _⟩ := hb;obtain ⟨dd, es, n, sl, ho2⟩ := hl;rw [ho] at ho2;cases ho2;exact absurd hc (by simp)
theorem yZ {xs : HX} (hb : s.heap.IsTuple b xs) (hl : dD s.heap l) (hu : A.units < cLine) : RcAt A s (.ref b) (.ref l) false := fun prog w E Q h => by
 have hne := qU hb hl;obtain ⟨dd, es, n, sl, ho⟩ := hl;obtain ⟨⟨cls, de, data, sm⟩, hb1, hc, m, hd⟩ := id hb;simp only at hc hd;subst hc hd;refine rc_eq_decline_or (k := false) (Ta := "tuple") ⟨_, hb1, rfl⟩ ⟨_, ho, rfl⟩ (by decide) F.sub_dict_tuple F.slot_tuple_eq F.slot_dict_eq_refl (fun _ hq => ?_) (fun _ hq => ?_) (fun _ hq => wpAny_isSame_ref_other' hne hb1 ho (by simp) hq) (.inr hu) h
 . exact call_meets F.slot_tuple_eq ⟨_, hb1, rfl⟩ F.entry_tuple_eq (F.args_tuple_eq_2 _ _) (tuple_dict l b es xs n m dd de sl sm) ⟨ho, hb1, hq⟩
 . exact call_meets F.slot_dict_eq_refl ⟨_, ho, rfl⟩ F.entry_dict_eq (F.args_dict_eq_2 _ _) (dict_tuple l b es xs n m dd de sl sm) ⟨ho, hb1, hq⟩
theorem rd {xs : HX} (hb : s.heap.IsTuple b xs) (hl : dD s.heap l) (hu : A.units < cLine) : EqAt A s (.ref b) (.ref l) false := .of_refs (qU hb hl) (yZ hb hl hu)
end
end Y.DEq
namespace Y
open PySem PySem.Spec PyProof.Rows L2
abbrev St := L2.St
class b0 where
 T : List (Addr × Str)
variable [b0]
def AO : HO -> Bool
 | .tbl _ => true
 | _ => false
def lN (c : Addr) (q : Str) : HO := .ext fun h => h.CodeRec (.ref c) q
def TabsOk (H : Hp) : Prop := ∀ P ∈ b0.T, ∃ ps, H P.1 = some (.tbl ps) /\ TriplesOk ps.toList /\ ∀ pos cv, codeAmong pos ps.toList = some cv -> ∃ c, cv = .ref c /\ H c = some (lN c P.2)
structure aq (H H' : Hp) : Prop where
 get : ∀ b o, H b = some o -> AO o = false -> H' b = some o
 tbl : ∀ b ps, H b = some (.tbl ps) -> ∃ ps', H' b = some (.tbl ps')
 tabs : TabsOk H -> TabsOk H'
theorem aq.at {H H' : Hp} (s : aq H H') {b : Addr} {o : HO} (h : H b = some o) (n : AO o = false := by rfl) : H' b = some o := s.get b o h n
theorem aq.refl (H : Hp) : aq H H := ⟨fun _ _ h _ => h, fun _ ps h => ⟨ps, h⟩, fun t => t⟩
theorem aq.trans {H H1 H2 : Hp} (a : aq H H1) (b : aq H1 H2) : aq H H2 :=
 ⟨fun c o h n => b.get c o (a.get c o h n) n, fun c ps h => let ⟨ps', e⟩ := a.tbl c ps h; b.tbl c ps' e, fun t => b.tabs (a.tabs t)⟩
theorem aq.free {H H' : Hp} (e : aq H H') {l : Addr} (h : H' l = Option.none) : H l = Option.none := by
 cases q : H l with
 | none => rfl
 | some o =>
  cases n : AO o with
  | false => rw [e.get l o q n] at h; cases h
  | true =>
   cases o with
   | tbl ps => obtain ⟨ps', z⟩ := e.tbl l ps q; rw [z] at h; cases h
   | _ => cases n
theorem aq.seq {K : Frag} {H H' : Hp} {a : Addr} {xs : List V} (e : aq H H') (h : dM K H a xs) : dM K H' a xs := by
 rcases h with (h | ⟨o, h⟩) | h
 . exact .inl (.inl (e.at h))
 . exact .inl (.inr ⟨o, e.at h⟩)
 . exact .inr h
inductive DO where
 | k (kvs : List (Key × V))
 | t (kvs : List (List Key × V))
def DO.ho : DO -> HO
 | .k kvs => .dK kvs
 | .t kvs => .dT kvs
inductive MO where
 | l (xs : List V)
 | d (o : DO)
def MO.ho : MO -> HO
 | .l xs => .lst xs
 | .d o => o.ho
theorem MO.nt (o : MO) : AO o.ho = false := by
 rcases o with xs | (kvs | kvs) <;> rfl
theorem DO.nt (o : DO) : AO o.ho = false := MO.nt (.d o)
theorem DO.inj {o o' : DO} (h : o.ho = o'.ho) : o = o' := by
 cases o <;> cases o' <;> cases h <;> rfl
theorem MO.wM (o : MO) {xs : List V} (h : o.ho = .tup xs) : False := by
 rcases o with xs | (kvs | kvs) <;> cases h
theorem MO.FI (o : MO) {b : Obj} {u : HO} (h : o.ho = .frz b u) : False := by
 rcases o with xs | (kvs | kvs) <;> cases h
theorem TabsOk.upd {H : Hp} {p : Addr} {o : HO} (h : H p = none \/ ∃ xs : MO, H p = some xs.ho) (t : TabsOk H) : TabsOk (upd H p o) := fun P hP => by
 obtain ⟨ps, e, tr, k⟩ := t P hP;have ne : ∀ {b : Addr} {u : HO}, H b = some u -> (∀ xs : MO, u ≠ xs.ho) -> b ≠ p := fun {b u} q n z => by
  rcases h with h | ⟨xs, h⟩
  . rw [z, h] at q; cases q
  . rw [z, h] at q; exact n xs (Option.some.inj q).symm
 refine ⟨ps, by rw [ag (ne e (by intro xs z; rcases xs with xs | (kvs | kvs) <;> cases z))]; exact e, tr, fun pos cv q => ?_⟩;obtain ⟨c, rfl, hc⟩ := k pos cv q;exact ⟨c, rfl, by rw [ag (ne hc (by intro xs z; rcases xs with xs | (kvs | kvs) <;> cases z))]; exact hc⟩
theorem aq.nZ {H H' : Hp} {l : Addr} {xs : MO} {o : HO} (s : aq H H') (h : H l = none) (h' : H' l = some xs.ho) : aq H (upd H' l o) :=
 ⟨fun b u e n => by rw [ag (av e h)]; exact s.get b u e n, fun b ps e => by rw [ag (av e h)]; exact s.tbl b ps e, fun t => (s.tabs t).upd (.inr ⟨xs, h'⟩)⟩
theorem aq.write {H H' : Hp} {l : Addr} {xs : List V} {o : HO} (s : aq H H') (h : H l = none) (h' : H' l = some (.lst xs)) : aq H (upd H' l o) := s.nZ (xs := .l xs) h h'
inductive D where
 | non
 | bl (b : Bool)
 | int (i : Int)
 | str (x : Str)
 | lst (ds : List D)
 | tup (ds : List D)
 | dct (o : DO)
 | ktup (ks : List Key)
def kD : Key -> D
 | .inl i => .int i
 | .inr x => .str x
structure aA where
 m : Bool
 S : Addr -> Prop
def RO (K : Frag) (H : Hp) (a : Addr) (xs : List V) : Prop :=
 (∃ o, H a = some (.frz o (.lst xs))) \/
  ∃ (o : Obj) (its : HX) (n : Nat), K.lookup a = some o /\ o.cls = .type "list" /\ o.dict = none /\ o.data = .seq its n /\ its.size <= sizeLine /\ Vals xs its.toList
def LstAt (K : Frag) (H : Hp) (Z : aA) (a : Addr) (xs : List V) : Prop := (H a = some (.lst xs) /\ Z.S a) \/ (Z.m = false /\ RO K H a xs)
theorem LstAt.sq {K : Frag} {H : Hp} {Z : aA} {a : Addr} {xs : List V} (h : LstAt K H Z a xs) : dM K H a xs := by
 rcases h with ⟨h, _⟩ | ⟨_, h | h⟩
 . exact .inl (.inl h)
 . exact .inl (.inr h)
 . exact .inr h
def wR (K : Frag) (a : Addr) (ks : List Key) : Prop := ∃ (o : Obj) (its : HX) (n : Nat), K.lookup a = some o /\ o.cls = .type "tuple" /\ o.data = .seq its n /\ its.size <= sizeLine /\ Vals (ks.map kV) its.toList
mutual
def In (K : Frag) (H : Hp) (Z : aA) : D -> V -> Prop
 | .non, v => v = .non
 | .bl b, v => v = .bl b
 | .int i, v => v = .int i
 | .str x, v => v = .str x
 | .lst ds, v => ∃ a xs, v = .ref a /\ LstAt K H Z a xs /\ aH K H Z ds xs
 | .tup ds, v => ∃ a xs, v = .ref a /\ H a = some (.tup xs) /\ aH K H Z ds xs
 | .dct o, v => ∃ a, v = .ref a /\ H a = some o.ho /\ Z.S a
 | .ktup ks, v => ∃ a, v = .ref a /\ wR K a ks
def aH (K : Frag) (H : Hp) (Z : aA) : List D -> List V -> Prop
 | [], xs => xs = []
 | d :: ds, xs => ∃ v vs, xs = v :: vs /\ In K H Z d v /\ aH K H Z ds vs
end
structure Carry (K : Frag) (H : Hp) (Z : aA) (H' : Hp) (Z' : aA) : Prop where
 l : ∀ a (xs : MO), H a = some xs.ho -> Z.S a -> H' a = some xs.ho /\ Z'.S a
 r : Z.m = false -> Z'.m = false /\ ∀ a xs, RO K H a xs -> RO K H' a xs
 t : ∀ a (xs : List V), H a = some (.tup xs) -> H' a = some (.tup xs)
section
variable {K : Frag} {H H' H2 : Hp} {Z Z' Z2 : aA}
theorem LstAt.carry {a : Addr} {xs : List V} (c : Carry K H Z H' Z') (h : LstAt K H Z a xs) : LstAt K H' Z' a xs := by
 rcases h with ⟨h, s⟩ | ⟨m, h⟩
 . exact .inl (c.l a (.l xs) h s)
 . exact .inr ⟨(c.r m).1, (c.r m).2 a xs h⟩
mutual
theorem In.carry (c : Carry K H Z H' Z') : ∀ {d : D} {v : V}, In K H Z d v -> In K H' Z' d v
 | .non, _, h => by unfold In at h ⊢; exact h
 | .bl _, _, h => by unfold In at h ⊢; exact h
 | .int _, _, h => by unfold In at h ⊢; exact h
 | .str _, _, h => by unfold In at h ⊢; exact h
 | .lst ds, v, h => by
  unfold In at h ⊢;obtain ⟨a, xs, e, l, i⟩ := h;exact ⟨a, xs, e, l.carry c, aH.carry c i⟩
 | .tup ds, v, h => by
  unfold In at h ⊢;obtain ⟨a, xs, e, l, i⟩ := h;exact ⟨a, xs, e, c.t a xs l, aH.carry c i⟩
 | .dct o, v, h => by
  unfold In at h ⊢;obtain ⟨a, e, l, i⟩ := h;exact ⟨a, e, c.l a (.d o) l i⟩
 | .ktup ks, v, h => by unfold In at h ⊢; exact h
theorem aH.carry (c : Carry K H Z H' Z') : ∀ {ds : List D} {vs : List V}, aH K H Z ds vs -> aH K H' Z' ds vs
 | [], _, h => by unfold aH at h ⊢; exact h
 | d :: ds, vs, h => by
  unfold aH at h ⊢;obtain ⟨v, r, e, i, j⟩ := h;exact ⟨v, r, e, In.carry c i, aH.carry c j⟩
end
theorem RO.same {a : Addr} {xs : List V} (s : aq H H') (h : RO K H a xs) : RO K H' a xs := by
 rcases h with ⟨o, h⟩ | h
 . exact .inl ⟨o, s.at h⟩
 . exact .inr h
theorem Carry.of (s : aq H H') (hS : ∀ a (xs : MO), H a = some xs.ho -> Z.S a -> Z'.S a) (hm : Z.m = false -> Z'.m = false) : Carry K H Z H' Z' :=
 ⟨fun a xs h z => ⟨s.at h xs.nt, hS a xs h z⟩, fun m => ⟨hm m, fun a xs h => h.same s⟩, fun a xs h => s.at h⟩
theorem Carry.same (s : aq H H') : Carry K H Z H' Z := .of s (fun _ _ _ z => z) fun m => m
theorem In.same {d : D} {v : V} (s : aq H H') (h : In K H Z d v) : In K H' Z d v := h.carry (.same s)
theorem aH.same {ds : List D} {vs : List V} (s : aq H H') (h : aH K H Z ds vs) : aH K H' Z ds vs := h.carry (.same s)
theorem Carry.nZ {l : Addr} {xs : MO} {o : HO} (h : H l = some xs.ho) (n : ¬ Z.S l) : Carry K H Z (upd H l o) Z := by
 refine ⟨fun a zs e z => ⟨?_, z⟩, fun m => ⟨m, fun a zs e => ?_⟩, fun a zs e => ?_⟩
 . have : a ≠ l := by rintro rfl; exact n z
   rw [ag this]; exact e
 . rcases e with ⟨o, e⟩ | e
   . refine .inl ⟨o, ?_⟩;rw [ag (dB e h (by intro q; exact xs.FI q.symm))]; exact e
   . exact .inr e
 . rw [ag (dB e h (by intro q; exact xs.wM q.symm))]; exact e
theorem Carry.write {l : Addr} {xs ys : List V} (h : H l = some (.lst xs)) (n : ¬ Z.S l) : Carry K H Z (upd H l (.lst ys)) Z := Carry.nZ (xs := .l xs) h n
mutual
def D.flat : D -> Bool
 | .lst _ => false
 | .dct _ => false
 | .tup ds => aV ds
 | _ => true
def aV : List D -> Bool
 | [] => true
 | d :: ds => D.flat d && aV ds
end
mutual
theorem In.flat (s : ∀ a (xs : List V), H a = some (.tup xs) -> H' a = some (.tup xs)) : ∀ {d : D} {v : V}, D.flat d = true -> In K H Z d v -> In K H' Z' d v
 | .non, _, _, h => by unfold In at h ⊢; exact h
 | .bl _, _, _, h => by unfold In at h ⊢; exact h
 | .int _, _, _, h => by unfold In at h ⊢; exact h
 | .str _, _, _, h => by unfold In at h ⊢; exact h
 | .lst ds, v, f, h => by unfold D.flat at f; cases f
 | .dct o, v, f, h => by unfold D.flat at f; cases f
 | .ktup ks, v, f, h => by unfold In at h ⊢; exact h
 | .tup ds, v, f, h => by
  unfold D.flat at f;unfold In at h ⊢;obtain ⟨a, xs, e, l, i⟩ := h;exact ⟨a, xs, e, s a xs l, aH.flat s f i⟩
theorem aH.flat (s : ∀ a (xs : List V), H a = some (.tup xs) -> H' a = some (.tup xs)) : ∀ {ds : List D} {vs : List V}, aV ds = true -> aH K H Z ds vs -> aH K H' Z' ds vs
 | [], _, _, h => by unfold aH at h ⊢; exact h
 | d :: ds, vs, f, h => by
  unfold aV at f;rw [Bool.and_eq_true] at f;unfold aH at h ⊢;obtain ⟨v, r, e, i, j⟩ := h;exact ⟨v, r, e, In.flat s f.1 i, aH.flat s f.2 j⟩
end
theorem In.df {d : D} {v : V} (f : d.flat = true) (h : In K H Z d v) : In K H Z' d v := In.flat (fun _ _ e => e) f h
theorem aH.df {ds : List D} {vs : List V} (f : aV ds = true) (h : aH K H Z ds vs) : aH K H Z' ds vs := aH.flat (fun _ _ e => e) f h
theorem bg {v : V} : In K H Z .non v ↔ v = .non := by unfold In; exact Iff.rfl
theorem aS {b : Bool} {v : V} : In K H Z (.bl b) v ↔ v = .bl b := by unfold In; exact Iff.rfl
theorem au {i : Int} {v : V} : In K H Z (.int i) v ↔ v = .int i := by unfold In; exact Iff.rfl
theorem in_str {x : Str} {v : V} : In K H Z (.str x) v ↔ v = .str x := by unfold In; exact Iff.rfl
theorem ar {ds : List D} {v : V} : In K H Z (.lst ds) v ↔ ∃ a xs, v = .ref a /\ LstAt K H Z a xs /\ aH K H Z ds xs := by unfold In; exact Iff.rfl
theorem bO {ds : List D} {v : V} : In K H Z (.tup ds) v ↔ ∃ a xs, v = .ref a /\ H a = some (.tup xs) /\ aH K H Z ds xs := by unfold In; exact Iff.rfl
theorem aG {ds : List D} {v : V} (h : In K H Z (.tup ds) v) : ∃ a xs, v = .ref a /\ z6 K H a xs /\ aH K H Z ds xs :=
 let ⟨a, xs, e, l, i⟩ := bO.mp h
 ⟨a, xs, e, .inl (.inl l), i⟩
theorem ba {ks : List Key} {v : V} : In K H Z (.ktup ks) v ↔ ∃ a, v = .ref a /\ wR K a ks := by unfold In; exact Iff.rfl
theorem wR.sq {a : Addr} {ks : List Key} (h : wR K a ks) : z6 K H a (ks.map kV) := by
 obtain ⟨o, its, n, h1, h2, h3, h4, h5⟩ := h;exact .inr ⟨o, its, n, h1, h2, h3, h4, h5⟩
theorem bq {o : DO} {v : V} : In K H Z (.dct o) v ↔ ∃ a, v = .ref a /\ H a = some o.ho /\ Z.S a := by unfold In; exact Iff.rfl
theorem aD {vs : List V} : aH K H Z [] vs ↔ vs = [] := by unfold aH; exact Iff.rfl
theorem ao {d : D} {ds : List D} {vs : List V} : aH K H Z (d :: ds) vs ↔ ∃ v r, vs = v :: r /\ In K H Z d v /\ aH K H Z ds r := by
 constructor
 . intro h; unfold aH at h; exact h
 . intro h; unfold aH; exact h
theorem aH.length : ∀ {ds : List D} {vs : List V}, aH K H Z ds vs -> ds.length = vs.length
 | [], _, h => by rw [aD.mp h]; rfl
 | d :: ds, _, h => by
  obtain ⟨v, r, rfl, _, j⟩ := ao.mp h;rw [length_cons, length_cons, aH.length j]
theorem aH.get : ∀ {ds : List D} {vs : List V} {i : Nat} {d : D}, aH K H Z ds vs -> ds[i]? = some d -> ∃ v, vs[i]? = some v /\ In K H Z d v
 | [], _, _, _, _, e => by simp at e
 | d :: ds, _, 0, _, h, e => by
  obtain ⟨v, r, rfl, a, _⟩ := ao.mp h;simp at e; subst e;exact ⟨v, rfl, a⟩
 | d :: ds, _, i + 1, d', h, e => by
  obtain ⟨v, r, rfl, _, j⟩ := ao.mp h;obtain ⟨w, h1, h2⟩ := aH.get (i := i) (d := d') j (by simpa using e);exact ⟨w, by simpa using h1, h2⟩
theorem aH.append : ∀ {ds es : List D} {vs ws : List V}, aH K H Z ds vs -> aH K H Z es ws -> aH K H Z (ds ++ es) (vs ++ ws)
 | [], _, _, _, h, k => by rw [aD.mp h]; exact k
 | d :: ds, _, _, _, h, k => by
  obtain ⟨v, r, rfl, a, j⟩ := ao.mp h;exact ao.mpr ⟨v, r ++ _, rfl, a, aH.append j k⟩
theorem aH.one {d : D} {v : V} (h : In K H Z d v) : aH K H Z [d] [v] := ao.mpr ⟨v, [], rfl, h, aD.mpr rfl⟩
theorem aH.drop : ∀ {ds : List D} {vs : List V} (n : Nat), aH K H Z ds vs -> aH K H Z (ds.drop n) (vs.drop n)
 | _, _, 0, h => h
 | [], _, _ + 1, h => by rw [aD.mp h]; exact aD.mpr (by simp)
 | _ :: _, _, n + 1, h => by
  obtain ⟨v, r, rfl, _, j⟩ := ao.mp h;exact aH.drop n j
theorem aH.take : ∀ {ds : List D} {vs : List V} (n : Nat), aH K H Z ds vs -> aH K H Z (ds.take n) (vs.take n)
 | _, _, 0, h => by rw [List.take_zero, List.take_zero]; exact aD.mpr rfl
 | [], _, _ + 1, h => by rw [aD.mp h]; exact aD.mpr (by simp)
 | _ :: _, _, n + 1, h => by
  obtain ⟨v, r, rfl, a, j⟩ := ao.mp h;exact ao.mpr ⟨v, r.take n, rfl, a, aH.take n j⟩
theorem aH.of_get : ∀ {ds : List D} {vs : List V}, ds.length = vs.length -> (∀ (i : Nat) d v, ds[i]? = some d -> vs[i]? = some v -> In K H Z d v) -> aH K H Z ds vs
 | [], [], _, _ => aD.mpr rfl
 | d :: ds, v :: vs, e, h => ao.mpr ⟨v, vs, rfl, h 0 d v rfl rfl, aH.of_get (by simpa using e) fun i d' v' a b => h (i + 1) d' v' (by simpa using a) (by simpa using b)⟩
 | [], _ :: _, e, _ => by simp at e
 | _ :: _, [], e, _ => by simp at e
theorem rT : ∀ (ns : List Int), aH K H Z (ns.map D.int) (ns.map V.int)
 | [] => aD.mpr rfl
 | n :: ns => ao.mpr ⟨_, _, rfl, au.mpr rfl, rT ns⟩
theorem iA : ∀ (ns : Ie), aH K H Z (ns.map D.str) (ns.map V.str)
 | [] => aD.mpr rfl
 | n :: ns => ao.mpr ⟨_, _, rfl, in_str.mpr rfl, iA ns⟩
theorem eD : ∀ {ns : Ie} {vs : List V}, aH K H Z (ns.map D.str) vs -> vs = ns.map V.str
 | [], _, h => aD.mp h
 | n :: ns, _, h => by
  obtain ⟨v, r, rfl, a, j⟩ := ao.mp h;rw [in_str.mp a, eD j]; rfl
theorem FA (k : Key) : In K H Z (kD k) (kV k) := by
 cases k with
 | inl i => exact au.mpr rfl
 | inr x => exact in_str.mpr rfl
theorem oh : ∀ (ks : List Key), aH K H Z (ks.map kD) (ks.map kV)
 | [] => aD.mpr rfl
 | k :: ks => ao.mpr ⟨_, _, rfl, FA k, oh ks⟩
theorem cq : ∀ (ns : Ie), aV (ns.map D.str) = true
 | [] => by simp [aV]
 | n :: ns => by simp [aV, D.flat, cq ns]
theorem fP : ∀ {ds : List D}, (∀ d ∈ ds, d.flat = true) -> aV ds = true
 | [], _ => by simp [aV]
 | d :: ds, h => by
  have h1 := h d mem_cons_self;have h2 : aV ds = true := fP fun e he => h e (mem_cons_of_mem _ he);simp [aV, h1, h2]
theorem ny : ∀ {ds : List D}, aV ds = true -> ∀ d ∈ ds, d.flat = true
 | [], _, d, hd => by simp at hd
 | e :: ds, h, d, hd => by
  simp [aV] at h;rcases mem_cons.mp hd with rfl | hd
  . exact h.1
  . exact ny h.2 d hd
end
structure aA.Open (Z : aA) (H : Hp) : Prop where
 op : ∀ a, H a = none -> Z.S a
 tb : TabsOk H
instance {Z : aA} {H : Hp} : CoeFun (Z.Open H) (fun _ => ∀ a, H a = none -> Z.S a) := ⟨fun o => o.op⟩
def nw (H : Hp) : aA := ⟨true, fun a => H a = none⟩
theorem FC {H : Hp} {C : Prop} (h : (nw H).m = false) : C := Bool.noConfusion (show true = false from h)
def out (m : Bool) (Z : aA) (H : Hp) : aA := if m then nw H else Z
def E6 : aA := ⟨false, fun _ => True⟩
section
variable {K : Frag} {H H1 H' : Hp} {Z : aA} {m : Bool}
theorem aA.Open.same (o : Z.Open H) (s : aq H H') : Z.Open H' := ⟨fun a h => o.op a (s.free h), s.tabs o.tb⟩
theorem vG (t : TabsOk H) : E6.Open H := ⟨fun _ _ => trivial, t⟩
theorem Bq (t : TabsOk H) (s : aq H H') : (nw H).Open H' := ⟨fun a h => s.free h, s.tabs t⟩
theorem In.up {d : D} {v : V} (o : Z.Open H) (h : In K H' (nw H) d v) : In K H' Z d v := h.carry ⟨fun a xs e z => ⟨e, o a z⟩, fun m => FC m, fun _ _ e => e⟩
theorem aH.up {ds : List D} {vs : List V} (o : Z.Open H) (h : aH K H' (nw H) ds vs) : aH K H' Z ds vs := h.carry ⟨fun a xs e z => ⟨e, o a z⟩, fun m => FC m, fun _ _ e => e⟩
theorem In.plain {d : D} {v : V} (o : Z.Open H) (h : In K H' (out m Z H) d v) : In K H' Z d v := by
 cases m
 . exact h
 . exact h.up o
theorem In.later {d : D} {v : V} (s : aq H H1) (h : In K H' (out m Z H1) d v) : In K H' (out m Z H) d v := by
 cases m
 . exact h
 . exact h.carry ⟨fun a xs e z => ⟨e, s.free z⟩, fun m => FC m, fun _ _ e => e⟩
theorem In.AE {d : D} {v : V} {Z' : aA} (f : d.flat = true) (h : In K H' Z' d v) : In K H' (out m Z H) d v := h.df f
end
def bM (K : Frag) (H : Hp) (Z : aA) (σ : St) (ρ : List (Option D)) : Prop := ∀ (i : Nat) d, ρ[i]? = some (some d) -> ∃ v, σ[i]? = some (some v) /\ In K H Z d v
theorem bM.same {K : Frag} {H H' : Hp} {Z : aA} {σ : St} {ρ : List (Option D)} (s : aq H H') (h : bM K H Z σ ρ) : bM K H' Z σ ρ := fun i d e =>
 let ⟨v, a, b⟩ := h i d e; ⟨v, a, b.same s⟩
def tE (K : Frag) (m : Bool) (ρ : List (Option D)) (d : D) : TE := fun σ H Q => ∃ Z : aA, Z.Open H /\ bM K H Z σ ρ /\ ∀ v H', aq H H' -> In K H' (out m Z H) d v -> Q v H'
def vR (K : Frag) (ρ : List (Option D)) (b : Bool) : TT := fun σ H Q => ∃ Z : aA, Z.Open H /\ bM K H Z σ ρ /\ ∀ H', aq H H' -> Q b H'
def HG (K : Frag) (ρ : List (Option D)) (ds : List D) : TA := fun σ H Q => ∃ Z : aA, Z.Open H /\ bM K H Z σ ρ /\ ∀ vs H', aq H H' -> aH K H' Z ds vs -> Q vs H'
def E (X : Cx) (m : Bool) (ρ : List (Option D)) (e : Expr) (d : D) : Prop := PE X e (tE X.K m ρ d)
def T (X : Cx) (ρ : List (Option D)) (e : Expr) (b : Bool) : Prop := PT X e (vR X.K ρ b)
def TW (X : Cx) (ρ : List (Option D)) (e : Expr) (b : Bool) : Prop := PW X e (vR X.K ρ b)
def EA (X : Cx) (ρ : List (Option D)) (es : List Expr) (ds : List D) : Prop := PA X es (HG X.K ρ ds)
theorem PE.mono {X : Cx} {e : Expr} {t t' : TE} (h : PE X e t) (k : ∀ σ H Q, t' σ H Q -> t σ H Q) : PE X e t' := fun pins s σ H Q I q => h pins s σ H Q I (k σ H Q q)
theorem PT.mono {X : Cx} {e : Expr} {t t' : TT} (h : PT X e t) (k : ∀ σ H Q, t' σ H Q -> t σ H Q) : PT X e t' := fun pins s σ H Q I q => h pins s σ H Q I (k σ H Q q)
theorem PW.mono {X : Cx} {e : Expr} {t t' : TT} (h : PW X e t) (k : ∀ σ H Q, t' σ H Q -> t σ H Q) : PW X e t' := fun wh pins s σ H Q I q => h wh pins s σ H Q I (k σ H Q q)
theorem PA.mono {X : Cx} {es : List Expr} {t t' : TA} (h : PA X es t) (k : ∀ σ H Q, t' σ H Q -> t σ H Q) : PA X es t' := fun pos pins s σ H Q I q => h pos pins s σ H Q I (k σ H Q q)
section
variable {X : Cx} {ρ : List (Option D)} {m m1 m2 m3 : Bool} {a b c e : Expr} {es : List Expr} {d d1 d2 d3 : D} {pos : Pos}
theorem E.mode (h : E X true ρ e d) : E X m ρ e d := by
 cases m
 . refine PE.mono h fun σ H Q z0 => aO z0 fun Z oz en k => ⟨Z, oz, en, fun v H' s i => k v H' s (i.up oz)⟩
 . exact h
theorem E.yH (h : E X m ρ e d) : E X false ρ e d := by
 cases m
 . exact h
 . exact E.mode h
theorem E.flat (h : E X m1 ρ e d) (f : d.flat = true) : E X m ρ e d :=
 PE.mono h fun σ H Q z0 => aO z0 fun Z oz en k => ⟨Z, oz, en, fun v H' s i => k v H' s (i.df f)⟩
theorem E.cast {d' : D} (h : E X m ρ e d) (q : d = d') : E X m ρ e d' := q ▸ h
theorem aa (i : Nat) {x : Str} {d : D} (hr : ρ[i]? = some (some d) := by rfl) (hN : X.N[i]? = some x := by rfl)
 (hv : zw X.env.scope x := by first | exact Or.inl rfl | exact Or.inr (Or.inl rfl) | exact Or.inr (Or.inr rfl)) (hd : (x == ("__debug__" : Str)) = false := by decide)
 (hcd : (x == ("__classdict__" : Str)) = false := by decide) : E X false ρ (.Name x pos) d :=
 PE.mono (fv hN hv hd hcd) fun σ H Q z0 => aO z0 fun Z oz en k => by
  obtain ⟨v, e, i⟩ := en i d hr;exact ⟨v, e, k v H (aq.refl H) i⟩
theorem ay {i : Int} {j : Nat} : E X true ρ (.Constant (.int i) j pos) (.int i) := PE.mono DV fun σ H Q z0 => aO z0 fun Z oz en k => k _ _ (aq.refl H) (au.mpr rfl)
theorem Dv {b : Bool} {j : Nat} : E X true ρ (.Constant (.bool b) j pos) (.bl b) := PE.mono FJ fun σ H Q z0 => aO z0 fun Z oz en k => k _ _ (aq.refl H) (aS.mpr rfl)
theorem cJ {x : Str} {j : Nat} : E X true ρ (.Constant (.str x) j pos) (.str x) := PE.mono Eh fun σ H Q z0 => aO z0 fun Z oz en k => k _ _ (aq.refl H) (in_str.mpr rfl)
theorem Ds {x y : Str} {t : Tok} (hm : X.mg x = some (.str y t)) (hg : Gl X x := by rfl) (hd : (x == ("__debug__" : Str)) = false := by decide) : E X true ρ (.Name x pos) (.str y) :=
 PE.mono (AI (v := .str y) hg hm ⟨t, rfl⟩ hd) fun σ H Q z0 => aO z0 fun Z oz en k => k _ _ (aq.refl H) (in_str.mpr rfl)
theorem dG : EA X ρ [] [] := PA.mono bh fun σ H Q z0 => aO z0 fun Z oz en k => k [] H (aq.refl H) (aD.mpr rfl)
theorem aw {ds : List D} (ha : E X m1 ρ e d) (hr : EA X ρ es ds) (hs : starEach (e :: es) X.env = (false, eval e X.env) :: starEach es X.env := by rfl) : EA X ρ (e :: es) (d :: ds) :=
 PA.mono (aM ha hr hs) fun σ H Q z0 => aO z0 fun Z oz en k => ⟨Z, oz, en, fun v H1 s1 i1 => ⟨Z, oz.same s1, en.same s1, fun vs H2 s2 i2 => k (v :: vs) H2 (s1.trans s2) (ao.mpr ⟨v, vs, rfl, (i1.plain oz).same s2, i2⟩)⟩⟩
theorem aC (ha : E X m1 ρ e d) (hs : starEach (e :: []) X.env = (false, eval e X.env) :: starEach [] X.env := by rfl) : EA X ρ [e] [d] := aw ha dG hs
def HP (X : Cx) (ρ : List (Option D)) (es : List Expr) (ds : List D) : Prop := PA X es (fun σ H Q => ∃ Z : aA, Z.Open H /\ bM X.K H Z σ ρ /\ ∀ vs H', aq H H' -> aH X.K H' (nw H) ds vs -> Q vs H')
theorem az {H : Hp} {p : Addr} {o : HO} (h : H p = none) : aq H (upd H p o) := ⟨fun b u e _ => by rw [ag (av e h)]; exact e, fun b ps e => ⟨ps, by rw [ag (av e h)]; exact e⟩, fun t => t.upd (.inl h)⟩
theorem mw {ds : List D} {x1} (h : EA X ρ es ds) (hz : ds.length <= 1000 := by exact of_decide_eq_true rfl) : E X false ρ (.Tuple es x1 pos) (.tup ds) :=
 PE.mono (zi h) fun σ H Q z0 => aO z0 fun Z oz en k => ⟨Z, oz, en, fun vs H1 s1 i1 => ⟨by rw [<- i1.length]; exact Nat.le_trans hz (Nat.le_of_lt (bS (Nat.le_refl _))), fun p hp =>
  k (.ref p) _ (s1.trans (az hp)) (bO.mpr ⟨p, vs, rfl, ax, i1.same (az hp)⟩)⟩⟩
theorem FE {ds : List D} (h : EA X ρ es ds) (hz : ds.length <= 1000 := by exact of_decide_eq_true rfl) : E X false ρ (.List es pos) (.lst ds) :=
 PE.mono (tM h) fun σ H Q z0 => aO z0 fun Z oz en k => ⟨Z, oz, en, fun vs H1 s1 i1 => ⟨by rw [<- i1.length]; exact Nat.le_trans hz (Nat.le_of_lt (bS (Nat.le_refl _))), fun p hp =>
  k (.ref p) _ (s1.trans (az hp)) (ar.mpr ⟨p, vs, rfl, .inl ⟨ax, oz p (s1.free hp)⟩, i1.same (az hp)⟩)⟩⟩
theorem cY {ds : List D} (h : EA X ρ es ds) (f : aV ds = true := by rfl) (hz : ds.length <= 1000 := by exact of_decide_eq_true rfl) : E X true ρ (.List es pos) (.lst ds) := by
 refine E.mode (PE.mono (tM h) fun σ H Q z0 => aO z0 fun Z oz en k => ⟨Z, oz, en, fun vs H1 s1 i1 => ⟨by rw [<- i1.length]; exact Nat.le_trans hz (Nat.le_of_lt (bS (Nat.le_refl _))), fun p hp =>
  k (.ref p) _ (s1.trans (az hp)) (ar.mpr ⟨p, vs, rfl, .inl ⟨ax, s1.free hp⟩, (i1.same (az hp)).df f⟩)⟩⟩)
theorem two {ta tb : TE} {σ : St} {H : Hp} {Z : aA} {R : V -> V -> Hp -> Prop} (oz : Z.Open H) (en : bM X.K H Z σ ρ)
 (h : ∀ x y H', aq H H' -> In X.K H' Z d1 x -> In X.K H' Z d2 y -> R x y H') : tE X.K m1 ρ d1 σ H fun x H1 => tE X.K m2 ρ d2 σ H1 fun y H2 => R x y H2 :=
 ⟨Z, oz, en, fun x H1 s1 i1 => ⟨Z, oz.same s1, en.same s1, fun y H2 s2 i2 => h x y H2 (s1.trans s2) ((i1.plain oz).same s2) (i2.plain (oz.same s1))⟩⟩
theorem vJ {op : Operator} {r : R2} (ho : jC X (binaryOp op) r) (ha : E X m1 ρ a d1) (hb : E X m2 ρ b d2)
 (h : ∀ x y H Z Q, Z.Open H -> In X.K H Z d1 x -> In X.K H Z d2 y -> (∀ v H', aq H H' -> In X.K H' (out m Z H) d v -> Q v H') -> r x y H Q) : E X m ρ (.BinOp a op b pos) d :=
 PE.mono (CK ho ha hb) fun σ H Q z0 => aO z0 fun Z oz en k => two (ta := tE X.K m1 ρ d1) (tb := tE X.K m2 ρ d2) oz en fun x y H2 s i1 i2 => h x y H2 Z _ (oz.same s) i1 i2 fun v H' s' i => k v H' (s.trans s') (i.later s)
theorem nB {op : CmpOp} {r : R2} (ho : jC X (compareOp op) r) (ha : E X m1 ρ a d1) (hb : E X m2 ρ b d2)
 (h : ∀ x y H Z Q, Z.Open H -> In X.K H Z d1 x -> In X.K H Z d2 y -> (∀ v H', aq H H' -> In X.K H' (out m Z H) d v -> Q v H') -> r x y H Q) (hm : behindInMarks op b = false) : E X m ρ (.Compare a [op] [b] pos) d :=
 PE.mono (AY ho ha hb hm) fun σ H Q z0 => aO z0 fun Z oz en k => two (ta := tE X.K m1 ρ d1) (tb := tE X.K m2 ρ d2) oz en fun x y H2 s i1 i2 => h x y H2 Z _ (oz.same s) i1 i2 fun v H' s' i => k v H' (s.trans s') (i.later s)
theorem iL {op : CmpOp} {r : R2} {p : Bool} (ho : jC X (compareOp op) r) (ha : E X m1 ρ a d1) (hb : E X m2 ρ b d2)
 (h : ∀ x y H Z Q, Z.Open H -> In X.K H Z d1 x -> In X.K H Z d2 y -> (∀ H', aq H H' -> Q (.bl p) H') -> r x y H Q) (hm : behindInMarks op b = false) : T X ρ (.Compare a [op] [b] pos) p :=
 PT.mono (AR ho ha hb hm) fun σ H Q z0 => aO z0 fun Z oz en k => two (ta := tE X.K m1 ρ d1) (tb := tE X.K m2 ρ d2) oz en fun x y H2 s i1 i2 => h x y H2 Z _ (oz.same s) i1 i2 fun H' s' => ⟨p, rfl, k H' (s.trans s')⟩
theorem bX {i j : Int} (ha : E X m1 ρ a (.int i)) (hb : E X m2 ρ b (.int j)) : E X true ρ (.BinOp a .Add b pos) (.int (i + j)) :=
 vJ C5 ha hb fun x y H Z Q _ i1 i2 k => ⟨_, _, au.mp i1, au.mp i2, k _ _ (aq.refl H) (au.mpr rfl)⟩
theorem i8 {i j : Int} (ha : E X m1 ρ a (.int i)) (hb : E X m2 ρ b (.int j)) : E X true ρ (.BinOp a .Sub b pos) (.int (i - j)) :=
 vJ Et ha hb fun x y H Z Q _ i1 i2 k => ⟨_, _, au.mp i1, au.mp i2, k _ _ (aq.refl H) (au.mpr rfl)⟩
theorem yi {i j : Int} (ha : E X m1 ρ a (.int i)) (hb : E X m2 ρ b (.int j)) (hc : Ar i j) : E X true ρ (.BinOp a .Mult b pos) (.int (i * j)) :=
 vJ Eo ha hb fun x y H Z Q _ i1 i2 k => ⟨_, _, au.mp i1, au.mp i2, hc, k _ _ (aq.refl H) (au.mpr rfl)⟩
theorem mC {i j : Int} (ha : E X m1 ρ a (.int i)) (hb : E X m2 ρ b (.int j)) (hc : 0 < j) : E X true ρ (.BinOp a .Mod b pos) (.int (i % j)) :=
 vJ DI ha hb fun x y H Z Q _ i1 i2 k => ⟨_, _, au.mp i1, au.mp i2, hc, k _ _ (aq.refl H) (au.mpr rfl)⟩
theorem Dd {i j : Int} (ha : E X m1 ρ a (.int i)) (hb : E X m2 ρ b (.int j)) (hc : EZ i j) : E X true ρ (.BinOp a .FloorDiv b pos) (.int (i / j)) :=
 vJ B0 ha hb fun x y H Z Q _ i1 i2 k => ⟨_, _, au.mp i1, au.mp i2, hc, k _ _ (aq.refl H) (au.mpr rfl)⟩
theorem tG {x y : Str} (ha : E X m1 ρ a (.str x)) (hb : E X m2 ρ b (.str y)) (hz : x.length + y.length <= sizeLine) : E X true ρ (.BinOp a .Add b pos) (.str (x ++ y)) :=
 vJ t5 ha hb fun x y H Z Q _ i1 i2 k => ⟨_, _, in_str.mp i1, in_str.mp i2, hz, k _ _ (aq.refl H) (in_str.mpr rfl)⟩
theorem Fg {i j : Int} (ha : E X m1 ρ a (.int i)) (hb : E X m2 ρ b (.int j)) : E X true ρ (.Compare a [.Lt] [b] pos) (.bl (decide (i < j))) :=
 nB Ck ha hb (fun x y H Z Q _ i1 i2 k => ⟨_, _, au.mp i1, au.mp i2, k _ _ (aq.refl H) (aS.mpr rfl)⟩) (cy _)
theorem mV {i j : Int} (ha : E X m1 ρ a (.int i)) (hb : E X m2 ρ b (.int j)) : T X ρ (.Compare a [.Lt] [b] pos) (decide (i < j)) :=
 iL Ck ha hb (fun x y H Z Q _ i1 i2 k => ⟨_, _, au.mp i1, au.mp i2, k _ (aq.refl H)⟩) (cy _)
theorem F0 {i j : Int} (ha : E X m1 ρ a (.int i)) (hb : E X m2 ρ b (.int j)) : E X true ρ (.Compare a [.Gt] [b] pos) (.bl (decide (j < i))) :=
 nB CD ha hb (fun x y H Z Q _ i1 i2 k => ⟨_, _, au.mp i1, au.mp i2, k _ _ (aq.refl H) (aS.mpr rfl)⟩) (cy _)
theorem CN {i j : Int} (ha : E X m1 ρ a (.int i)) (hb : E X m2 ρ b (.int j)) : T X ρ (.Compare a [.Gt] [b] pos) (decide (j < i)) :=
 iL CD ha hb (fun x y H Z Q _ i1 i2 k => ⟨_, _, au.mp i1, au.mp i2, k _ (aq.refl H)⟩) (cy _)
theorem Fu {i j : Int} (ha : E X m1 ρ a (.int i)) (hb : E X m2 ρ b (.int j)) : E X true ρ (.Compare a [.Eq] [b] pos) (.bl (decide (i = j))) :=
 nB zJ ha hb (fun x y H Z Q _ i1 i2 k => by rw [au.mp i1, au.mp i2]; exact ⟨rfl, k _ _ (aq.refl H) (aS.mpr (by simp))⟩) (cy _)
theorem uI {i j : Int} (ha : E X m1 ρ a (.int i)) (hb : E X m2 ρ b (.int j)) : T X ρ (.Compare a [.Eq] [b] pos) (decide (i = j)) :=
 iL zJ ha hb (fun x y H Z Q _ i1 i2 k => by rw [au.mp i1, au.mp i2]; exact ⟨rfl, by simpa using k _ (aq.refl H)⟩) (cy _)
theorem uq {i j : Str} (ha : E X m1 ρ a (.str i)) (hb : E X m2 ρ b (.str j)) : T X ρ (.Compare a [.Eq] [b] pos) (decide (i = j)) :=
 iL zJ ha hb (fun x y H Z Q _ i1 i2 k => by rw [in_str.mp i1, in_str.mp i2]; exact ⟨rfl, by simpa using k _ (aq.refl H)⟩) (cy _)
theorem Fj {i j : Str} (ha : E X m1 ρ a (.str i)) (hb : E X m2 ρ b (.str j)) : E X true ρ (.Compare a [.NotEq] [b] pos) (.bl (!decide (i = j))) :=
 nB Co ha hb (fun x y H Z Q _ i1 i2 k => by rw [in_str.mp i1, in_str.mp i2]; exact ⟨rfl, k _ _ (aq.refl H) (aS.mpr (by simp))⟩) (cy _)
theorem CF {i j : Str} (ha : E X m1 ρ a (.str i)) (hb : E X m2 ρ b (.str j)) : T X ρ (.Compare a [.NotEq] [b] pos) (!decide (i = j)) :=
 iL Co ha hb (fun x y H Z Q _ i1 i2 k => by rw [in_str.mp i1, in_str.mp i2]; exact ⟨rfl, by simpa using k _ (aq.refl H)⟩) (cy _)
theorem Ft {i j : Str} (ha : E X m1 ρ a (.str i)) (hb : E X m2 ρ b (.str j)) (hm : behindInMarks .In b = false := by rfl) : T X ρ (.Compare a [.In] [b] pos) (!(Builtin.Str.occurrences j i 0 j.length 1).isEmpty) :=
 iL wB ha hb (fun x y H Z Q _ i1 i2 k => ⟨_, _, in_str.mp i1, in_str.mp i2, k _ (aq.refl H)⟩) hm
theorem jS {p : Bool} (ha : T X ρ a p) : TW X ρ (.BoolOp .And [a] pos) p := BF ha
theorem yx {p : Bool} (ha : T X ρ a p) : TW X ρ (.BoolOp .Or [a] pos) p := C9 ha
theorem i0 {p q : Bool} {r : List Expr} (ha : T X ρ a p) (hb : p = true -> TW X ρ (.BoolOp .And (b :: r) pos) q) : TW X ρ (.BoolOp .And (a :: b :: r) pos) (p && q) := by
 cases p with
 | true =>
  exact PW.mono (Ag ha (hb rfl)) fun σ H Q z0 => aO z0 fun Z oz en k => ⟨Z, oz, en, fun H1 s1 => by
   refine lO ?_; exact ⟨Z, oz.same s1, en.same s1, fun H2 s2 => k H2 (s1.trans s2)⟩⟩
 | false =>
  exact PW.mono (Ag (vR := fun _ _ _ => False) ha (fun wh pins s σ H Q I h => h.elim)) fun σ H Q z0 => aO z0 fun Z oz en k => ⟨Z, oz, en, fun H1 s1 => by
   refine lW ?_; exact k H1 s1⟩
theorem yP {p q : Bool} {r : List Expr} (ha : T X ρ a p) (hb : p = false -> TW X ρ (.BoolOp .Or (b :: r) pos) q) : TW X ρ (.BoolOp .Or (a :: b :: r) pos) (p || q) := by
 cases p with
 | false =>
  exact PW.mono (CM ha (hb rfl)) fun σ H Q z0 => aO z0 fun Z oz en k => ⟨Z, oz, en, fun H1 s1 => by
   refine lW ?_; exact ⟨Z, oz.same s1, en.same s1, fun H2 s2 => k H2 (s1.trans s2)⟩⟩
 | true =>
  exact PW.mono (CM (vR := fun _ _ _ => False) ha (fun wh pins s σ H Q I h => h.elim)) fun σ H Q z0 => aO z0 fun Z oz en k => ⟨Z, oz, en, fun H1 s1 => by
   refine lO ?_; exact k H1 s1⟩
theorem TW.t {p : Bool} (h : TW X ρ a p) : T X ρ a p := PW.pt h
theorem xE {p : Bool} (ha : T X ρ a p) : T X ρ (.UnaryOp .Not a pos) (!p) := PT.mono (Ec ha) fun σ H Q z0 => aO z0 fun Z oz en k => ⟨Z, oz, en, fun H1 s1 => k H1 s1⟩
theorem CL {p : Bool} (h : E X m1 ρ e (.bl p)) (he : ∀ whole, isTrue e X.env whole = (do let v <- whole; standAt e.pos; holding [v] (truthy v)) := by intro _; rfl) : T X ρ e p :=
 PT.mono (xQ h he) fun σ H Q z0 => aO z0 fun Z oz en k => ⟨Z, oz, en, fun v H1 s1 i1 => ⟨p, aS.mp (i1.plain oz), k H1 s1⟩⟩
theorem CC {op : BoolOp} (h : E X m ρ a d) : E X m ρ (.BoolOp op [a] pos) d := EG h
theorem yp {p : Bool} {q : Bool} {r : List Expr} (ha : E X m1 ρ a (.bl p)) (hb : p = true -> E X m2 ρ (.BoolOp .And (b :: r) pos) (.bl q)) : E X true ρ (.BoolOp .And (a :: b :: r) pos) (.bl (p && q)) := by
 cases p with
 | true =>
  exact PE.mono (zy ha (hb rfl)) fun σ H Q z0 => aO z0 fun Z oz en k => ⟨Z, oz, en, fun v H1 s1 i1 => ⟨true, aS.mp (i1.plain oz), by
   refine lO ?_; exact ⟨Z, oz.same s1, en.same s1, fun w H2 s2 i2 => k w H2 (s1.trans s2) (i2.AE rfl)⟩⟩⟩
 | false =>
  exact PE.mono (zy (tb := fun _ _ _ => False) ha (fun pins s σ H Q I h => h.elim)) fun σ H Q z0 => aO z0 fun Z oz en k => ⟨Z, oz, en, fun v H1 s1 i1 => ⟨false, aS.mp (i1.plain oz), by
   refine lW ?_; exact k _ H1 s1 (aS.mpr rfl)⟩⟩
theorem CJ {p : Bool} (ha : E X m1 ρ a (.bl p)) : E X true ρ (.UnaryOp .Not a pos) (.bl (!p)) :=
 PE.mono (DW ha) fun σ H Q z0 => aO z0 fun Z oz en k => ⟨Z, oz, en, fun v H1 s1 i1 => ⟨p, aS.mp (i1.plain oz), k _ H1 s1 (aS.mpr rfl)⟩⟩
theorem vo {p : Bool} (hc : T X ρ c p) (ha : p = true -> E X m ρ a d) (hb : p = false -> E X m ρ b d) : E X m ρ (.IfExp c a b pos) d := by
 cases p with
 | true =>
  exact PE.mono (qR (tb := fun _ _ _ => False) hc (ha rfl) (fun pins s σ H Q I h => h.elim)) fun σ H Q z0 => aO z0 fun Z oz en k => ⟨Z, oz, en, fun H1 s1 => by
   refine lO ?_; exact ⟨Z, oz.same s1, en.same s1, fun v H2 s2 i2 => k v H2 (s1.trans s2) (i2.later s1)⟩⟩
 | false =>
  exact PE.mono (qR (ta := fun _ _ _ => False) hc (fun pins s σ H Q I h => h.elim) (hb rfl)) fun σ H Q z0 => aO z0 fun Z oz en k => ⟨Z, oz, en, fun H1 s1 => by
   refine lW ?_; exact ⟨Z, oz.same s1, en.same s1, fun v H2 s2 i2 => k v H2 (s1.trans s2) (i2.later s1)⟩⟩
theorem aH.gS {K : Frag} {H : Hp} {Z : aA} {ds : List D} {vs : List V} {i : Int} {d : D} (h : aH K H Z ds vs) (e : gS ds i = some d) : ∃ v, gS vs i = some v /\ In K H Z d v := by
 unfold L2.gS at e ⊢;rw [<- h.length]
 cases q : Al ds.length i with
 | none => rw [q] at e; cases e
 | some j =>
  rw [q] at e;exact h.get e
theorem bz {ds : List D} {i : Int} (ha : E X m1 ρ a (.lst ds)) (hb : E X m2 ρ b (.int i)) (h : gS ds i = some d) (hs : jV b := by intro _ _; rfl) : E X m1 ρ (.Subscript a b pos) d :=
 PE.mono (zk B3 ha hb hs) fun σ H Q z0 => aO z0 fun Z oz en k => ⟨Z, oz, en, fun x H1 s1 i1 => ⟨Z, oz.same s1, en.same s1, fun y H2 s2 i2 => by
  obtain ⟨p, xs, rfl, l, j⟩ := ar.mp (In.same s2 i1);obtain ⟨v, e, iv⟩ := j.gS h;exact ⟨p, xs, i, v, rfl, au.mp (i2.plain (oz.same s1)), l.sq, e, k v H2 (s1.trans s2) iv⟩⟩⟩
theorem cG {ds : List D} {i : Int} (ha : E X m1 ρ a (.tup ds)) (hb : E X m2 ρ b (.int i)) (h : gS ds i = some d) (hs : jV b := by intro _ _; rfl) : E X m1 ρ (.Subscript a b pos) d :=
 PE.mono (zk Dt ha hb hs) fun σ H Q z0 => aO z0 fun Z oz en k => ⟨Z, oz, en, fun x H1 s1 i1 => ⟨Z, oz.same s1, en.same s1, fun y H2 s2 i2 => by
  obtain ⟨p, xs, rfl, l, j⟩ := aG (In.same s2 i1);obtain ⟨v, e, iv⟩ := j.gS h;exact ⟨p, xs, i, v, rfl, au.mp (i2.plain (oz.same s1)), l, e, k v H2 (s1.trans s2) iv⟩⟩⟩
theorem FT {z : Str} {i : Int} {cp : Nat} (ha : E X m1 ρ a (.str z)) (hb : E X m2 ρ b (.int i)) (hz : z.length <= sizeLine) (h : gS z.cps.toList i = some cp) (hs : jV b := by intro _ _; rfl) : E X true ρ (.Subscript a b pos) (.str ⟨#[cp]⟩) :=
 PE.mono (zk Dz ha hb hs) fun σ H Q z0 => aO z0 fun Z oz en k => two (ta := tE X.K m1 ρ (.str z)) (tb := tE X.K m2 ρ (.int i)) oz en fun x y H2 s i1 i2 =>
  ⟨z, i, cp, in_str.mp i1, au.mp i2, hz, h, k _ H2 s (in_str.mpr rfl)⟩
def EO (X : Cx) (ρ : List (Option D)) (e : Option Expr) (o : Option Int) : Prop := PO X e (fun σ H Q => ∃ Z : aA, Z.Open H /\ bM X.K H Z σ ρ /\ ∀ H', aq H H' -> Q o H')
theorem PO.mono {e : Option Expr} {t t' : TO} (h : PO X e t) (k : ∀ σ H Q, t' σ H Q -> t σ H Q) : PO X e t' := fun pins s σ H Q I q => h pins s σ H Q I (k σ H Q q)
theorem g7 : EO X ρ none none := PO.mono B7 fun σ H Q z0 => aO z0 fun Z oz en k => k H (aq.refl H)
theorem bT {i : Int} (h : E X m1 ρ e (.int i)) : EO X ρ (some e) (some i) := PO.mono (BM h) fun σ H Q z0 => aO z0 fun Z oz en k => ⟨Z, oz, en, fun v H1 s1 i1 => ⟨i, au.mp (i1.plain oz), k H1 s1⟩⟩
def cut {α : Type} (xs : List α) (lo hi : Option Int) : List α := (xs.drop (HT.m9 xs.length 0 lo)).take (HT.m9 xs.length xs.length hi - HT.m9 xs.length 0 lo)
theorem aH.cut {K : Frag} {H : Hp} {Z : aA} {ds : List D} {vs : List V} (h : aH K H Z ds vs) (lo hi : Option Int) : aH K H Z (cut ds lo hi) (ub vs lo hi) := by
 unfold Y.cut ub;rw [h.length];exact (h.drop _).take _
variable {lo hi : Option Expr} {l u : Option Int} {p2 : Pos}
theorem kr {ds : List D} (ha : E X m1 ρ a (.lst ds)) (hl : EO X ρ lo l) (hu : EO X ρ hi u) (hm : m = true -> m1 = true \/ aV (cut ds l u) = true := by intro h; first | exact .inl h | cases h) : E X m ρ (.Subscript a (.Slice lo hi none p2) pos) (.lst (cut ds l u)) :=
 PE.mono (rY BL ha hl hu) fun σ H Q z0 => aO z0 fun Z oz en k => ⟨Z, oz, en, fun x H1 s1 i1 => ⟨Z, oz.same s1, en.same s1, fun H2 s2 => ⟨Z, oz.same (s1.trans s2), en.same (s1.trans s2), fun H3 s3 => by
  have s := (s1.trans s2).trans s3;have i3 : In X.K H3 (out m1 Z H) (.lst ds) x := In.same (s2.trans s3) i1;obtain ⟨p, xs, rfl, lq, j⟩ := ar.mp i3;refine ⟨p, xs, rfl, lq.sq, fun q hq => k (.ref q) _ (s.trans (az hq)) (ar.mpr ⟨q, _, rfl, .inl ⟨ax, ?_⟩, ?_⟩)⟩
  . cases m
    . exact oz q (s.free hq)
    . exact s.free hq
  . have jc := (j.cut l u).same (az (o := .lst (ub xs l u)) hq);cases m
    . cases m1
      . exact jc
      . exact jc.up oz
    . rcases hm rfl with h | h
      . subst h; exact jc
      . exact jc.df h⟩⟩⟩
end
end Y
namespace Y
open PySem PySem.Spec PyProof.Rows L2
variable [b0]
def gX (cells : List (Str × Addr)) : List (Str × NameKind) -> List (Str × Addr) -> List (Str × Addr)
 | [], acc => acc
 | (n, k) :: r, acc => if k == .free then gX cells r ((n, (cells.lookup n).getD 0) :: acc) else gX cells r acc
theorem ke {cells : List (Str × Addr)} : ∀ {names : List (Str × NameKind)} {acc : List (Str × Addr)}, (∀ y ∈ names, y.2 = .free -> ∃ c, cells.lookup y.1 = some c) -> (∀ x c, acc.lookup x = some c -> cells.lookup x = some c) ->
 ∀ x c, (gX cells names acc).lookup x = some c -> cells.lookup x = some c
 | [], _, _, h2, x, c, e => h2 x c e
 | (n, k) :: r, acc, h1, h2, x, c, e => by
  unfold gX at e;by_cases hk : (k == NameKind.free) = true
  . rw [if_pos hk] at e;refine ke (fun y hy => h1 y (mem_cons_of_mem _ hy)) (fun y c' e' => ?_) x c e;obtain ⟨c0, e0⟩ := h1 (n, k) mem_cons_self (by simpa using hk);rw [lookup_cons] at e'
    cases hy : y == n with
    | true =>
     rw [hy] at e';simp at e';have : y = n := by simpa using hy
     subst this;rw [e0] at e' ⊢;simpa using e'
    | false =>
     rw [hy] at e';exact h2 y c' e'
  . rw [if_neg hk] at e;exact ke (fun y hy => h1 y (mem_cons_of_mem _ hy)) h2 x c e
theorem lr {cells : List (Str × Addr)} : ∀ {names : List (Str × NameKind)} {acc : List (Str × Addr)} {x : Str}, (∃ c, acc.lookup x = some c) -> ∃ c, (gX cells names acc).lookup x = some c
 | [], _, _, h => h
 | (n, k) :: r, acc, x, h => by
  unfold gX;by_cases hk : (k == NameKind.free) = true
  . rw [if_pos hk];refine lr ?_;rw [lookup_cons]
    cases hy : x == n with
    | true => exact ⟨_, rfl⟩
    | false => exact h
  . rw [if_neg hk]; exact lr h
theorem iD {cells : List (Str × Addr)} : ∀ {names : List (Str × NameKind)} {acc : List (Str × Addr)} {x : Str}, (x, NameKind.free) ∈ names -> ∃ c, (gX cells names acc).lookup x = some c
 | [], _, _, h => by cases h
 | (n, k) :: r, acc, x, h => by
  unfold gX;rcases mem_cons.mp h with e | h
  . cases e;rw [if_pos (by decide)];exact lr ⟨(cells.lookup n).getD 0, by rw [lookup_cons]; simp⟩
  . by_cases hk : (k == NameKind.free) = true
    . rw [if_pos hk]; exact iD h
    . rw [if_neg hk]; exact iD h
theorem lI {scope : Scope} {env : Env} (h : ∀ y ∈ scope.names, y.2 = .free -> ∃ c, env.cells.lookup y.1 = some c) : closureFor scope env = pure (gX env.cells scope.names []) := by
 have key : ∀ (names : List (Str × NameKind)) (acc : List (Str × Addr)), (∀ y ∈ names, y.2 = .free -> ∃ c, env.cells.lookup y.1 = some c) ->
  (forIn names acc fun (x : Str × NameKind) (cs : List (Str × Addr)) => (match x with
   | (name, kind) => if (kind == NameKind.free) = true then do let a <- cellOf env name; pure (ForInStep.yield ((name, a) :: cs)) else pure (ForInStep.yield cs)) : Sem (List (Str × Addr))) = pure (gX env.cells names acc) := by
  intro names
  induction names with
  | nil => intro acc _; rfl
  | cons y r ih =>
   intro acc hy;obtain ⟨n, k⟩ := y;rw [List.forIn_cons];unfold gX;by_cases hk : (k == NameKind.free) = true
   . obtain ⟨c, e⟩ := hy (n, k) mem_cons_self (by simpa using hk);have e1 : cellOf env n = pure c := by unfold cellOf; rw [e]
     simp only [hk, if_true, e1, pure_bind];rw [ih _ fun z hz => hy z (mem_cons_of_mem _ hz), e];rfl
   . simp only [hk, if_false, pure_bind];exact ih _ fun z hz => hy z (mem_cons_of_mem _ hz)
 unfold closureFor;have k := key scope.names [] h
 first
  | (simp only [bind_pure]; exact k)
  | (rw [k]; rfl)
  | exact k
theorem fq {env : Env} {P : NameKind -> Prop} (hP : P .free -> P .cell) : ∀ {names : List (Str × NameKind)} {x : Str} {k : NameKind}, names.lookup x = some k -> P k ->
 ∃ k', (names.map fun (n, k) => if (k == NameKind.free && env.scope.kind == .function && env.kindOf n == some .cell) then (n, NameKind.cell) else (n, k)).lookup x = some k' /\ P k'
 | [], _, _, h, _ => by simp at h
 | (n, k0) :: r, x, k, h, p => by
  have ih := @fq env P hP r x k;show ∃ k', List.lookup x ((if (k0 == NameKind.free && env.scope.kind == .function && env.kindOf n == some .cell) = true then (n, NameKind.cell) else (n, k0)) :: _) = some k' /\ P k'
  cases hx : x == n with
  | true =>
   simp only [lookup_cons, hx] at h;have hk : k0 = k := Option.some.inj h;subst hk;by_cases hc : (k0 == NameKind.free && env.scope.kind == .function && env.kindOf n == some .cell) = true
   . rw [if_pos hc]; simp only [lookup_cons, hx];refine ⟨_, rfl, ?_⟩;have : k0 = .free := by simp at hc; exact hc.1.1
     subst this;exact hP p
   . rw [if_neg hc]; simp only [lookup_cons, hx]; exact ⟨_, rfl, p⟩
  | false =>
   simp only [lookup_cons, hx] at h;by_cases hc : (k0 == NameKind.free && env.scope.kind == .function && env.kindOf n == some .cell) = true
   . rw [if_pos hc]; simp only [lookup_cons, hx]; exact ih h p
   . rw [if_neg hc]; simp only [lookup_cons, hx]; exact ih h p
theorem fi {env : Env} : ∀ {names : List (Str × NameKind)} {x : Str} {k' : NameKind}, (names.map fun (n, k) => if (k == NameKind.free && env.scope.kind == .function && env.kindOf n == some .cell) then (n, NameKind.cell) else (n, k)).lookup x = some k' ->
 ∃ k, (x, k) ∈ names /\ (k' = k \/ k = .free)
 | [], _, _, h => by simp at h
 | (n, k0) :: r, x, k', h => by
  have ih := @fi env r x k';have h' : List.lookup x ((if (k0 == NameKind.free && env.scope.kind == .function && env.kindOf n == some .cell) = true then (n, NameKind.cell) else (n, k0)) :: (r.map fun (n, k) => if (k == NameKind.free && env.scope.kind == .function && env.kindOf n == some .cell) then (n, NameKind.cell) else (n, k))) = some k' := h
  cases hx : x == n with
  | true =>
   have hxn : x = n := by simpa using hx
   subst hxn;by_cases hc : (k0 == NameKind.free && env.scope.kind == .function && env.kindOf x == some .cell) = true
   . have : k0 = .free := by simp at hc; exact hc.1.1
     exact ⟨k0, mem_cons_self, .inr this⟩
   . rw [if_neg hc] at h'; simp only [lookup_cons, hx] at h';cases h';exact ⟨k0, mem_cons_self, .inl rfl⟩
  | false =>
   have h2 : List.lookup x (r.map fun (n, k) => if (k == NameKind.free && env.scope.kind == .function && env.kindOf n == some .cell) then (n, NameKind.cell) else (n, k)) = some k' := by
    by_cases hc : (k0 == NameKind.free && env.scope.kind == .function && env.kindOf n == some .cell) = true
    . rw [if_pos hc] at h'; simp only [lookup_cons, hx] at h'; exact h'
    . rw [if_neg hc] at h'; simp only [lookup_cons, hx] at h'; exact h'
   obtain ⟨k, a, b⟩ := ih h2;exact ⟨k, mem_cons_of_mem _ a, b⟩
def ng (X : Cx) : List Str -> List Nat -> Prop
 | [], [] => True
 | y :: ys, j :: js => (X.N[j]? = some y /\ (X.env.scope.names.lookup y = some .cell \/ X.env.scope.names.lookup y = some .free)) /\ ng X ys js
 | _, _ => False
theorem ng.at {X : Cx} : ∀ {caps : Ie} {js : Ih}, ng X caps js -> ∀ (k : Nat) y j, caps[k]? = some y -> js[k]? = some j -> X.N[j]? = some y /\ (X.env.scope.names.lookup y = some .cell \/ X.env.scope.names.lookup y = some .free)
 | [], _, _, _, _, _, e, _ => by simp at e
 | _ :: _, [], h, _, _, _, _, _ => by exact False.elim h
 | y :: ys, j :: js, h, 0, _, _, e1, e2 => by simp at e1 e2; subst e1 e2; exact h.1
 | y :: ys, j :: js, h, k + 1, y', j', e1, e2 => h.2.at k y' j' (by simpa using e1) (by simpa using e2)
theorem ng.len {X : Cx} : ∀ {caps : Ie} {js : Ih}, ng X caps js -> js.length = caps.length
 | [], [], _ => rfl
 | [], _ :: _, h => False.elim h
 | _ :: _, [], h => False.elim h
 | _ :: _, _ :: _, h => by simp [h.2.len]
structure bN (X : Cx) (scope : Scope) (own caps : Ie) (js : Ih) : Prop where
 kind : scope.kind = .function
 nocell : ∀ y ∈ scope.names, y.2 ≠ .cell
 names : ∀ y ∈ scope.names, y.2 = .local -> scope.names.lookup y.1 = some .local
 nd : (own ++ caps).Nodup
 own : ∀ y ∈ own, scope.names.lookup y = some .local
 capf : ∀ y ∈ caps, (y, NameKind.free) ∈ scope.names /\ scope.names.lookup y = some .free
 capO : ng X caps js
 free : ∀ y ∈ scope.names, y.2 = .free -> y.1 ∈ caps
def bp (X : Cx) (N' : Ie) (scope : Scope) (C : Addr) (s : Shared) (H : Hp) (fp : List Addr) : Cx :=
 { X with N := N', s₀ := s, H₀ := H, env := compEnvC scope (gX X.env.cells scope.names []) C X.env, outer := X.stack, ex := fp, fn := fun _ => false, pn := [], xe := fun _ _ => False }
def bF (js : Ih) (σ : St) : St := js.map fun j => (σ[j]?).join
section
variable {X : Cx} {pins : HZ} {σ : St} {H H' : Hp} {s : Shared} {scope : Scope} {own caps : Ie} {js : Ih} {fp : List Addr}
theorem bN.cells (B : bN X scope own caps js) (ok : X.Ok) : ∀ y ∈ scope.names, y.2 = .free -> ∃ c, X.env.cells.lookup y.1 = some c := fun y hy hf => by
 obtain ⟨k, hk⟩ := List.getElem?_of_mem (B.free y hy hf);have hj : k < js.length := by rw [B.capO.len]; exact (List.getElem?_eq_some_iff.mp hk).1
 obtain ⟨_, h⟩ := B.capO.at k y.1 js[k] hk (by simp [hj]);exact ok.has y.1 h
theorem Bi (B : bN X scope own caps js) (I : Inv X pins σ H s) (hf : ∀ b ∈ fp, gT X pins H b) (ho : ∀ b ∈ fp, b < s.heap.objs.size) {h4 : Heap} {tk : Nat}
 (hn : h4.Ns (s.heap.objs.size + 1) (fun _ => none)) (hk : ∀ b o, s.heap.get? b = some o -> h4.get? b = some o)
 (hl : h4.get? s.heap.objs.size = some { cls := .type "list", data := .seq ([] : HW).toArray 0 }) :
 Inv (bp X (own ++ caps) scope (s.heap.objs.size + 1) s H fp) [] (own.map (fun _ => none) ++ bF js σ) (upd H s.heap.objs.size (.lst [])) { s with heap := h4, toks := tk } := by
 have fresh : H s.heap.objs.size = none := I.hok.fresh (Nat.le_refl _);have freshC : H (s.heap.objs.size + 1) = none := I.hok.fresh (Nat.le_succ _);have hcl := B.cells I.ok;have sub := ke (acc := []) hcl (fun x c e => by simp at e);have ok' : (bp X (own ++ caps) scope (s.heap.objs.size + 1) s H fp).Ok := by
  refine ⟨I.ok.mod, B.kind, I.ok.glob, I.ok.blt, Nat.le_succ _, fun x y c h1 h2 => I.ok.inj x y c (sub x c h1) (sub y c h2), fun x hx => ?_, fun x c hx => (nomatch hx), I.ok.hd, I.ok.frames, .inl rfl, fun b hb => ⟨?_, fun x c e => ?_⟩, I.bs, Nat.le_trans I.ok.bsz I.sz, fun b o e hb => ?_, fun b hb hs => ?_, I.stack, I.uH⟩
  . have hx' : ∃ k', (scope.names.map fun (n, k) => if (k == NameKind.free && X.env.scope.kind == .function && X.env.kindOf n == some .cell) then (n, NameKind.cell) else (n, k)).lookup x = some k' /\ (k' = .cell \/ k' = .free) := by
     rcases hx with e | e
     . exact ⟨_, e, .inl rfl⟩
     . exact ⟨_, e, .inr rfl⟩
    obtain ⟨k', e, hk'⟩ := hx';obtain ⟨k, hm, q⟩ := fi e;have hfree : k = .free := by
     rcases q with q | q
     . subst q;rcases hk' with z | z
       . exact absurd z (B.nocell _ hm)
       . exact z
     . exact q
    subst hfree;exact iD hm
  . exact Nat.ne_of_lt (Nat.lt_succ_of_lt (ho b hb))
  . exact (hf b hb).2.2.2.2.1 x c (sub x c e)
  . rcases (hf b hb).2.2.2.1 with z | z
    . exact I.ok.noex b o e z
    . exact absurd (Nat.lt_of_lt_of_le (lt_size e) (Nat.le_trans I.ok.bsz z)) (Nat.lt_irrefl _)
  . rcases mem_cons.mp (I.tD b hs) with z | z
    . exact (hf b hb).2.1 z
    . exact (hf b hb).2.2.1 z
 refine ⟨ok', rfl, I.bare, Un.laid hk (Nat.le_refl _) fresh, ⟨_, hn, fun i x v e1 e2 e3 => ?_⟩, fun x c e => ?_, ?_, fun x c e => ?_, fun p hp => absurd (show p ∈ ([] : HZ) from hp) (by simp), I.hok.laid hk (Nat.le_refl _) ⟨Nat.zero_le _, [], 0, .nil, hl⟩, ?_⟩
 . have e1 : (own ++ caps)[i]? = some x := e1;have hi : ¬ i < own.length := fun hi => by
    rw [getElem?_append_left (by simpa using hi), getElem?_map] at e2
    cases q : own[i]? with
    | none => rw [q] at e2; cases e2
    | some y => rw [q] at e2; cases e2
   rw [getElem?_append_right (by simpa using hi)] at e2;rw [getElem?_append_right (by simpa using hi)] at e1;rw [length_map] at e2;unfold bF at e2;rw [getElem?_map] at e2
   cases q : js[i - own.length]? with
   | none => rw [q] at e2; cases e2
   | some j =>
    rw [q] at e2;have e2 : (σ[j]?).join = some v := by simpa using e2
    have e2' : σ[j]? = some (some v) := by
     cases z : σ[j]? with
     | none => rw [z] at e2; cases e2
     | some w => rw [z] at e2; simpa using e2
    obtain ⟨c1, c2⟩ := B.capO.at _ x j e1 q;obtain ⟨m, _, hl'⟩ := I.loc;obtain ⟨u, r, lk⟩ := hl' j x v c1 e2' (c2.elim (fun z => .inr (.inl z)) fun z => .inr (.inr z));refine ⟨u, r, ?_⟩;rcases lk with ⟨z, _⟩ | ⟨_, c, ec, cell⟩
    . have z : X.env.scope.names.lookup x = some .local := z;rcases c2 with c2 | c2 <;> (rw [c2] at z; cases z)
    . have hfr := B.capf x (mem_of_getElem? e1);obtain ⟨k', ek, pk⟩ := fq (env := X.env) (P := fun k => k = .cell \/ k = .free) (fun _ => .inl rfl) hfr.2 (.inr rfl);refine .inr ⟨?_, c, ?_, ?_⟩
      . rcases pk with rfl | rfl
        . exact .inl ek
        . exact .inr ek
      . obtain ⟨c', e'⟩ := iD (cells := X.env.cells) (acc := []) hfr.1;have := sub x c' e';rw [ec] at this;cases this;exact e'
      . obtain ⟨oo, ho', hd'⟩ := cell;exact ⟨oo, hk _ _ ho', hd'⟩
 . obtain ⟨v, oo, ho', hd'⟩ := I.cell x c (sub x c e);exact ⟨v, oo, hk _ _ ho', hd'⟩
 . show (upd H s.heap.objs.size (.lst [])) (s.heap.objs.size + 1) = none;rw [ag (Nat.succ_ne_self _)]; exact freshC
 . obtain ⟨v, oo, ho', hd'⟩ := I.cell x c (sub x c e);rw [ag (Nat.ne_of_lt (lt_size ho'))];exact I.freeC x c (sub x c e)
 . show _ = (own ++ caps).length;unfold bF;rw [List.length_append, List.length_append, length_map, length_map, B.capO.len]
theorem xv {C : Addr} {σ' : St} {pl : HZ} {s' : Shared} {h' : Heap} (I : Inv X pins σ H s) (hf : ∀ b ∈ fp, gT X pins H b) (I' : Inv (bp X (own ++ caps) scope C s H fp) pl σ' H' s') (hC : s.heap.objs.size <= C) (hs : Heap.SameBut C s'.heap h') :
 Inv X pins σ H' { s' with heap := h' } := by
 have neC : ∀ b o, s.heap.get? b = some o -> b ≠ C := fun b o e => Nat.ne_of_lt (Nat.lt_of_lt_of_le (lt_size e) hC);have freeC : H' C = none := I'.free;have b' : Un (oR X.stack) fp H H' s.heap s'.heap := I'.base;refine I.FL (s' := { s' with heap := h' }) (ch := fp) I'.os ⟨fun b o e n hb hx => (hs.2 b (neC b o e)).trans (b'.keep b o e n hb hx), fun b o e n hb hx => ?_, b'.free, fun b o e hx => ?_, b'.tups, b'.frzs, b'.tbls⟩ (fun b ob e => ?_) I'.bare fun b hb => ?_
 . obtain ⟨sl, e1⟩ := b'.slot b o e n hb hx;exact ⟨sl, (hs.2 b (neC b o e)).trans e1⟩
 . obtain ⟨o', e1⟩ := b'.there b o e hx;exact ⟨o', (hs.2 b (neC b o e)).trans e1⟩
 . refine (I'.hok b ob e).lT (fun c w' hc q => (hs.2 c ?_).trans q) (fun _ q => q) fun _ _ q => q;rintro rfl;rcases hc with rfl | hc
   . rw [freeC] at e; cases e
   . rw [freeC] at hc; cases hc
 . exact ⟨(hf b hb).2.2.2.1, (hf b hb).2.1, (hf b hb).2.2.2.2.1, (hf b hb).2.2.2.2.2⟩
end
theorem sure {α : Type} {M : Model} {A : Around} {m : Sem α} {P Q : α -> Shared -> Prop} {E : HR} {s : Shared} (h : wpAny M A m P (fun _ _ => False) s) (k : ∀ a s, P a s -> Q a s) : wpAny M A m Q E s := wpAny_mono h k fun _ _ f => f.elim
def Cs (X : Cx) (ifs : List Expr) (t : TT) : Prop := ∀ (pins : HZ) (s : Shared) (σ : St) (H : Hp) (Q : Bool -> Hp -> Prop), Inv X pins σ H s -> t σ H Q ->
 wpAny (model X.prog X.w) X.A (forIn ifs true fun c r => if r = true then do let ok <- isTrue c X.env (eval c X.env); pure (ForInStep.yield ok) else pure (ForInStep.yield r)) (TP X pins σ Q) X.xe s
theorem BV {X : Cx} : Cs X [] (fun _ H Q => Q true H) := fun pins s σ H Q I h => wpAny_tests_nil ⟨H, I, h⟩
theorem BE {X : Cx} {c : Expr} {t : TT} (h : PT X c t) : Cs X [c] t := fun pins s σ H Q I q => wpAny_tests_one (h pins s σ H Q I q)
def vm (wi : TI) (n : Nat) (js : Ih) (g : TG) (tc : Nat -> TT) (te : Nat -> TE) : TE := fun σ H Q => wi σ H fun J H1 => ∀ l, H1 l = none ->
 ∃ W : Nat -> Nat -> List V -> Hp -> Prop, (∃ m, W 0 m [] (upd H1 l (.lst []))) /\ ∀ i m xs H ow, ow.length = n -> W i m xs H -> H l = some (.lst xs) /\
  ((J.stop i H /\ Q (.ref l) H) \/ (J.go i H /\ ∀ x H', J.yld i H x H' -> g x (ow ++ bF js σ) H' fun σ2 H2 => (∃ ow', ow'.length = n /\ σ2 = ow' ++ bF js σ) /\
   tc i σ2 H2 fun b H3 => if b = true then te i σ2 H3 fun y H4 => H4 l = some (.lst xs) /\ xs.length < sizeLine /\ ∃ m', m' < m /\ W (i + 1) m' (xs ++ [y]) (upd H4 l (.lst (xs ++ [y])))
    else ∃ m', m' < m /\ W (i + 1) m' xs H3))
def CompEnd (X : Cx) (pins : HZ) (σ : St) (Q : VK) (acc : Value) (C : Addr) (s' : Shared) : Prop :=
 ∃ v H', Inv X pins σ H' s' /\ RelV v acc /\ Q v H' /\ (∃ m, s'.heap.Ns C m) /\ gT X pins H' C
theorem nh {X : Cx} {elt tg iter : Expr} {ifs : List Expr} {scope : Scope} {pos : Pos} {own caps : Ie} {js : Ih} {g : TG} {tc : Nat -> TT} {te : Nat -> TE} (hc : X.calm = true) (B : bN X scope own caps js)
 (hg : ∀ C s H fp, PG (bp X (own ++ caps) scope C s H fp) tg g) (ht : ∀ C s H fp i, Cs (bp X (own ++ caps) scope C s H fp) ifs (tc i)) (he : ∀ C s H fp i, PE (bp X (own ++ caps) scope C s H fp) elt (te i))
 {pins : HZ} {σ : St} {Q : VK} {itv : Value} {s2 : Shared} {RR : Value -> Addr -> Result -> Shared -> Prop} (hRR : ∀ acc C s', CompEnd X pins σ Q acc C s' -> RR acc C (.ok .next) s')
 (h2 : GG X pins σ tg (fun J H1 => ∀ l, H1 l = none ->
  ∃ W : Nat -> Nat -> List V -> Hp -> Prop, (∃ m, W 0 m [] (upd H1 l (.lst []))) /\ ∀ i m xs H ow, ow.length = own.length -> W i m xs H -> H l = some (.lst xs) /\
   ((J.stop i H /\ Q (.ref l) H) \/ (J.go i H /\ ∀ x H', J.yld i H x H' -> g x (ow ++ bF js σ) H' fun σ2 H2 => (∃ ow', ow'.length = own.length /\ σ2 = ow' ++ bF js σ) /\
    tc i σ2 H2 fun b H3 => if b = true then te i σ2 H3 fun y H4 => H4 l = some (.lst xs) /\ xs.length < sizeLine /\ ∃ m', m' < m /\ W (i + 1) m' (xs ++ [y]) (upd H4 l (.lst (xs ++ [y])))
     else ∃ m', m' < m /\ W (i + 1) m' xs H3))) itv s2) :
 wpAny (model X.prog X.w) X.A (newList []) (fun acc s₃ => wpAny (model X.prog X.w) X.A (newFunctionEnv scope X.env.globals (gX X.env.cells scope.names []) [] X.env.qual none .none (some X.env)) (fun cenv s₄ =>
  codeAny (model X.prog X.w) X.A (.compStart (.ListComp elt [⟨tg, iter, ifs, 0⟩] scope pos) 0 itv acc { cenv with scope := relabel scope X.env }) (RR acc cenv.locals) s₄) X.xe s₃) X.xe s2 := by
 obtain ⟨it, fp, tn, J, H2, e, I2, TT, st2, f2, q⟩ := h2;subst e;have fresh : H2 s2.heap.objs.size = none := I2.hok.fresh (Nat.le_refl _);obtain ⟨W, ⟨m0, w0⟩, turn⟩ := q s2.heap.objs.size fresh;have hlt : ∀ b ∈ fp, b < s2.heap.objs.size := fun b hb => let ⟨o, e, _⟩ := TT.obj _ _ st2 b hb; lt_size e;refine wpAny_newObj_type (wpAny_newFunctionEnv B.nocell (by intro y hy; simp at hy) (fun h₁ hns₁ hsb₁ => ?_) B.kind);dsimp only at hns₁ hsb₁ ⊢;generalize hH2 : s2.heap.push { cls := .type "list", dict := none, data := .seq ([] : HW).toArray } = H3 at hns₁ hsb₁ ⊢;have hC : H3.objs.size = s2.heap.objs.size + 1 := by rw [<- hH2, Heap.size_push]
 have old : ∀ b o, s2.heap.get? b = some o -> h₁.get? b = some o := fun b o e => hsb₁.extBut b o (by rw [hC]; exact Nat.ne_of_lt (Nat.lt_succ_of_lt (lt_size e))) (get?_push_of_some _ (hH2 ▸ get?_push_of_some _ e));have hacc : h₁.get? s2.heap.objs.size = some { cls := .type "list", data := .seq ([] : HW).toArray 0 } :=
  hsb₁.extBut _ _ (by rw [hC]; exact Nat.ne_of_lt (Nat.lt_succ_self _)) (get?_push_of_some _ (hH2 ▸ get?_push_size _ rfl))
 have hns : h₁.Ns (s2.heap.objs.size + 1) (fun _ => none) := by rw [<- hC]; exact hns₁
 have I4 : ∀ tk, Inv (bp X (own ++ caps) scope (s2.heap.objs.size + 1) s2 H2 fp) [] (own.map (fun _ => none) ++ bF js σ) (upd H2 s2.heap.objs.size (.lst [])) { s2 with heap := h₁, toks := tk } := fun tk => Bi B I2 f2 hlt hns old hacc;rw [hC]
 -- what stays of the iterator
 have stat : ∀ {H' : Hp}, (∀ b ∈ fp, H' b = none) -> ∀ b ∈ fp, gT (bp X (own ++ caps) scope (s2.heap.objs.size + 1) s2 H2 fp) [] H' b := fun {H'} hn b hb => by
  have F := (I4 0).ok;exact ⟨hn b hb, (F.exf b hb).1, F.exfs b hb, .inl hb, (F.exf b hb).2, fun p hp => absurd (show p ∈ ([] : HZ) from hp) (by simp)⟩
 have loop : ∀ s3 : Shared, s3 = { s2 with heap := h₁, toks := s2.toks + ([] : List (Str × Value)).length } ->
  codeAny (model X.prog X.w) X.A (.compLoop (.ListComp elt [⟨tg, iter, ifs, 0⟩] scope pos) 0 (.ref it) (.ref s2.heap.objs.size) (compEnvC scope (gX X.env.cells scope.names []) (s2.heap.objs.size + 1) X.env))
   (RR (.ref s2.heap.objs.size) (s2.heap.objs.size + 1)) s3 := by
  rintro s3 rfl;refine codeAny_loop rfl (fun n s' => ∃ i xs ow H', ow.length = own.length /\ Inv (bp X (own ++ caps) scope (s2.heap.objs.size + 1) s2 H2 fp) [] (ow ++ bF js σ) H' s' /\ tn i s'.heap /\ (∀ b ∈ fp, H' b = none) /\ W i n xs H') ?_ m0
   ⟨0, [], own.map (fun _ => none), _, by simp, I4 _, TT.keep _ _ _ st2 fun b _ o e => old b o e, fun b hb => by rw [ag (Nat.ne_of_lt (hlt b hb))]; exact (f2 b hb).1, w0⟩
  rintro n s4 ⟨i, xs, ow, H4, how, I5, st4, fr4, w4⟩;obtain ⟨hl4, q4⟩ := turn i n xs H4 ow how w4;refine wpAny_noted ?_;refine cast (congrArg (fun m => wpAny (model X.prog X.w) X.A m _ _ s4) (compTurn_list _ _ _ _ _ _ _ _ _).symm) ?_;refine wpAny_bind (wpAny_standAt (wpAny_bind ?_));rcases q4 with ⟨stop, qn⟩ | ⟨go, step⟩
  . refine sure (TT.done (bp X (own ++ caps) scope (s2.heap.objs.size + 1) s2 H2 fp) rfl rfl rfl hc i [] s4 _ H4 _ I5 (stat fr4) st4 stop) fun r s6 ⟨hr, I6⟩ => ?_;subst hr;obtain ⟨m, hm, _⟩ := I6.loc;refine wpAny_pure (hRR _ _ _ ⟨.ref s2.heap.objs.size, H4, xv I2 f2 I6 (Nat.le_succ _) (Heap.SameBut.refl ..), rfl, qn, ⟨m, hm⟩, I2.pK (Nat.le_succ _) I6.free⟩)
  . refine sure (TT.item (bp X (own ++ caps) scope (s2.heap.objs.size + 1) s2 H2 fp) rfl rfl rfl hc i [] s4 _ H4 (fun _ _ => False) I5 (stat fr4) st4 go) fun r s6 ⟨u, hr, h6⟩ => ?_;subst hr;refine wpAny_bind (sure h6 fun _ s7 ⟨x, H7, I7, r7, y7, st7, fr7⟩ => ?_);have I7' := I7.pinned (stat fr7) (TT.obj _ _ st7);refine wpAny_bind (sure (hg _ _ _ _ _ s7 _ H7 x u _ I7' r7 (step x H7 y7)) fun _ s8 ⟨σ8, H8, I8, ⟨ow', how', eσ⟩, q8⟩ => ?_);subst eσ;refine wpAny_bind (sure (ht _ _ _ _ i _ s8 _ H8 _ I8 q8) fun b s9 ⟨H9, I9, q9⟩ => ?_);have again : ∀ {H10 : Hp} {s10 : Shared}, Inv (bp X (own ++ caps) scope (s2.heap.objs.size + 1) s2 H2 fp) ([] ++ jY fp s7.heap) (ow' ++ bF js σ) H10 s10 -> tn (i + 1) s10.heap /\ ∀ b ∈ fp, H10 b = none := fun {H10 s10} I10 => by
     refine ⟨TT.keep _ _ _ st7 fun b hb o e => (I10.pin (b, o) (mem_append_right _ (mem_append_right _ (eI hb e)))).1, fun b hb => ?_⟩;obtain ⟨o, e, d⟩ := TT.obj _ _ st7 b hb;exact (I10.pin (b, o) (mem_append_right _ (mem_append_right _ (eI hb e)))).2.1
    cases b with
    | false =>
     rw [if_neg Bool.false_ne_true] at q9;obtain ⟨m', hm, w9⟩ := q9;exact wpAny_pure ⟨rfl, m', hm, i + 1, xs, ow', H9, how', I9.fw, (again I9).1, (again I9).2, w9⟩
    | true =>
     rw [if_pos rfl] at q9;refine wpAny_bind (wpAny_bind (sure (he _ _ _ _ i _ s9 _ H9 _ I9 q9) fun y s10 ⟨z, H10, I10, r10, hl10, hz, m', hm, w10⟩ => wpAny_bind ?_));refine sure (iS _ s10 _ H10 (.ref s2.heap.objs.size) [z] (.ref s2.heap.objs.size) [y] (fun _ H' => H' = upd H10 s2.heap.objs.size (.lst (xs ++ [z]))) I10 rfl (.cons r10 .nil) ⟨_, xs, z, rfl, rfl, hl10, hz, rfl⟩) fun _ s11 ⟨_, H11, I11, _, e11⟩ => ?_;subst e11;exact wpAny_pure (wpAny_pure ⟨rfl, m', hm, i + 1, xs ++ [z], ow', _, how', I11.fw, (again I11).1, (again I11).2, w10⟩)
 exact codeAny_compStart_list (loop _ rfl) (TT.self _ 0 _ _ _ (TT.keep _ _ _ st2 fun b _ o e => old b o e) (loop _ rfl))
theorem away {X : Cx} {pins : HZ} {σ : St} {H : Hp} {s : Shared} {C : Addr} {h' : Heap} (I : Inv X pins σ H s) (f : gT X pins H C) (hs : Heap.SameBut C s.heap h') : Inv X pins σ H { s with heap := h' } :=
 I.turned (t' := s.toks) (fun b o hb e => (hs.2 b hb).trans e) f.1 f.2.1 f.2.2.2.1 f.2.2.2.2.1 f.2.2.2.2.2
theorem uL {X : Cx} {elt tg iter : Expr} {ifs : List Expr} {scope : Scope} {pos : Pos} {wi : TI} {own caps : Ie} {js : Ih} {g : TG} {tc : Nat -> TT} {te : Nat -> TE} (hc : X.calm = true) (B : bN X scope own caps js) (hi : PI X tg iter wi)
 (hg : ∀ C s H fp, PG (bp X (own ++ caps) scope C s H fp) tg g) (ht : ∀ C s H fp i, Cs (bp X (own ++ caps) scope C s H fp) ifs (tc i)) (he : ∀ C s H fp i, PE (bp X (own ++ caps) scope C s H fp) elt (te i))
 (hs : ∀ x, foldedSetIterable iter X.env x = pure x := by intro _; rfl) : PE X (.ListComp elt [⟨tg, iter, ifs, 0⟩] scope pos) (vm wi own.length js g tc te) := by
 intro pins s σ H Q I h;rw [eval_ListComp];refine wpAny_comprehension_free (use := none) rfl hs (lI (B.cells I.ok)) B.kind B.names (ck (hi pins s σ H _ I h) fun v s1 h1 => ck h1 fun itv s2 h2 => ?_);refine nh (RR := fun acc C => compPost (model X.prog X.w) X.A X.xe none (EP X pins σ Q) acc C) hc B hg ht he (fun acc C s' ⟨v, H', I', r, q, ⟨m, hm⟩, f⟩ => ?_) h2;exact ⟨m, hm, fun h' hs' => ⟨v, H', away I' f hs', r, q⟩⟩
theorem vp {X : Cx} {elt tg iter : Expr} {ifs : List Expr} {scope : Scope} {pos spos py : Pos} {wi : TI} {own caps : Ie} {js : Ih} {g : TG} {tc : Nat -> TT} {te : Nat -> TE} {y : Str} {k : Nat} (hN : X.N.Nodup) (hk : X.N[k]? = some y) (hy : Loc X.env.scope y)
 (hc : X.calm = true) (B : bN X scope own caps js) (hi : PI X tg iter wi)
 (hg : ∀ C s H fp, PG (bp X (own ++ caps) scope C s H fp) tg g) (ht : ∀ C s H fp i, Cs (bp X (own ++ caps) scope C s H fp) ifs (tc i)) (he : ∀ C s H fp i, PE (bp X (own ++ caps) scope C s H fp) elt (te i))
 (hsw : swapsWith (.ListComp elt [⟨tg, iter, ifs, 0⟩] scope pos) (some (.Name y py)) spos.line X.env = pure true) (hf : X.fn y = true \/ X.env.scope.names.lookup y = some .local)
 (hs : ∀ x, foldedSetIterable iter X.env x = pure x := by intro _; rfl) : PS X (.Assign [.Name y py] (.ListComp elt [⟨tg, iter, ifs, 0⟩] scope pos) spos) (C7 (vm wi own.length js g tc te) (dZ k)) := by
 intro pins s σ H D I h;rw [exec_Assign_Name_used _ _ _ _ hsw];refine wpAny_bind (wpAny_standAt (wpAny_bind ?_));show wpAny _ X.A (do let _ <- comprehension (.ListComp elt [⟨tg, iter, ifs, 0⟩] scope pos) scope X.env _ (newList []) false (eval iter X.env) (some (assign (.Name y py) X.env))) _ _ s;refine wpAny_bind (wpAny_mono (wpAny_comprehension_free (use := some (assign (.Name y py) X.env)) (Q := fun _ s' => SP X pins D .next s') rfl hs (lI (B.cells I.ok)) B.kind B.names
  (ck (hi pins s σ H _ I h) fun v s1 h1 => ck h1 fun itv s2 h2 => ?_)) (fun _ s' hq => wpAny_pure (wpAny_pure hq)) fun _ _ e => e)
 refine nh (RR := fun acc C => compPost (model X.prog X.w) X.A X.xe (some (assign (.Name y py) X.env)) (fun _ s' => SP X pins D .next s') acc C) (pins := pins) (σ := σ) (Q := fun v H' => D.nx (σ.set k (some v)) H') hc B hg ht he (fun acc C s' ⟨v, H', I', r, q, ⟨m, hm⟩, f⟩ => ?_) h2;show wpAny _ X.A (assign (.Name y py) X.env acc) _ _ _;refine wpAny_assign_Name (mB I' hN hk hy r (fun s'' I'' ⟨a, sb, ha⟩ => ?_) hf);have hCa : C ≠ a := by
  rcases ha with rfl | ha
  . exact f.2.1
  . exact fun z => f.2.2.2.2.1 y a ha z.symm
 exact ⟨m, hm.sameBut sb hCa, fun h' hs' => ⟨_, H', away I'' f hs', q⟩⟩
structure yu (K : Frag) (J : It) (vs : List V) (cW ds : List D) : Prop where
 go : ∀ (Z : aA) H, Z.Open H -> aH K H Z cW vs -> ∀ (i : Nat) d, ds[i]? = some d -> J.go i H /\ ∀ x H2, J.yld i H x H2 -> aq H H2 /\ In K H2 Z d x
 stop : ∀ (Z : aA) H, Z.Open H -> aH K H Z cW vs -> J.stop ds.length H
def Gz (K : Frag) (m : Bool) (ρ : List (Option D)) (ds : List D) : TI := fun σ H R => ∃ Z : aA, Z.Open H /\ bM K H Z σ ρ /\
 ∀ J H' vs cW, aq H H' -> aH K H' (out m Z H) cW vs -> yu K J vs cW ds -> R J H'
def IT (X : Cx) (tg : Expr) (m : Bool) (ρ : List (Option D)) (iter : Expr) (ds : List D) : Prop := PI X tg iter (Gz X.K m ρ ds)
theorem PI.mono {X : Cx} {tg iter : Expr} {t t' : TI} (h : PI X tg iter t) (k : ∀ σ H R, t' σ H R -> t σ H R) : PI X tg iter t' := fun pins s σ H R I q => h pins s σ H R I (k σ H R q)
section
variable {X : Cx} {ρ : List (Option D)} {m m1 m2 : Bool} {tg e a b : Expr} {ds : List D} {d : D} {pos p : Pos}
theorem cE (h : E X m ρ e (.lst ds)) : IT X tg m ρ e ds := PI.mono (A2 h) fun σ H R z0 => aO z0 fun Z oz en k => ⟨Z, oz, en, fun v H1 s1 i1 => by
 obtain ⟨a, xs, rfl, l, j⟩ := ar.mp i1;refine ⟨a, rfl, ⟨xs, l.sq⟩, k _ H1 [.ref a] [.lst ds] s1 (aH.one i1) ⟨fun Z2 H2 o2 j2 i d e => ?_, fun Z2 H2 o2 j2 => ?_⟩⟩
 . obtain ⟨w, r, e1, j3, j4⟩ := ao.mp j2;cases e1;obtain ⟨a', ys, e2, l2, j5⟩ := ar.mp j3;cases e2;obtain ⟨v, e3, iv⟩ := j5.get e;refine ⟨⟨ys, v, l2.sq, e3⟩, fun x H3 ⟨e4, y⟩ => ?_⟩;subst e4;have := y ys l2.sq;rw [e3] at this;cases this;exact ⟨aq.refl _, iv⟩
 . obtain ⟨w, r, e1, j3, j4⟩ := ao.mp j2;cases e1;obtain ⟨a', ys, e2, l2, j5⟩ := ar.mp j3;cases e2;exact ⟨ys, l2.sq, Nat.le_of_eq j5.length.symm⟩⟩
def bE (lo : Int) (n : Nat) : List D := (List.range n).map fun i => D.int (lo + (i : Nat))
theorem eC {lo : Int} {n i : Nat} {d : D} (h : (bE lo n)[i]? = some d) : i < n /\ d = .int (lo + i) := by
 unfold bE at h;rw [getElem?_map] at h;by_cases hi : i < n
 . rw [List.getElem?_range hi] at h;exact ⟨hi, by simpa using h.symm⟩
 . rw [List.getElem?_eq_none (by simpa using hi)] at h;cases h
theorem bP {lo : Int} {n : Nat} : (bE lo n).length = n := by simp [bE]
theorem ph {K : Frag} (lo : Int) (n : Nat) : yu K (Gi lo n) [] [] (bE lo n) :=
 ⟨fun Z H _ _ i d e => by
  obtain ⟨hi, rfl⟩ := eC e;refine ⟨hi, fun x H2 ⟨e1, e2⟩ => ?_⟩;subst e1 e2;exact ⟨aq.refl _, au.mpr rfl⟩, fun Z H _ _ => by rw [bP]; exact Nat.le_refl n⟩
theorem fF {n : Int} (h : E X m1 ρ a (.int n)) (hn : n < 2 ^ 62) (hn2 : -(2 ^ 62) <= n) (hm : X.mg "range" = none) (hg : Gl X "range" := by rfl) (hs : starEach [a] X.env = [(false, eval a X.env)] := by rfl) :
 IT X tg m ρ (.Call (.Name "range" p) [a] [] pos) (bE 0 n.toNat) :=
 PI.mono (wb hg hm (aM h bh (by rw [hs]; rfl)) hs) fun σ H R z0 => aO z0 fun Z oz en k => ⟨Z, oz, en, fun v H1 s1 i1 => ⟨n, by rw [au.mp (i1.plain oz)], hn2, hn, k _ H1 [] [] s1 (aD.mpr rfl) (ph 0 n.toNat)⟩⟩
def Gy (z : Str) : It := ⟨fun i _ => i < z.cps.size, fun i H x H' => H' = H /\ ∃ c, z.cps[i]? = some c /\ x = .str ⟨#[c]⟩, fun i _ => z.cps.size <= i⟩
theorem tH {P : Program} {w : World} {K : Frag} {tg : Expr} (it : Addr) (z : Str) (t : Tok) : Turn P w K tg (Gy z) [it] it (fun i h => h.IsStrIter it "str_ascii_iterator" z t i) where
 mem := by simp
 obj := fun i h st b hb => by
  have e : b = it := by simpa using hb
  subst e;obtain ⟨o, e, c, d⟩ := st;exact ⟨o, e, fun v z => by rw [d] at z; cases z⟩
 keep := fun i h h' st k => let ⟨o, ho, r⟩ := st; ⟨o, k it (by simp) o ho, r⟩
 item := by
  intro X hP hw hK hc i pins s σ H E I hf st hg;subst hP hw hK;obtain ⟨f0, f1, f2, f3, f4, f5⟩ := hf it (by simp);have hg : i < z.cps.size := hg;refine wpAny_pyNext_ascii_item st (c := z.cps[i]) (by simp [hg]) fun h' st' sb => ?_;have I1 : Inv X pins σ H { s with heap := h', toks := s.toks + 1 } := I.turned (t' := s.toks + 1) (fun b o hb e => (sb.2 b hb).trans e) f0 f1 f3 f4 f5;obtain ⟨o, e, c, d⟩ := id st';exact ⟨_, rfl, uT (s := { s with heap := h', toks := s.toks + 1 }) e c d (by decide) ⟨.str ⟨#[z.cps[i]]⟩, H, I1, ⟨_, rfl⟩, ⟨rfl, z.cps[i], by simp [hg], rfl⟩, st', fun b hb => (hf b hb).1⟩⟩
 done := by
  intro X hP hw hK hc i pins s σ H E I hf st hg;subst hP hw hK;obtain ⟨f0, f1, f2, f3, f4, f5⟩ := hf it (by simp);have hg : z.cps.size <= i := hg;exact wpAny_pyNext_ascii_end (I.ok.hd hc) st (by simp [hg]) fun h' eb => ⟨rfl, I.turned (t' := s.toks) (fun b o hb e => eb b o hb e) f0 f1 f3 f4 f5⟩
 self := fun _ _ _ _ _ st h => wpAny_pyIter_striter_ascii st h
theorem vU {P : Program} {w : World} {K : Frag} {tg : Expr} (it : Addr) (z : Str) (t : Tok) : Turn P w K tg (Gy z) [it] it (fun i h => h.IsStrIter it "str_iterator" z t i) where
 mem := by simp
 obj := fun i h st b hb => by
  have e : b = it := by simpa using hb
  subst e;obtain ⟨o, e, c, d⟩ := st;exact ⟨o, e, fun v z => by rw [d] at z; cases z⟩
 keep := fun i h h' st k => let ⟨o, ho, r⟩ := st; ⟨o, k it (by simp) o ho, r⟩
 item := by
  intro X hP hw hK hc i pins s σ H E I hf st hg;subst hP hw hK;obtain ⟨f0, f1, f2, f3, f4, f5⟩ := hf it (by simp);have hg : i < z.cps.size := hg;refine wpAny_pyNext_wide_item st (c := z.cps[i]) (by simp [hg]) fun h' st' sb => ?_;have I1 : Inv X pins σ H { s with heap := h', toks := s.toks + 1 } := I.turned (t' := s.toks + 1) (fun b o hb e => (sb.2 b hb).trans e) f0 f1 f3 f4 f5;obtain ⟨o, e, c, d⟩ := id st';exact ⟨_, rfl, uT (s := { s with heap := h', toks := s.toks + 1 }) e c d (by decide) ⟨.str ⟨#[z.cps[i]]⟩, H, I1, ⟨_, rfl⟩, ⟨rfl, z.cps[i], by simp [hg], rfl⟩, st', fun b hb => (hf b hb).1⟩⟩
 done := by
  intro X hP hw hK hc i pins s σ H E I hf st hg;subst hP hw hK;obtain ⟨f0, f1, f2, f3, f4, f5⟩ := hf it (by simp);have hg : z.cps.size <= i := hg;exact wpAny_pyNext_wide_end (I.ok.hd hc) st (by simp [hg]) fun h' eb => ⟨rfl, I.turned (t' := s.toks) (fun b o hb e => eb b o hb e) f0 f1 f3 f4 f5⟩
 self := fun _ _ _ _ _ st h => wpAny_pyIter_striter_wide st h
def G2 (tl : TE) : TI := fun σ H R => tl σ H fun x H1 => ∃ z, x = .str z /\ R (Gy z) H1
theorem De {tl : TE} (hl : PE X e tl) : PI X tg e (G2 tl) := by
 intro pins s σ H R I h;refine ck (hl pins s σ H _ I h) fun v s1 ⟨x, H1, I1, r1, q1⟩ => ?_;obtain ⟨z, rfl, q⟩ := q1;obtain ⟨t, rfl⟩ := r1;have fp : ∀ b ∈ [s1.heap.objs.size], gT X pins H1 b := fun b hb => by
  have e : b = s1.heap.objs.size := by simpa using hb
  subst e;exact I1.pK (Nat.le_refl _) (I1.hok.fresh (Nat.le_refl _))
 cases ha : z.cps.all (· < 128)
 . exact wpAny_pyIter_wide ha ⟨s1.heap.objs.size, [s1.heap.objs.size], _, _, H1, rfl, I1.kept (t' := s1.toks) fun b o e => get?_push_of_some _ e, vU _ z t, ⟨_, get?_push_size _ rfl, rfl, rfl⟩, fp, q⟩
 . exact wpAny_pyIter_ascii ha ⟨s1.heap.objs.size, [s1.heap.objs.size], _, _, H1, rfl, I1.kept (t' := s1.toks) fun b o e => get?_push_of_some _ e, tH _ z t, ⟨_, get?_push_size _ rfl, rfl, rfl⟩, fp, q⟩
def iZ (z : Str) : List D := z.cps.toList.map fun c => D.str ⟨#[c]⟩
theorem DU {z : Str} (h : E X m1 ρ e (.str z)) : IT X tg m ρ e (iZ z) := PI.mono (De h) fun σ H R z0 => aO z0 fun Z oz en k => ⟨Z, oz, en, fun v H1 s1 i1 => by
 refine ⟨z, in_str.mp (i1.plain oz), k _ H1 [] [] s1 (aD.mpr rfl) ⟨fun Z2 H2 o2 j2 i d e => ?_, fun Z2 H2 o2 j2 => ?_⟩⟩
 . unfold iZ at e;rw [getElem?_map] at e
   cases q : z.cps.toList[i]? with
   | none => rw [q] at e; cases e
   | some c =>
    rw [q] at e;have e' : D.str ⟨#[c]⟩ = d := by simpa using e
    subst e';have hi : i < z.cps.size := by simpa using (List.getElem?_eq_some_iff.mp q).1
    refine ⟨hi, fun x H3 ⟨e1, c', e2, e3⟩ => ?_⟩;subst e1 e3;have : c' = c := by
     have q' : z.cps[i]? = some c := by simpa using q
     rw [q'] at e2;exact (Option.some.inj e2).symm
    subst this;exact ⟨aq.refl _, in_str.mpr rfl⟩
 . show z.cps.size <= (iZ z).length;simp [iZ]⟩
def Fz (X : Cx) (ρ : List (Option D)) (ifs : List Expr) (b : Bool) : Prop := Cs X ifs (vR X.K ρ b)
theorem yI : Fz X ρ [] true := fun pins s σ H Q I z0 => aO z0 fun Z oz en k => BV pins s σ H Q I (k H (aq.refl H))
theorem xq {p : Bool} (h : T X ρ e p) : Fz X ρ [e] p := BE h
def dh (js : Ih) (ρ : List (Option D)) : List (Option D) := js.map fun j => (ρ[j]?).join
theorem gI {K : Frag} {H : Hp} {Z : aA} {σ : St} {js : Ih} (en : bM K H Z σ ρ) {ow : St} {ov : List (Option D)} (hl : ow.length = ov.length) (h : ∀ (i : Nat) d, ov[i]? = some (some d) -> ∃ v, ow[i]? = some (some v) /\ In K H Z d v) :
 bM K H Z (ow ++ bF js σ) (ov ++ dh js ρ) := fun i d e => by
 by_cases hi : i < ov.length
 . rw [getElem?_append_left hi] at e;rw [getElem?_append_left (by omega)];exact h i d e
 . rw [getElem?_append_right (by omega)] at e;rw [getElem?_append_right (by omega), hl];unfold dh at e;unfold bF;rw [getElem?_map] at e ⊢
   cases q : js[i - ov.length]? with
   | none => rw [q] at e; cases e
   | some j =>
    rw [q] at e;have e : (ρ[j]?).join = some d := by simpa using e
    have e' : ρ[j]? = some (some d) := by
     cases z : ρ[j]? with
     | none => rw [z] at e; cases e
     | some w => rw [z] at e; simpa using e
    obtain ⟨v, a, b⟩ := en j d e';exact ⟨v, by simp [a], b⟩
def Hu (K : Frag) (js : Ih) (ρ : List (Option D)) (ds : List D) (p : D -> Bool) (i : Nat) : TT := fun σ H Q => ∃ d, ds[i]? = some d /\ vR K ([some d] ++ dh js ρ) (p d) σ H Q
def Hs (K : Frag) (js : Ih) (ρ : List (Option D)) (ds : List D) (p : D -> Bool) (f : D -> D) (me : Bool) (i : Nat) : TE := fun σ H Q => ∃ d, ds[i]? = some d /\ p d = true /\ tE K me ([some d] ++ dh js ρ) (f d) σ H Q
theorem jZ {js : Ih} {me : Bool} (p : D -> Bool) (f : D -> D) (hz : ds.length <= sizeLine) (hm : m = true -> me = true \/ ∀ d ∈ ds, (f d).flat = true) (σ : St) (H : Hp) (Q : VK) (h : tE X.K m ρ (.lst ((ds.filter p).map f)) σ H Q) :
 vm (Gz X.K m1 ρ ds) 1 js (dZ 0) (Hu X.K js ρ ds p) (Hs X.K js ρ ds p f me) σ H Q := by
 obtain ⟨Z, oz, en, k⟩ := h;refine ⟨Z, oz, en, fun J H1 vs cW s1 i1 Y l hl => ?_⟩;have hlH : H l = none := s1.free hl
 -- all zones without l
 have noL : ∀ {ds : List D} {vs : List V} {Z' : aA} {Ha Hb : Hp}, Ha l = none -> aq Ha Hb -> aH X.K Ha Z' ds vs -> aH X.K Hb ⟨Z'.m, fun a => Z'.S a /\ a ≠ l⟩ ds vs := fun {ds vs Z' Ha Hb} ha sa h => aH.carry (Z' := ⟨Z'.m, fun a => Z'.S a /\ a ≠ l⟩) (Carry.of sa (fun a zs e z => ⟨z, av e ha⟩) fun m => m) h;have noL1 : ∀ {d : D} {v : V} {Z' : aA} {Ha Hb : Hp}, Ha l = none -> aq Ha Hb -> In X.K Ha Z' d v -> In X.K Hb ⟨Z'.m, fun a => Z'.S a /\ a ≠ l⟩ d v := fun {d v Z' Ha Hb} ha sa h => In.carry (Z' := ⟨Z'.m, fun a => Z'.S a /\ a ≠ l⟩) (Carry.of sa (fun a zs e z => ⟨z, av e ha⟩) fun m => m) h;refine ⟨fun i n xs H' => n = ds.length - i /\ i <= ds.length /\ aq H1 H' /\ H' l = some (.lst xs) /\ xs.length <= i /\ aH X.K H' ⟨(out m Z H).m, fun a => (out m Z H).S a /\ a ≠ l⟩ (((ds.take i).filter p).map f) xs, ⟨ds.length, by simp, Nat.zero_le _, az hl, ax, Nat.zero_le _, by simp; exact aD.mpr rfl⟩, ?_⟩;rintro i n xs H' ow how ⟨rfl, hi', s1', hl', hxi, jx⟩;refine ⟨hl', ?_⟩;have srcsZ : aH X.K H1 Z cW vs := by
  cases m1
  . exact i1
  . exact i1.up oz
 let Zl : aA := ⟨Z.m, fun a => Z.S a /\ a ≠ l⟩
 have opl : ∀ {Ha : Hp} {o : HO}, aq H Ha -> Ha l = some o -> Zl.Open Ha := fun sa e => ⟨fun a ha => ⟨oz.op a (sa.free ha), by rintro rfl; rw [e] at ha; cases ha⟩, sa.tabs oz.tb⟩
 by_cases hlt : i < ds.length
 . have hd : ds[i]? = some ds[i] := by simp [hlt]
   obtain ⟨go, yl⟩ := Y.go Zl H' (opl (s1.trans s1') hl') (noL hl s1' srcsZ) i ds[i] hd;refine .inr ⟨go, fun y H2 hy => ?_⟩;obtain ⟨s2, iy⟩ := yl y H2 hy;have hl2 : H2 l = some (.lst xs) := s2.at hl';have sH2 : aq H H2 := (s1.trans s1').trans s2;obtain ⟨w, rfl⟩ : ∃ w, ow = [w] := by
    match ow, how with
    | [w], _ => exact ⟨w, rfl⟩
   have en2 : bM X.K H2 Zl ([some y] ++ bF js σ) ([some ds[i]] ++ dh js ρ) := gI (fun i d e => let ⟨v, a, b⟩ := en i d e; ⟨v, a, noL1 hlH sH2 b⟩) rfl fun i d e => by
    match i, e with
    | 0, e => cases e; exact ⟨y, rfl, iy⟩
   refine ⟨⟨[some y], rfl, rfl⟩, ds[i], hd, Zl, opl sH2 hl2, en2, fun H3 s3 => ?_⟩;have hl3 : H3 l = some (.lst xs) := s3.at hl2;have st : (ds.take (i + 1)).filter p = (ds.take i).filter p ++ (if p ds[i] then [ds[i]] else []) := take_succ_filter p ds i ds[i] hd
   cases hp : p ds[i] with
   | false =>
    refine lW ?_;refine ⟨ds.length - (i + 1), by omega, rfl, hlt, (s1'.trans s2).trans s3, hl3, by omega, ?_⟩;rw [st, hp];simp only [Bool.false_eq_true, if_false, append_nil];exact jx.same (s2.trans s3)
   | true =>
    refine lO ?_;refine ⟨ds[i], hd, hp, Zl, opl (sH2.trans s3) hl3, en2.same s3, fun v H4 s4 iv => ?_⟩;have hl4 : H4 l = some (.lst xs) := s4.at hl3;refine ⟨hl4, by omega, ds.length - (i + 1), by omega, rfl, hlt, ((s1'.trans s2).trans (s3.trans s4)).write hl hl4, ax, by rw [List.length_append]; simp; omega, ?_⟩
    . rw [st, hp];simp only [if_true, map_append, map_cons, map_nil];have n : ¬ (⟨(out m Z H).m, fun a => (out m Z H).S a /\ a ≠ l⟩ : aA).S l := fun z => z.2 rfl;refine aH.append ((jx.same (s2.trans (s3.trans s4))).carry (.write hl4 n)) (aH.one ?_);refine In.carry (.write hl4 n) ?_
      cases m with
      | false => exact iv.plain (opl (sH2.trans s3) hl3)
      | true =>
       rcases hm rfl with h | h
       . subst h;exact In.carry (Z := nw H3) (Z' := ⟨true, fun a => H a = none /\ a ≠ l⟩) ⟨fun a zs e z => ⟨e, (sH2.trans s3).free z, by rintro rfl; have z : H3 a = none := z; rw [hl3] at z; cases z⟩, fun m => FC m, fun _ _ e => e⟩ iv
       . exact iv.df (h _ (getElem_mem hlt))
 . have e : i = ds.length := by omega
   subst e;refine .inl ⟨Y.stop Zl H' (opl (s1.trans s1') hl') (noL hl s1' srcsZ), k (.ref l) H' (s1.trans s1') (ar.mpr ⟨l, xs, rfl, .inl ⟨hl', ?_⟩, ?_⟩)⟩
   . cases m
     . exact oz l hlH
     . exact hlH
   . rw [take_length] at jx;exact aH.carry (Z := ⟨(out m Z H).m, fun a => (out m Z H).S a /\ a ≠ l⟩) (Z' := out m Z H) (Carry.of (aq.refl H') (fun a zs e z => And.left z) fun m => m) jx
structure EC (X : Cx) (m : Bool) (ρ : List (Option D)) (e : Expr) (d : D) : Prop where
 val : E X m ρ e d
 s : ∀ (y : Str) (k : Nat) (spos py : Pos), X.N.Nodup -> X.N[k]? = some y -> Loc X.env.scope y -> swapsWith e (some (.Name y py)) spos.line X.env = pure true -> (X.fn y = true \/ X.env.scope.names.lookup y = some .local) -> PS X (.Assign [.Name y py] e spos) (C7 (tE X.K m ρ d) (dZ k))
theorem EC.cast {d' : D} (h : EC X m ρ e d) (q : d = d') : EC X m ρ e d' := q ▸ h
theorem PS.CA {X : Cx} {st : Stmt} {t t' : TS} (h : PS X st t) (k : ∀ Q σ H, t' Q σ H -> t Q σ H) : PS X st t' := fun pins s σ H Q I q => h pins s σ H Q I (k Q σ H q)
theorem uU {elt iter : Expr} {x : Str} {px : Pos} {ifs : List Expr} {scope : Scope} {me : Bool} (caps : Ie) (js : Ih) (p : D -> Bool) (f : D -> D) (hi : IT X (.Name x px) m1 ρ iter ds)
 (ht : ∀ C s H fp d, d ∈ ds -> Fz (bp X ([x] ++ caps) scope C s H fp) ([some d] ++ dh js ρ) ifs (p d)) (he : ∀ C s H fp d, d ∈ ds -> p d = true -> E (bp X ([x] ++ caps) scope C s H fp) me ([some d] ++ dh js ρ) elt (f d))
 (hz : ds.length <= sizeLine) (hm : m = true -> me = true \/ ∀ d ∈ ds, (f d).flat = true := by intro h; first | exact .inl h | cases h) (hc : X.calm = true := by rfl)
 (B : bN X scope [x] caps js := by exact ⟨rfl, by decide, by decide, by decide, by decide, by decide, by repeat (first | exact trivial | refine ⟨⟨rfl, by first | exact .inl rfl | exact .inr rfl⟩, ?_⟩), by decide⟩)
 (hs : ∀ x, foldedSetIterable iter X.env x = pure x := by intro _; rfl) : EC X m ρ (.ListComp elt [⟨.Name x px, iter, ifs, 0⟩] scope pos) (.lst ((ds.filter p).map f)) := by
 have hg : ∀ C s H fp, PG (bp X ([x] ++ caps) scope C s H fp) (.Name x px) (dZ 0) := fun C s H fp => fU (i := 0) B.nd rfl (.inl (lookup_relabel_local (B.own x (by simp)))) (.inr (lookup_relabel_local (B.own x (by simp))));have ht' : ∀ C s H fp i, Cs (bp X ([x] ++ caps) scope C s H fp) ifs (Hu X.K js ρ ds p i) := fun C s H fp i pins s' σ H' Q I h => by
  obtain ⟨d, hd, h⟩ := h;exact ht C s H fp d (mem_of_getElem? hd) pins s' σ H' Q I h
 have he' : ∀ C s H fp i, PE (bp X ([x] ++ caps) scope C s H fp) elt (Hs X.K js ρ ds p f me i) := fun C s H fp i pins s' σ H' Q I h => by
  obtain ⟨d, hd, hp, h⟩ := h;exact he C s H fp d (mem_of_getElem? hd) hp pins s' σ H' Q I h
 refine ⟨PE.mono (uL (own := [x]) (caps := caps) hc B hi hg ht' he' hs) fun σ H Q h => jZ p f hz hm σ H Q h, fun y k spos py hN hk hy hsw hf => ?_⟩;exact PS.CA (vp (own := [x]) (caps := caps) hN hk hy hc B hi hg ht' he' hsw hf hs) fun Q σ H h => jZ p f hz hm σ H _ h
theorem yg {elt iter : Expr} {x : Str} {px : Pos} {ifs : List Expr} {scope : Scope} {me : Bool} (caps : Ie) (js : Ih) (p : D -> Bool) (f : D -> D) (hi : IT X (.Name x px) m1 ρ iter ds)
 (ht : ∀ C s H fp d, d ∈ ds -> Fz (bp X ([x] ++ caps) scope C s H fp) ([some d] ++ dh js ρ) ifs (p d)) (he : ∀ C s H fp d, d ∈ ds -> p d = true -> E (bp X ([x] ++ caps) scope C s H fp) me ([some d] ++ dh js ρ) elt (f d))
 (hz : ds.length <= sizeLine) (hm : m = true -> me = true \/ ∀ d ∈ ds, (f d).flat = true := by intro h; first | exact .inl h | cases h) (hc : X.calm = true := by rfl)
 (B : bN X scope [x] caps js := by exact ⟨rfl, by decide, by decide, by decide, by decide, by decide, by repeat (first | exact trivial | refine ⟨⟨rfl, by first | exact .inl rfl | exact .inr rfl⟩, ?_⟩), by decide⟩)
 (hs : ∀ x, foldedSetIterable iter X.env x = pure x := by intro _; rfl) : E X m ρ (.ListComp elt [⟨.Name x px, iter, ifs, 0⟩] scope pos) (.lst ((ds.filter p).map f)) := (uU caps js p f hi ht he hz hm hc B hs).val
theorem C8 {elt iter : Expr} {x : Str} {px : Pos} {scope : Scope} {me : Bool} (caps : Ie) (js : Ih) (f : D -> D) (hi : IT X (.Name x px) m1 ρ iter ds)
 (he : ∀ C s H fp d, d ∈ ds -> E (bp X ([x] ++ caps) scope C s H fp) me ([some d] ++ dh js ρ) elt (f d)) (hz : ds.length <= sizeLine) (hm : m = true -> me = true \/ ∀ d ∈ ds, (f d).flat = true := by intro h; first | exact .inl h | cases h) (hc : X.calm = true := by rfl)
 (B : bN X scope [x] caps js := by exact ⟨rfl, by decide, by decide, by decide, by decide, by decide, by repeat (first | exact trivial | refine ⟨⟨rfl, by first | exact .inl rfl | exact .inr rfl⟩, ?_⟩), by decide⟩)
 (hs : ∀ x, foldedSetIterable iter X.env x = pure x := by intro _; rfl) : EC X m ρ (.ListComp elt [⟨.Name x px, iter, [], 0⟩] scope pos) (.lst (ds.map f)) := by
 have h := uU (m := m) (pos := pos) caps js (fun _ => true) f hi (fun C s H fp d hd => yI) (fun C s H fp d hd _ => he C s H fp d hd) hz hm hc B hs
 rwa [List.filter_eq_self.mpr fun _ _ => rfl] at h
theorem xw {elt iter : Expr} {x : Str} {px : Pos} {scope : Scope} {me : Bool} (caps : Ie) (js : Ih) (f : D -> D) (hi : IT X (.Name x px) m1 ρ iter ds)
 (he : ∀ C s H fp d, d ∈ ds -> E (bp X ([x] ++ caps) scope C s H fp) me ([some d] ++ dh js ρ) elt (f d)) (hz : ds.length <= sizeLine) (hm : m = true -> me = true \/ ∀ d ∈ ds, (f d).flat = true := by intro h; first | exact .inl h | cases h) (hc : X.calm = true := by rfl)
 (B : bN X scope [x] caps js := by exact ⟨rfl, by decide, by decide, by decide, by decide, by decide, by repeat (first | exact trivial | refine ⟨⟨rfl, by first | exact .inl rfl | exact .inr rfl⟩, ?_⟩), by decide⟩)
 (hs : ∀ x, foldedSetIterable iter X.env x = pure x := by intro _; rfl) : E X m ρ (.ListComp elt [⟨.Name x px, iter, [], 0⟩] scope pos) (.lst (ds.map f)) := by
 have h := yg (m := m) (pos := pos) caps js (fun _ => true) f hi (fun C s H fp d hd => yI) (fun C s H fp d hd _ => he C s H fp d hd) hz hm hc B hs
 rwa [List.filter_eq_self.mpr fun _ _ => rfl] at h
end
mutual
def Tr (K : Frag) (H : Hp) : D -> V -> List Addr -> Prop
 | .lst ds, v, as => ∃ a xs bs, v = .ref a /\ as = a :: bs /\ H a = some (.lst xs) /\ dg K H ds xs bs
 | .tup ds, v, as => ∃ a xs, v = .ref a /\ H a = some (.tup xs) /\ dg K H ds xs as
 | .non, v, as => as = [] /\ v = .non
 | .bl b, v, as => as = [] /\ v = .bl b
 | .int i, v, as => as = [] /\ v = .int i
 | .str x, v, as => as = [] /\ v = .str x
 | .dct _, _, _ => False
 | .ktup ks, v, as => as = [] /\ ∃ a, v = .ref a /\ wR K a ks
def dg (K : Frag) (H : Hp) : List D -> List V -> List Addr -> Prop
 | [], xs, as => xs = [] /\ as = []
 | d :: ds, xs, as => ∃ v r bs cs, xs = v :: r /\ as = bs ++ cs /\ Tr K H d v bs /\ dg K H ds r cs
end
section
variable {K : Frag} {H H' : Hp} {Z : aA}
theorem ed {ds : List D} {v : V} {as : List Addr} : Tr K H (.lst ds) v as ↔ ∃ a xs bs, v = .ref a /\ as = a :: bs /\ H a = some (.lst xs) /\ dg K H ds xs bs := by unfold Tr; exact Iff.rfl
theorem fo {ds : List D} {v : V} {as : List Addr} : Tr K H (.tup ds) v as ↔ ∃ a xs, v = .ref a /\ H a = some (.tup xs) /\ dg K H ds xs as := by unfold Tr; exact Iff.rfl
theorem di {xs : List V} {as : List Addr} : dg K H [] xs as ↔ xs = [] /\ as = [] := by unfold dg; exact Iff.rfl
theorem bj {d : D} {ds : List D} {xs : List V} {as : List Addr} : dg K H (d :: ds) xs as ↔ ∃ v r bs cs, xs = v :: r /\ as = bs ++ cs /\ Tr K H d v bs /\ dg K H ds r cs := by
 constructor
 . intro h; unfold dg at h; exact h
 . intro h; unfold dg; exact h
mutual
theorem Tr.carry (t : ∀ a (xs : List V), H a = some (.tup xs) -> H' a = some (.tup xs)) : ∀ {d : D} {v : V} {as : List Addr}, (∀ a (xs : List V), a ∈ as -> H a = some (.lst xs) -> H' a = some (.lst xs)) -> Tr K H d v as -> Tr K H' d v as
 | .non, _, _, _, h => by unfold Tr at h ⊢; exact h
 | .bl _, _, _, _, h => by unfold Tr at h ⊢; exact h
 | .int _, _, _, _, h => by unfold Tr at h ⊢; exact h
 | .str _, _, _, _, h => by unfold Tr at h ⊢; exact h
 | .dct _, _, _, _, h => by unfold Tr at h; exact h.elim
 | .ktup _, _, _, _, h => by unfold Tr at h ⊢; exact h
 | .lst ds, _, _, k, h => by
  obtain ⟨a, xs, bs, e, rfl, ha, i⟩ := ed.mp h;exact ed.mpr ⟨a, xs, bs, e, rfl, k a xs mem_cons_self ha, dg.carry t (fun b ys hb => k b ys (mem_cons_of_mem _ hb)) i⟩
 | .tup ds, _, _, k, h => by
  obtain ⟨a, xs, e, ha, i⟩ := fo.mp h;exact fo.mpr ⟨a, xs, e, t a xs ha, dg.carry t k i⟩
theorem dg.carry (t : ∀ a (xs : List V), H a = some (.tup xs) -> H' a = some (.tup xs)) : ∀ {ds : List D} {vs : List V} {as : List Addr}, (∀ a (xs : List V), a ∈ as -> H a = some (.lst xs) -> H' a = some (.lst xs)) -> dg K H ds vs as -> dg K H' ds vs as
 | [], _, _, _, h => di.mpr (di.mp h)
 | d :: ds, _, _, k, h => by
  obtain ⟨v, r, bs, cs, e, rfl, i, j⟩ := bj.mp h;exact bj.mpr ⟨v, r, bs, cs, e, rfl, Tr.carry t (fun b ys hb => k b ys (List.mem_append_left _ hb)) i, dg.carry t (fun b ys hb => k b ys (mem_append_right _ hb)) j⟩
end
mutual
theorem Tr.wd : ∀ {d : D} {v : V} {as : List Addr}, (∀ a ∈ as, Z.S a) -> Tr K H d v as -> In K H Z d v
 | .non, _, _, _, h => by unfold Tr at h; exact bg.mpr h.2
 | .bl _, _, _, _, h => by unfold Tr at h; exact aS.mpr h.2
 | .int _, _, _, _, h => by unfold Tr at h; exact au.mpr h.2
 | .str _, _, _, _, h => by unfold Tr at h; exact in_str.mpr h.2
 | .dct _, _, _, _, h => by unfold Tr at h; exact h.elim
 | .ktup _, _, _, _, h => by unfold Tr at h; exact ba.mpr h.2
 | .lst ds, _, _, k, h => by
  obtain ⟨a, xs, bs, e, rfl, ha, i⟩ := ed.mp h;exact ar.mpr ⟨a, xs, e, .inl ⟨ha, k a mem_cons_self⟩, dg.wd (fun b hb => k b (mem_cons_of_mem _ hb)) i⟩
 | .tup ds, _, _, k, h => by
  obtain ⟨a, xs, e, ha, i⟩ := fo.mp h;exact bO.mpr ⟨a, xs, e, ha, dg.wd k i⟩
theorem dg.wd : ∀ {ds : List D} {vs : List V} {as : List Addr}, (∀ a ∈ as, Z.S a) -> dg K H ds vs as -> aH K H Z ds vs
 | [], _, _, _, h => aD.mpr (di.mp h).1
 | d :: ds, _, _, k, h => by
  obtain ⟨v, r, bs, cs, e, rfl, i, j⟩ := bj.mp h;exact ao.mpr ⟨v, r, e, Tr.wd (fun b hb => k b (List.mem_append_left _ hb)) i, dg.wd (fun b hb => k b (mem_append_right _ hb)) j⟩
end
mutual
theorem Tr.fN : ∀ {d : D} {v : V}, d.flat = true -> In K H Z d v -> Tr K H d v []
 | .non, _, _, h => by unfold Tr; exact ⟨rfl, bg.mp h⟩
 | .bl _, _, _, h => by unfold Tr; exact ⟨rfl, aS.mp h⟩
 | .int _, _, _, h => by unfold Tr; exact ⟨rfl, au.mp h⟩
 | .str _, _, _, h => by unfold Tr; exact ⟨rfl, in_str.mp h⟩
 | .dct _, _, f, _ => by unfold D.flat at f; cases f
 | .ktup _, _, _, h => by unfold Tr; exact ⟨rfl, ba.mp h⟩
 | .lst ds, _, f, _ => by unfold D.flat at f; cases f
 | .tup ds, _, f, h => by
  unfold D.flat at f;obtain ⟨a, xs, e, l, i⟩ := bO.mp h;exact fo.mpr ⟨a, xs, e, l, dg.fN f i⟩
theorem dg.fN : ∀ {ds : List D} {vs : List V}, aV ds = true -> aH K H Z ds vs -> dg K H ds vs []
 | [], _, _, h => di.mpr ⟨aD.mp h, rfl⟩
 | d :: ds, _, f, h => by
  unfold aV at f;rw [Bool.and_eq_true] at f;obtain ⟨v, r, e, i, j⟩ := ao.mp h;exact bj.mpr ⟨v, r, [], [], e, rfl, Tr.fN f.1 i, dg.fN f.2 j⟩
end
mutual
theorem Tr.rF : ∀ {d : D} {v : V} {as : List Addr}, Tr K H d v as -> ∀ a ∈ as, ∃ xs, H a = some (.lst xs)
 | .non, _, _, h, a, ha => by unfold Tr at h; rw [h.1] at ha; cases ha
 | .bl _, _, _, h, a, ha => by unfold Tr at h; rw [h.1] at ha; cases ha
 | .int _, _, _, h, a, ha => by unfold Tr at h; rw [h.1] at ha; cases ha
 | .str _, _, _, h, a, ha => by unfold Tr at h; rw [h.1] at ha; cases ha
 | .dct _, _, _, h, a, ha => by unfold Tr at h; exact h.elim
 | .ktup _, _, _, h, a, ha => by unfold Tr at h; rw [h.1] at ha; cases ha
 | .lst ds, _, _, h, a, ha => by
  obtain ⟨b, xs, bs, e, rfl, hb, i⟩ := ed.mp h;rcases mem_cons.mp ha with rfl | ha
  . exact ⟨xs, hb⟩
  . exact dg.rF i a ha
 | .tup ds, _, _, h, a, ha => by
  obtain ⟨b, xs, e, hb, i⟩ := fo.mp h;exact dg.rF i a ha
theorem dg.rF : ∀ {ds : List D} {vs : List V} {as : List Addr}, dg K H ds vs as -> ∀ a ∈ as, ∃ xs, H a = some (.lst xs)
 | [], _, _, h, a, ha => by rw [(di.mp h).2] at ha; cases ha
 | d :: ds, _, _, h, a, ha => by
  obtain ⟨v, r, bs, cs, e, rfl, i, j⟩ := bj.mp h;rcases mem_append.mp ha with ha | ha
  . exact Tr.rF i a ha
  . exact dg.rF j a ha
end
end
inductive Slot where
 | pl (fr : Bool) (d : D)
 | ow (fr : Bool) (ds : List D)
 | ow2 (fr : Bool) (dss : List (List D))
 | oa (d : D)
 | sh (p : D -> Prop)
 | owl (l : Addr) (fr : Bool) (ds : List D)
 | od (o : DO)
 | rf (v : V)
 | tr (d : D)
 | trl (u : V) (d : D)
abbrev cR := List (Option Slot)
structure Fn where
 m : Bool
 Z : aA
 H : Hp
def zn (F : Fn) (O : Addr -> Prop) (fr : Bool) : aA := if fr then ⟨true, fun a => F.H a = none /\ ¬ O a⟩ else ⟨F.Z.m, fun a => F.Z.S a /\ ¬ O a⟩
def km (K : Frag) (H : Hp) (Z : aA) (dss : List (List D)) (as : List Addr) : Prop := Paired (fun ds a => ∃ xs, H a = some (.lst xs) /\ aH K H Z ds xs) dss as
def cX (K : Frag) (F : Fn) (H : Hp) (O : Addr -> Prop) (mine : List Addr) (v : V) : Slot -> Prop
 | .pl fr d => In K H (zn F O fr) d v
 | .ow fr ds => ∃ l xs, mine = [l] /\ v = .ref l /\ H l = some (.lst xs) /\ aH K H (zn F O fr) ds xs
 | .ow2 fr dss => ∃ l as, mine = l :: as /\ v = .ref l /\ H l = some (.lst (as.map V.ref)) /\ km K H (zn F O fr) dss as
 | .oa d => In K H ⟨true, fun a => a ∈ mine⟩ d v
 | .sh p => ∃ d, p d /\ In K H ⟨true, fun a => a ∈ mine⟩ d v
 | .owl l fr ds => ∃ xs, mine = [l] /\ v = .ref l /\ H l = some (.lst xs) /\ aH K H (zn F O fr) ds xs
 | .od o => ∃ l, mine = [l] /\ v = .ref l /\ H l = some o.ho
 | .rf u => v = u
 | .tr d => Tr K H d v mine
 | .trl u d => v = u /\ Tr K H d v mine
abbrev bc (A : Nat -> List Addr) (a : Addr) : Prop := ∃ j, a ∈ A j
structure aZ (K : Frag) (F : Fn) (H : Hp) (vs : St) (ρ : cR) (A : Nat -> List Addr) : Prop where
 same : aq F.H H
 opn : F.Z.Open F.H
 nd : ∀ i, (A i).Nodup
 one : ∀ i j a, a ∈ A i -> a ∈ A j -> i = j
 new : ∀ i a, a ∈ A i -> F.H a = none
 lst : ∀ i a, a ∈ A i -> ∃ xs : MO, H a = some xs.ho
 at' : ∀ (i : Nat) sl, ρ[i]? = some (some sl) -> ∃ v, vs[i]? = some (some v) /\ cX K F H (bc A) (A i) v sl
section
variable {K : Frag} {F : Fn} {H H' : Hp} {vs : St} {ρ : cR} {A : Nat -> List Addr} {O O' : Addr -> Prop} {fr : Bool}
theorem km.carry {Z Z' : aA} {dss : List (List D)} {as : List Addr} (h : km K H Z dss as) (k : ∀ a xs, a ∈ as -> H a = some (.lst xs) -> H' a = some (.lst xs)) (c : Carry K H Z H' Z') : km K H' Z' dss as := by
 induction h with
 | nil => exact .nil
 | cons r t ih =>
  obtain ⟨xs, e, i⟩ := r;exact .cons ⟨xs, k _ xs (by simp) e, i.carry c⟩ (ih fun a xs ha e => k a xs (by simp [ha]) e)
theorem yL (s : aq H H') (hO : ∀ a (xs : MO), H a = some xs.ho -> ¬ O a -> ¬ O' a) : Carry K H (zn F O fr) H' (zn F O' fr) := by
 unfold zn;cases fr
 . exact .of s (fun a xs e z => ⟨z.1, hO a xs e z.2⟩) fun m => m
 . exact .of s (fun a xs e z => ⟨z.1, hO a xs e z.2⟩) fun m => m
theorem cX.carry {mine : List Addr} {v : V} {sl : Slot} (h : cX K F H O mine v sl) (k : ∀ a (xs : MO), a ∈ mine -> H a = some xs.ho -> H' a = some xs.ho) (c : ∀ fr, Carry K H (zn F O fr) H' (zn F O' fr)) : cX K F H' O' mine v sl := by
 cases sl with
 | pl fr d => exact In.carry (c fr) h
 | ow fr ds =>
  obtain ⟨l, xs, rfl, e, hl, i⟩ := h;exact ⟨l, xs, rfl, e, k l (.l xs) (by simp) hl, i.carry (c fr)⟩
 | ow2 fr dss =>
  obtain ⟨l, as, rfl, e, hl, i⟩ := h;exact ⟨l, as, rfl, e, k l (.l _) (by simp) hl, i.carry (fun a xs ha q => k a (.l xs) (by simp [ha]) q) (c fr)⟩
 | oa d => exact In.carry ⟨fun a xs e z => ⟨k a xs z e, z⟩, fun m => Bool.noConfusion (show true = false from m), (c true).t⟩ h
 | sh p =>
  obtain ⟨d, hp, i⟩ := h;exact ⟨d, hp, i.carry ⟨fun a xs e z => ⟨k a xs z e, z⟩, fun m => Bool.noConfusion (show true = false from m), (c true).t⟩⟩
 | owl l fr ds =>
  obtain ⟨xs, rfl, e, hl, i⟩ := h;exact ⟨xs, rfl, e, k l (.l xs) (by simp) hl, i.carry (c fr)⟩
 | od o =>
  obtain ⟨l, rfl, e, hl⟩ := h;exact ⟨l, rfl, e, k l (.d o) (by simp) hl⟩
 | rf u => exact h
 | tr d => exact Tr.carry (c true).t (fun a xs ha e => k a (.l xs) ha e) h
 | trl u d => exact ⟨h.1, Tr.carry (c true).t (fun a xs ha e => k a (.l xs) ha e) h.2⟩
theorem aZ.grow (S : aZ K F H vs ρ A) (s : aq H H') : aZ K F H' vs ρ A :=
 ⟨S.same.trans s, S.opn, S.nd, S.one, S.new, fun i a ha => let ⟨xs, e⟩ := S.lst i a ha; ⟨xs, s.at e xs.nt⟩, fun i sl e => let ⟨v, a, b⟩ := S.at' i sl e; ⟨v, a, b.carry (fun a xs _ q => s.at q xs.nt) fun fr => yL s fun a xs _ n => n⟩⟩
theorem fY (S : aZ K F H vs ρ A) (fr : Bool) : (zn F (bc A) fr).Open H := ⟨fun a h => by
 have n : ¬ bc A a := fun ⟨j, hj⟩ => by obtain ⟨xs, e⟩ := S.lst j a hj; rw [h] at e; cases e
 unfold zn;cases fr
 . exact ⟨S.opn.op a (S.same.free h), n⟩
 . exact ⟨S.same.free h, n⟩, S.same.tabs S.opn.tb⟩
def vz (F : Fn) (O : Addr -> Prop) (ow fr : Bool) : aA := if ow then (if fr then nw F.H else F.Z) else zn F O fr
theorem aU (S : aZ K F H vs ρ A) (ow fr : Bool) : (vz F (bc A) ow fr).Open H := by
 unfold vz;cases ow
 . exact fY S fr
 . cases fr
   . exact S.opn.same S.same
   . exact Bq S.opn.tb S.same
def yK (ow fr : Bool) : Option Slot -> Option D
 | some (.pl f d) => if fr && !f then none else some d
 | some (.ow f ds) => if ow && (!fr || f) then some (.lst ds) else none
 | some (.ow2 f dss) => if ow && (!fr || f) then some (.lst (dss.map .lst)) else none
 | some (.oa d) => if ow then some d else none
 | some (.sh _) => none
 | some (.owl _ _ _) => none
 | some (.od o) => if ow then some (.dct o) else none
 | some (.rf _) => none
 | some (.tr d) => if ow then some d else none
 | some (.trl _ d) => if ow then some d else none
 | none => none
def view (ow fr : Bool) (ρ : cR) : List (Option D) := ρ.map (yK ow fr)
theorem zG (op : F.Z.Open F.H) {f ow : Bool} (hf : fr = true -> f = true) : Carry K H (zn F O f) H (vz F O ow fr) := by
 refine .of (aq.refl H) (fun a xs e z => ?_) fun m => ?_
 . unfold vz zn at *;cases ow <;> cases fr <;> cases f <;> simp at hf z ⊢ <;> first
    | exact z
    | exact z.1
    | exact ⟨op a z.1, z.2⟩
    | exact op a z.1
 . unfold vz zn at *;cases ow <;> cases fr <;> cases f <;> simp at hf m ⊢ <;> exact m
theorem zq {Z Z' : aA} {dss : List (List D)} {as : List Addr} (h : km K H Z dss as) (c : Carry K H Z H Z') (n : ∀ a ∈ as, Z'.S a) : aH K H Z' (dss.map D.lst) (as.map V.ref) := by
 induction h with
 | nil => exact aD.mpr rfl
 | cons r t ih =>
  obtain ⟨xs, e, i⟩ := r;exact ao.mpr ⟨_, _, rfl, ar.mpr ⟨_, xs, rfl, .inl ⟨e, n _ (by simp)⟩, i.carry c⟩, ih fun a ha => n a (by simp [ha])⟩
theorem wZ (op : F.Z.Open F.H) {mine : List Addr} {v : V} {sl : Slot} {ow : Bool} {d : D} (new : ∀ a ∈ mine, F.H a = none) (h : cX K F H O mine v sl) (e : yK ow fr (some sl) = some d) : In K H (vz F O ow fr) d v := by
 have inS : ow = true -> ∀ a ∈ mine, (vz F O ow fr).S a := fun ho a ha => by
  subst ho;unfold vz;cases fr
  . exact op a (new a ha)
  . exact new a ha
 cases sl with
 | pl f d' =>
  change (if (fr && !f) = true then none else some d') = some d at e;by_cases q : (fr && !f) = true
  . rw [if_pos q] at e; cases e
  . rw [if_neg q] at e;cases e;refine In.carry (zG op fun hf => ?_) h;subst hf;simpa using q
 | ow f ds =>
  change (if (ow && (!fr || f)) = true then some (D.lst ds) else none) = some d at e;by_cases q : (ow && (!fr || f)) = true
  . rw [if_pos q] at e;cases e;obtain ⟨l, xs, rfl, rfl, hl, i⟩ := h;simp at q;refine ar.mpr ⟨l, xs, rfl, .inl ⟨hl, inS q.1 l (by simp)⟩, i.carry (zG op fun hf => ?_)⟩;subst hf;simpa using q.2
  . rw [if_neg q] at e; cases e
 | ow2 f dss =>
  change (if (ow && (!fr || f)) = true then some (D.lst (dss.map D.lst)) else none) = some d at e;by_cases q : (ow && (!fr || f)) = true
  . rw [if_pos q] at e;cases e;obtain ⟨l, as, rfl, rfl, hl, i⟩ := h;simp at q;refine ar.mpr ⟨l, _, rfl, .inl ⟨hl, inS q.1 l (by simp)⟩, zq i (zG op fun hf => ?_) fun a ha => inS q.1 a (by simp [ha])⟩;subst hf;simpa using q.2
  . rw [if_neg q] at e; cases e
 | oa d' =>
  change (if ow = true then some d' else none) = some d at e;by_cases q : ow = true
  . rw [if_pos q] at e;cases e;exact In.carry ⟨fun a xs e z => ⟨e, inS q a z⟩, fun m => Bool.noConfusion (show true = false from m), fun _ _ e => e⟩ h
  . rw [if_neg q] at e; cases e
 | sh p => cases e
 | owl l f ds => cases e
 | rf u => cases e
 | tr d' =>
  change (if ow = true then some d' else none) = some d at e;by_cases q : ow = true
  . rw [if_pos q] at e;cases e;exact Tr.wd (inS q) h
  . rw [if_neg q] at e; cases e
 | trl u d' =>
  change (if ow = true then some d' else none) = some d at e;by_cases q : ow = true
  . rw [if_pos q] at e;cases e;exact Tr.wd (inS q) h.2
  . rw [if_neg q] at e; cases e
 | od o =>
  change (if ow = true then some (D.dct o) else none) = some d at e;by_cases q : ow = true
  . rw [if_pos q] at e;cases e;obtain ⟨l, rfl, rfl, hl⟩ := h;exact bq.mpr ⟨l, rfl, hl, inS q l (by simp)⟩
  . rw [if_neg q] at e; cases e
theorem aZ.env {σ hv : St} {hρ : cR} (S : aZ K F H (σ ++ hv) (ρ ++ hρ) A) (hl : σ.length = ρ.length) (ow fr : Bool) : bM K H (vz F (bc A) ow fr) σ (view ow fr ρ) := fun i d e => by
 unfold view at e;rw [getElem?_map] at e
 cases q : ρ[i]? with
 | none => rw [q] at e; cases e
 | some o =>
  rw [q] at e
  cases o with
  | none => simp [yK] at e
  | some sl =>
   have hi : i < ρ.length := (List.getElem?_eq_some_iff.mp q).1;obtain ⟨v, a, b⟩ := S.at' i sl (by rw [getElem?_append_left hi]; exact q);rw [getElem?_append_left (by omega)] at a;exact ⟨v, a, wZ S.opn (S.new i) b (by simpa using e)⟩
def bD (A : Nat -> List Addr) (i : Nat) (l : List Addr) : Nat -> List Addr := fun j => if j = i then l else A j
theorem aR {i : Nat} {l : List Addr} : bD A i l i = l := by unfold bD; rw [if_pos rfl]
theorem bw {i j : Nat} {l : List Addr} (h : j ≠ i) : bD A i l j = A j := by unfold bD; rw [if_neg h]
theorem Ai {i : Nat} {l : List Addr} {H2 : Hp} (S : aZ K F H vs ρ A) (k : ∀ b o, H b = some o -> AO o = false -> b ∉ A i -> H2 b = some o) (hl : ∀ a ∈ l, a ∈ A i \/ H a = none) (fr : Bool) : Carry K H (zn F (bc A) fr) H2 (zn F (bc (bD A i l)) fr) := by
 have notI : ∀ {a : Addr} {o : HO}, H a = some o -> (∀ xs : MO, o ≠ xs.ho) -> a ∉ A i := fun {a o} e n z => by
  obtain ⟨xs, e'⟩ := S.lst i a z;rw [e] at e';exact n xs (Option.some.inj e')
 refine ⟨fun a xs e z => ?_, fun m => ⟨?_, fun a xs e => ?_⟩, fun a xs e => ?_⟩
 . have key : ¬ bc A a -> H2 a = some xs.ho /\ ¬ bc (bD A i l) a := fun n => ⟨k a _ e xs.nt fun z => n ⟨i, z⟩, fun ⟨k', hk⟩ => by
    by_cases q2 : k' = i
    . rw [q2, aR] at hk;rcases hl a hk with z | z
      . exact n ⟨i, z⟩
      . rw [e] at z; cases z
    . rw [bw q2] at hk;exact n ⟨k', hk⟩⟩
   unfold zn at z ⊢;cases fr
   . exact ⟨(key z.2).1, z.1, (key z.2).2⟩
   . exact ⟨(key z.2).1, z.1, (key z.2).2⟩
 . unfold zn at m ⊢;cases fr
   . exact m
   . exact m
 . rcases e with ⟨o, e⟩ | e
   . exact .inl ⟨o, k a _ e rfl (notI e fun xs z => xs.FI z.symm)⟩
   . exact .inr e
 . exact k a _ e rfl (notI e fun xs z => xs.wM z.symm)
theorem aZ.re {i : Nat} {v : V} {sl : Slot} {l : List Addr} {H2 : Hp} (S : aZ K F H vs ρ A) (hi : i < ρ.length) (hiv : i < vs.length) (sm : aq F.H H2) (k : ∀ b o, H b = some o -> AO o = false -> b ∉ A i -> H2 b = some o) (nd : l.Nodup)
 (hl : ∀ a ∈ l, (a ∈ A i \/ H a = none) /\ ∃ xs : MO, H2 a = some xs.ho) (h : cX K F H2 (bc (bD A i l)) l v sl) : aZ K F H2 (vs.set i (some v)) (ρ.set i (some sl)) (bD A i l) := by
 have disj : ∀ j a, j ≠ i -> a ∈ A j -> a ∉ l := fun j a hj ha hal => by
  rcases (hl a hal).1 with z | z
  . exact hj (S.one j i a ha z)
  . obtain ⟨xs, e⟩ := S.lst j a ha; rw [z] at e; cases e
 refine ⟨sm, S.opn, fun j => ?_, fun j k' a hj hk => ?_, fun j a ha => ?_, fun j a ha => ?_, fun j sl' e => ?_⟩
 . by_cases q : j = i
   . rw [q, aR]; exact nd
   . rw [bw q]; exact S.nd j
 . by_cases q : j = i
   . by_cases q2 : k' = i
     . rw [q, q2]
     . rw [q, aR] at hj; rw [bw q2] at hk;exact absurd hj (disj k' a q2 hk)
   . rw [bw q] at hj;by_cases q2 : k' = i
     . rw [q2, aR] at hk;exact absurd hk (disj j a q hj)
     . rw [bw q2] at hk;exact S.one j k' a hj hk
 . by_cases q : j = i
   . rw [q, aR] at ha;rcases (hl a ha).1 with z | z
     . exact S.new i a z
     . exact S.same.free z
   . rw [bw q] at ha; exact S.new j a ha
 . by_cases q : j = i
   . rw [q, aR] at ha; exact (hl a ha).2
   . rw [bw q] at ha;obtain ⟨xs, e⟩ := S.lst j a ha;exact ⟨xs, k a _ e xs.nt fun z => q (S.one j i a ha z)⟩
 . by_cases q : j = i
   . subst q;rw [List.getElem?_set_self hi] at e;cases e;exact ⟨v, by rw [List.getElem?_set_self hiv], by rw [aR]; exact h⟩
   . rw [List.getElem?_set_ne (Ne.symm q)] at e;obtain ⟨w, a, b⟩ := S.at' j sl' e;refine ⟨w, by rw [List.getElem?_set_ne (Ne.symm q)]; exact a, ?_⟩;rw [bw q];exact b.carry (fun a xs ha e => k a _ e xs.nt fun z => q (S.one j i a ha z)) fun fr => Ai S k (fun a ha => (hl a ha).1) fr
theorem aZ.put {i : Nat} {v : V} {sl : Slot} {l : List Addr} {H2 : Hp} (S : aZ K F H vs ρ A) (hi : i < ρ.length) (hiv : i < vs.length) (s : aq H H2) (nd : l.Nodup) (hl : ∀ a ∈ l, H a = none /\ ∃ xs : MO, H2 a = some xs.ho)
 (h : cX K F H2 (bc (bD A i l)) l v sl) : aZ K F H2 (vs.set i (some v)) (ρ.set i (some sl)) (bD A i l) := S.re hi hiv (S.same.trans s) (fun b o e n _ => s.get b o e n) nd (fun a ha => ⟨.inr (hl a ha).1, (hl a ha).2⟩) h
theorem pI {i : Nat} : Carry K H (zn F (bc A) fr) H (zn F (bc (bD A i [])) fr) := by
 have n : ∀ {P : Prop} {a : Addr}, P /\ ¬ bc A a -> P /\ ¬ bc (bD A i []) a := fun {P a} z => ⟨z.1, fun ⟨k, hk⟩ => by
  by_cases q : k = i
  . rw [q, aR] at hk; simp at hk
  . rw [bw q] at hk; exact z.2 ⟨k, hk⟩⟩
 refine .of (aq.refl _) (fun a xs e z => ?_) fun m => ?_
 . unfold zn at z ⊢;cases fr
   . exact n z
   . exact n z
 . unfold zn at m ⊢;cases fr
   . exact m
   . exact m
end
structure jv where
 nx : cR -> Prop
 rt : D -> Prop
 bk : cR -> Prop := fun _ => False
 ct : cR -> Prop := fun _ => False
 rtT : D -> Prop := fun _ => False
 rtM : cR -> D -> Prop := fun _ _ => False
def mr (K : Frag) (F : Fn) (hv : St) (hρ : cR) (N : cR -> Prop) (σ : St) (H : Hp) : Prop := ∃ ρ A, σ.length = ρ.length /\ aZ K F H (σ ++ hv) (ρ ++ hρ) A /\ N ρ
structure Fits (K : Frag) (F : Fn) (hv : St) (hρ : cR) (Q : jv) (Q' : Ends) : Prop where
 hl : hv.length = hρ.length
 nx : ∀ σ H, mr K F hv hρ Q.nx σ H -> Q'.nx σ H
 bk : ∀ σ H, mr K F hv hρ Q.bk σ H -> Q'.bk σ H
 ct : ∀ σ H, mr K F hv hρ Q.ct σ H -> Q'.ct σ H
 rt : ∀ v d H, aq F.H H -> In K H (out F.m F.Z F.H) d v -> Q.rt d -> Q'.rt v H
 rtT : ∀ v d H as, aq F.H H -> Tr K H d v as -> as.Nodup -> (∀ a ∈ as, F.H a = none) -> Q.rtT d -> Q'.rt v H
 rtM : ∀ σ H ρ A v d as, σ.length = ρ.length -> aZ K F H (σ ++ hv) (ρ ++ hρ) A -> Tr K H d v as -> as.Nodup -> (∀ a ∈ as, F.H a = none) -> (∀ i a, a ∈ A i -> a ∉ as) -> Q.rtM ρ d -> Q'.rt v H
def tS (K : Frag) (F : Fn) (ρ : cR) (Q : jv) : TS := fun Q' σ H => ∃ hv hρ A, σ.length = ρ.length /\ aZ K F H (σ ++ hv) (ρ ++ hρ) A /\ Fits K F hv hρ Q Q'
def SD (X : Cx) (F : Fn) (st : List Stmt) (ρ : cR) (Q : jv) : Prop := lZ X st (tS X.K F ρ Q)
def Hn (X : Cx) (F : Fn) (st : Stmt) (ρ : cR) (Q : jv) : Prop := PS X st (tS X.K F ρ Q)
theorem PS.mono {X : Cx} {st : Stmt} {t t' : TS} (h : PS X st t) (k : ∀ Q σ H, t' Q σ H -> t Q σ H) : PS X st t' := fun pins s σ H Q I q => h pins s σ H Q I (k Q σ H q)
theorem lZ.mono {X : Cx} {st : List Stmt} {t t' : TS} (h : lZ X st t) (k : ∀ Q σ H, t' Q σ H -> t Q σ H) : lZ X st t' := fun pins s σ H Q I q => h pins s σ H Q I (k Q σ H q)
section
variable {X : Cx} {F : Fn} {ρ : cR} {Q : jv} {st : Stmt} {rest body orelse : List Stmt} {e a c : Expr} {d : D} {pos p : Pos} {i : Nat} {x : Str} {fr m1 : Bool}
theorem Fits.step {K : Frag} {hv : St} {hρ : cR} {Q' : Ends} {N : cR -> Prop} {n : St -> Hp -> Prop} (f : Fits K F hv hρ Q Q') (h : ∀ σ H, mr K F hv hρ N σ H -> n σ H) : Fits K F hv hρ { Q with nx := N } { Q' with nx := n } := ⟨f.hl, h, f.bk, f.ct, f.rt, f.rtT, f.rtM⟩
theorem aB (h : Q.nx ρ) : SD X F [] ρ Q := lZ.mono Ca fun Q' σ H z0 => fc z0 fun hv hρ A hl S f => f.nx σ H ⟨ρ, A, hl, S, h⟩
theorem gN {N : cR -> Prop} (h1 : Hn X F st ρ { Q with nx := N }) (h2 : ∀ ρ', N ρ' -> SD X F rest ρ' Q) : SD X F (st :: rest) ρ Q :=
 lZ.mono (yJ (u := fun Q' σ H => ∃ ρ', N ρ' /\ tS X.K F ρ' Q Q' σ H) h1 fun pins s σ H Q' I ⟨ρ', n, t⟩ => h2 ρ' n pins s σ H Q' I t) fun Q' σ H ⟨hv, hρ, A, hl, S, f⟩ =>
  ⟨hv, hρ, A, hl, S, f.step fun σ' H' ⟨ρ', A', hl', S', n⟩ => ⟨ρ', n, hv, hρ, A', hl', S', f⟩⟩
theorem cH {ρ' : cR} (h1 : Hn X F st ρ { Q with nx := fun r => r = ρ' }) (h2 : SD X F rest ρ' Q) : SD X F (st :: rest) ρ Q := gN h1 fun r e => by subst e; exact h2
theorem bG {α : Type} {l r : List α} {i : Nat} {v : α} (h : i < l.length) : (l ++ r).set i v = l.set i v ++ r := by
 rw [List.set_append_left _ _ h]
theorem uV {K : Frag} {hv : St} {hρ : cR} {σ : St} {H H1 : Hp} {A : Nat -> List Addr} {v : V} (hl : σ.length = ρ.length) (S : aZ K F H (σ ++ hv) (ρ ++ hρ) A) (hi : i < ρ.length) (s : aq H H1) (h : In K H1 (zn F (bc A) fr) d v) :
 aZ K F H1 (σ.set i (some v) ++ hv) (ρ.set i (some (.pl fr d)) ++ hρ) (bD A i []) := by
 rw [<- bG (by omega), <- bG hi];exact S.put (by rw [List.length_append]; omega) (by rw [List.length_append]; omega) s List.nodup_nil (fun a ha => by simp at ha) (In.carry pI h)
theorem lg {K : Frag} {hv : St} {hρ : cR} {σ : St} {H H1 : Hp} {A : Nat -> List Addr} {v : V} (hl : σ.length = ρ.length) (S : aZ K F H (σ ++ hv) (ρ ++ hρ) A) (hi : i < ρ.length) (s : aq H H1) (h : In K H1 (zn F (bc A) fr) d v) :
 mr K F hv hρ (fun r => r = ρ.set i (some (.pl fr d))) (σ.set i (some v)) H1 := ⟨_, bD A i [], by simp [hl], uV hl S hi s h, rfl⟩
theorem oy (i : Nat) (fr : Bool) {x : Str} {d : D} (he : E X false (view false fr ρ) e d) (hr : SD X F rest (ρ.set i (some (.pl fr d))) Q) (hN : X.N.Nodup) (hi : X.N[i]? = some x := by rfl)
 (hx : Loc X.env.scope x := by first | exact Or.inl rfl | exact Or.inr rfl) (hρ : i < ρ.length := by exact of_decide_eq_true rfl) (hs : swapsWith e (some (.Name x p)) pos.line X.env = pure false := by rfl) (hf : X.fn x = true \/ X.env.scope.names.lookup x = some .local := by first | exact .inl rfl | exact .inr rfl) :
 SD X F (.Assign [.Name x p] e pos :: rest) ρ Q :=
 cH (PS.mono (lJ hN hi hx he hs hf) fun Q' σ H z0 => fc z0 fun hv hρ' A hl S f => ⟨_, aU S false fr, S.env hl false fr, fun v H1 s1 i1 => f.nx _ H1 (lg hl S hρ s1 i1)⟩) hr
theorem dY (i : Nat) {x : Str} {d : D} (he : E X true (view true false ρ) e d) (hr : SD X F rest (ρ.set i (some (.pl true d))) Q) (hN : X.N.Nodup) (hi : X.N[i]? = some x := by rfl)
 (hx : Loc X.env.scope x := by first | exact Or.inl rfl | exact Or.inr rfl) (hρ : i < ρ.length := by exact of_decide_eq_true rfl) (hs : swapsWith e (some (.Name x p)) pos.line X.env = pure false := by rfl) (hf : X.fn x = true \/ X.env.scope.names.lookup x = some .local := by first | exact .inl rfl | exact .inr rfl) :
 SD X F (.Assign [.Name x p] e pos :: rest) ρ Q :=
 cH (PS.mono (lJ hN hi hx he hs hf) fun Q' σ H z0 => fc z0 fun hv hρ' A hl S f => ⟨_, aU S true false, S.env hl true false, fun v H1 s1 i1 => f.nx _ H1 (lg hl S hρ s1 (In.up (fY S true) i1))⟩) hr
theorem aI (i : Nat) {x : Str} {d : D} (he : E X m1 (view true false ρ) e d) (fl : d.flat = true) (hr : SD X F rest (ρ.set i (some (.pl true d))) Q) (hN : X.N.Nodup) (hi : X.N[i]? = some x := by rfl)
 (hx : Loc X.env.scope x := by first | exact Or.inl rfl | exact Or.inr rfl) (hρ : i < ρ.length := by exact of_decide_eq_true rfl) (hs : swapsWith e (some (.Name x p)) pos.line X.env = pure false := by rfl) (hf : X.fn x = true \/ X.env.scope.names.lookup x = some .local := by first | exact .inl rfl | exact .inr rfl) :
 SD X F (.Assign [.Name x p] e pos :: rest) ρ Q := dY i (he.flat fl) hr hN hi hx hρ hs hf
theorem aY (fr : Bool) {d : D} (he : E X m1 (view true fr ρ) e d) (h : Q.rt d) (hm : F.m = true -> fr = true \/ m1 = true := by intro h; first | exact .inl rfl | exact .inr rfl | cases h) : SD X F (.Return (some e) pos :: rest) ρ Q :=
 gN (N := fun _ => False) (PS.mono (zd he) fun Q' σ H z0 => fc z0 fun hv hρ A hl S f => ⟨_, aU S true fr, S.env hl true fr, fun v H1 s1 i1 => f.rt v d H1 (S.same.trans s1) (by
  have key : (F.m = true -> In X.K H1 (nw F.H) d v) /\ In X.K H1 F.Z d v := by
   cases m1 with
   | true =>
    have i2 : In X.K H1 (nw F.H) d v := In.later (m := true) (Z := F.Z) S.same i1;exact ⟨fun _ => i2, i2.up S.opn⟩
   | false =>
    cases fr with
    | true =>
     have i2 : In X.K H1 (nw F.H) d v := i1;exact ⟨fun _ => i2, i2.up S.opn⟩
    | false =>
     have i2 : In X.K H1 F.Z d v := i1;exact ⟨fun h => (hm h).elim (fun z => (nomatch z)) (fun z => (nomatch z)), i2⟩
  cases hmm : F.m with
  | false => exact key.2
  | true => exact key.1 hmm) h⟩) fun _ n => n.elim
theorem ig {b : Bool} (hc : T X (view true false ρ) c b) (h1 : b = true -> SD X F body ρ { Q with nx := fun r => SD X F rest r Q }) (h2 : b = false -> SD X F orelse ρ { Q with nx := fun r => SD X F rest r Q }) : SD X F (.If c body orelse pos :: rest) ρ Q := by
 refine gN (N := fun r => SD X F rest r Q) ?_ fun _ h => h
 cases b with
 | true =>
  exact PS.mono (mR hc (h1 rfl) (dy (sts := orelse))) fun Q' σ H z0 => fc z0 fun hv hρ A hl S f => ⟨_, aU S true false, S.env hl true false, fun H1 s1 => by
   refine lO ?_; exact ⟨hv, hρ, A, hl, S.grow s1, f⟩⟩
 | false =>
  exact PS.mono (mR hc (dy (sts := body)) (h2 rfl)) fun Q' σ H z0 => fc z0 fun hv hρ A hl S f => ⟨_, aU S true false, S.env hl true false, fun H1 s1 => by
   refine lW ?_; exact ⟨hv, hρ, A, hl, S.grow s1, f⟩⟩
theorem Af (ρ1 : cR) {b : Bool} (hc : T X (view true false ρ) c b) (h1 : b = true -> SD X F body ρ { Q with nx := fun r => r = ρ1 }) (h2 : b = false -> SD X F orelse ρ { Q with nx := fun r => r = ρ1 }) (h3 : SD X F rest ρ1 Q) : SD X F (.If c body orelse pos :: rest) ρ Q := by
 refine cH (ρ' := ρ1) ?_ h3
 cases b with
 | true =>
  exact PS.mono (mR hc (h1 rfl) (dy (sts := orelse))) fun Q' σ H z0 => fc z0 fun hv hρ A hl S f => ⟨_, aU S true false, S.env hl true false, fun H1 s1 => by
   refine lO ?_; exact ⟨hv, hρ, A, hl, S.grow s1, f⟩⟩
 | false =>
  exact PS.mono (mR hc (dy (sts := body)) (h2 rfl)) fun Q' σ H z0 => fc z0 fun hv hρ A hl S f => ⟨_, aU S true false, S.env hl true false, fun H1 s1 => by
   refine lW ?_; exact ⟨hv, hρ, A, hl, S.grow s1, f⟩⟩
theorem lu (P : cR -> Prop) (μ : cR -> Nat) (b : cR -> Bool) (h0 : P ρ) (hl0 : ∀ r, P r -> r.length = ρ.length) (hc : ∀ r, P r -> T X (view true false r) c (b r))
 (hb : ∀ r, P r -> b r = true -> SD X F body r { Q with nx := fun r' => P r' /\ μ r' < μ r, ct := fun r' => P r' /\ μ r' < μ r, bk := fun r => SD X F rest r Q }) (hd : ∀ r, P r -> b r = false -> SD X F rest r Q)
 (hp : PassesOwn (model X.prog X.w) X.A X.env X.xe := by exact PassesOwn.never) : SD X F (.While c body [] pos :: rest) ρ Q := by
 refine gN (N := fun r => SD X F rest r Q) ?_ fun _ h => h;refine PS.mono (yW (tc := fun σ H R => ∃ r, P r /\ vR X.K (view true false r) (b r) σ H R) (tb := fun Q' σ H => ∃ r, P r /\ b r = true /\ tS X.K F r { Q with nx := fun r' => P r' /\ μ r' < μ r, ct := fun r' => P r' /\ μ r' < μ r, bk := fun r => SD X F rest r Q } Q' σ H) hp
  (fun pins s σ H R I ⟨r, pr, q⟩ => hc r pr pins s σ H R I q) (fun pins s σ H Q' I ⟨r, pr, br, q⟩ => hb r pr br pins s σ H Q' I q)) fun Q' σ H z0 => fc z0 fun hv hρ A hl S f => ?_
 refine ⟨fun n σ H => ∃ r A, n = μ r /\ P r /\ σ.length = r.length /\ aZ X.K F H (σ ++ hv) (r ++ hρ) A, ⟨_, ρ, A, rfl, h0, hl, S⟩, ?_⟩;rintro n σ1 H1 ⟨r, A1, rfl, pr, hl1, S1⟩;refine ⟨r, pr, _, aU S1 true false, S1.env hl1 true false, fun H2 s2 => ?_⟩
 cases hbr : b r with
 | true =>
  refine lO ?_;refine ⟨mr X.K F hv hρ fun r' => P r' /\ μ r' < μ r, fun σ' H' ⟨r', A', hl', S', p', lt⟩ => ⟨μ r', lt, r', A', rfl, p', hl', S'⟩, r, pr, hbr, hv, hρ, A1, hl1, S1.grow s2, ⟨f.hl, fun _ _ h => h, fun σ H h => f.nx σ H h, fun _ _ h => h, f.rt, f.rtT, f.rtM⟩⟩
 | false =>
  refine lW ?_;exact f.nx _ _ ⟨r, A1, hl1, S1.grow s2, hd r pr hbr⟩
def Ak (fr : Bool) (cW : List D) : cR := cW.map fun d => some (.pl fr d)
theorem aZ.hide {K : Frag} {H : Hp} {σ hv : St} {r hρ : cR} {A : Nat -> List Addr} {cW : List D} {vs : List V} (S : aZ K F H (σ ++ hv) (r ++ hρ) A) (h1 : σ.length = r.length) (h2 : hv.length = hρ.length) (iz : aH K H (zn F (bc A) fr) cW vs) :
 aZ K F H (σ ++ (hv ++ vs.map some)) (r ++ (hρ ++ Ak fr cW)) A := by
 refine ⟨S.same, S.opn, S.nd, S.one, S.new, S.lst, fun i sl e => ?_⟩;rw [<- List.append_assoc] at e ⊢;by_cases hi : i < (r ++ hρ).length
 . rw [getElem?_append_left hi] at e;rw [getElem?_append_left (by rw [List.length_append] at hi ⊢; omega)];exact S.at' i sl e
 . rw [getElem?_append_right (by omega)] at e;rw [getElem?_append_right (by rw [List.length_append] at hi ⊢; omega)];have hle : (σ ++ hv).length = (r ++ hρ).length := by rw [List.length_append, List.length_append]; omega
   rw [hle];unfold Ak at e;rw [getElem?_map] at e
   cases q : cW[i - (r ++ hρ).length]? with
   | none => rw [q] at e; cases e
   | some d =>
    rw [q] at e;have e' : some (Slot.pl fr d) = some sl := by simpa using e
    cases e';obtain ⟨v, a, b⟩ := iz.get q;exact ⟨v, by rw [getElem?_map, a]; rfl, b⟩
theorem aZ.cW {K : Frag} {H : Hp} {σ hv : St} {r hρ : cR} {A : Nat -> List Addr} {cW : List D} {vs : List V} (S : aZ K F H (σ ++ (hv ++ vs.map some)) (r ++ (hρ ++ Ak fr cW)) A) (h1 : σ.length = r.length) (h2 : hv.length = hρ.length) (hsv : cW.length = vs.length) :
 aH K H (zn F (bc A) fr) cW vs := by
 refine aH.of_get hsv fun i d v e1 e2 => ?_;have hle : (σ ++ hv).length = (r ++ hρ).length := by rw [List.length_append, List.length_append]; omega
 obtain ⟨w, a, b⟩ := S.at' ((r ++ hρ).length + i) (.pl fr d) (by
  rw [<- List.append_assoc, getElem?_append_right (by omega), Nat.add_sub_cancel_left];unfold Ak;rw [getElem?_map, e1]; rfl)
 rw [<- List.append_assoc, getElem?_append_right (by omega), hle, Nat.add_sub_cancel_left, getElem?_map, e2] at a;cases a;exact b
theorem aZ.t7 {K : Frag} {H : Hp} {σ hv e1 : St} {r hρ e2 : cR} {A : Nat -> List Addr} (S : aZ K F H (σ ++ (hv ++ e1)) (r ++ (hρ ++ e2)) A) (h1 : σ.length = r.length) (h2 : hv.length = hρ.length) : aZ K F H (σ ++ hv) (r ++ hρ) A := by
 refine ⟨S.same, S.opn, S.nd, S.one, S.new, S.lst, fun i sl e => ?_⟩;have hi : i < (r ++ hρ).length := (List.getElem?_eq_some_iff.mp e).1;obtain ⟨v, a, b⟩ := S.at' i sl (by rw [<- List.append_assoc, getElem?_append_left hi]; exact e);rw [<- List.append_assoc, getElem?_append_left (by rw [List.length_append] at hi ⊢; omega)] at a;exact ⟨v, a, b⟩
theorem u7 {tg iter : Expr} {ds : List D} {mi : Bool} {g : TG} (fr : Bool) (G : D -> cR -> cR) (P : Nat -> cR -> Prop) (hi : IT X tg mi (view false fr ρ) iter ds) (h0 : P 0 ρ) (hg : PG X tg g)
 (hG : ∀ n d r (hv : St) (hρ : cR) (σ : St) (H H1 : Hp) (A : Nat -> List Addr) (v : V) (Q : St -> Hp -> Prop), ds[n]? = some d -> P n r -> σ.length = r.length -> aZ X.K F H (σ ++ hv) (r ++ hρ) A -> aq H H1 -> In X.K H1 (zn F (bc A) fr) d v ->
  (∀ σ' H', mr X.K F hv hρ (fun r' => r' = G d r) σ' H' -> Q σ' H') -> g v σ H1 Q)
 (hb : ∀ n d r, ds[n]? = some d -> P n r -> SD X F body (G d r) { Q with nx := P (n + 1), ct := P (n + 1), bk := fun r => SD X F rest r Q }) (hd : ∀ r, P ds.length r -> SD X F rest r Q)
 (hc : X.calm = true := by rfl) (hs : ∀ x, foldedSetIterable iter X.env x = pure x := by intro _; rfl) (hp : PassesOwn (model X.prog X.w) X.A X.env X.xe := by exact PassesOwn.never) : SD X F (.For tg iter body [] pos :: rest) ρ Q := by
 refine gN (N := fun r => SD X F rest r Q) ?_ fun _ h => h;refine PS.mono (DQ (g := g) (tb := fun Q' σ H => ∃ n d r, ds[n]? = some d /\ P n r /\ tS X.K F (G d r) { Q with nx := P (n + 1), ct := P (n + 1), bk := fun r => SD X F rest r Q } Q' σ H) hp hc hi hg
  (fun pins s σ H Q' I ⟨n, d, r, e, pr, q⟩ => hb n d r e pr pins s σ H Q' I q) hs) fun Q' σ H z0 => fc z0 fun hv hρ A hl S f => ?_
 refine ⟨_, aU S false fr, S.env hl false fr, fun J H1 vs cW s1 i1 Y => ?_⟩;have iz : aH X.K H1 (zn F (bc A) fr) cW vs := by
  cases mi
  . exact i1
  . exact i1.up (fY S fr)
 have hsv := iz.length;refine ⟨fun n m σ H => m = ds.length - n /\ n <= ds.length /\ ∃ r A, P n r /\ σ.length = r.length /\ aZ X.K F H (σ ++ (hv ++ vs.map some)) (r ++ (hρ ++ Ak fr cW)) A, ⟨_, rfl, Nat.zero_le _, ρ, A, h0, hl, (S.grow s1).hide hl f.hl iz⟩, ?_⟩;rintro n m σ1 H2 ⟨rfl, hn, r, A1, pr, hl1, S1⟩;have iz1 := S1.cW hl1 f.hl hsv;by_cases hlt : n < ds.length
 . have hdn : ds[n]? = some ds[n] := by simp [hlt]
   obtain ⟨go, yl⟩ := Y.go _ H2 (fY S1 fr) iz1 n ds[n] hdn;refine .inr ⟨go, mr X.K F (hv ++ vs.map some) (hρ ++ Ak fr cW) (P (n + 1)), fun σ' H' ⟨r', A', hl', S', p'⟩ => ⟨ds.length - (n + 1), by omega, rfl, hlt, r', A', p', hl', S'⟩, fun y H3 hy => ?_⟩;obtain ⟨s3, iy⟩ := yl y H3 hy;refine hG n ds[n] r _ _ σ1 H2 H3 A1 y _ hdn pr hl1 S1 s3 iy fun σ4 H4 ⟨r4, A4, hl4, S4, e4⟩ => ?_;subst e4;refine ⟨n, ds[n], r, hdn, pr, _, _, A4, hl4, S4, ⟨by simp [Ak, f.hl, hsv], fun _ _ h => h, fun σ5 H5 ⟨r5, A5, hl5, S5, q5⟩ => f.nx σ5 H5 ⟨r5, A5, hl5, S5.t7 hl5 f.hl, q5⟩, fun _ _ h => h, f.rt, f.rtT, fun σ6 H6 r6 A6 v6 d6 as6 hl6 S6 => f.rtM σ6 H6 r6 A6 v6 d6 as6 hl6 (S6.t7 hl6 f.hl)⟩⟩
 . have e : n = ds.length := by omega
   subst e;exact .inl ⟨Y.stop _ H2 (fY S1 fr) iz1, f.nx _ _ ⟨r, A1, hl1, S1.t7 hl1 f.hl, hd r pr⟩⟩
theorem cj (k : Nat) {x : Str} {px : Pos} {iter : Expr} {ds : List D} {mi : Bool} (P : Nat -> cR -> Prop) (hi : IT X (.Name x px) mi (view false false ρ) iter ds) (fl : ∀ d ∈ ds, d.flat = true) (h0 : P 0 ρ) (hlen : ∀ n r, P n r -> k < r.length)
 (hb : ∀ (n : Nat) d r, ds[n]? = some d -> P n r -> SD X F body (r.set k (some (.pl true d))) { Q with nx := P (n + 1), ct := P (n + 1), bk := fun r => SD X F rest r Q }) (hd : ∀ r, P ds.length r -> SD X F rest r Q)
 (hN : X.N.Nodup) (hx : X.N[k]? = some x := by rfl) (hxl : Loc X.env.scope x := by first | exact Or.inl rfl | exact Or.inr rfl) (hf : X.fn x = true \/ X.env.scope.names.lookup x = some .local := by first | exact .inl rfl | exact .inr rfl) (hc : X.calm = true := by rfl)
 (hs : ∀ x, foldedSetIterable iter X.env x = pure x := by intro _; rfl) (hp : PassesOwn (model X.prog X.w) X.A X.env X.xe := by exact PassesOwn.never) : SD X F (.For (.Name x px) iter body [] pos :: rest) ρ Q :=
 u7 false (fun d r => r.set k (some (.pl true d))) P hi h0 (fU hN hx hxl hf) (fun n d r hv hρ σ H H1 A v q e pr hl S s i h => h _ _ (lg hl S (hlen n r pr) s (i.df (fl d (mem_of_getElem? e))))) hb hd hc hs hp
theorem jP (k l : Nat) (fr : Bool) {x y : Str} {px py pt : Pos} {kt : Nat} {iter : Expr} {ds : List D} {mi : Bool} (P : Nat -> cR -> Prop) (hi : IT X (.Tuple [.Name x px, .Name y py] kt pt) mi (view false fr ρ) iter ds) (h0 : P 0 ρ)
 (hlen : ∀ n r, P n r -> k < r.length /\ l < r.length) (hpair : ∀ d ∈ ds, ∃ d1 d2, d = .tup [d1, d2])
 (hb : ∀ n d1 d2 r, ds[n]? = some (.tup [d1, d2]) -> P n r -> SD X F body ((r.set k (some (.pl fr d1))).set l (some (.pl fr d2))) { Q with nx := P (n + 1), ct := P (n + 1), bk := fun r => SD X F rest r Q }) (hd : ∀ r, P ds.length r -> SD X F rest r Q)
 (hN : X.N.Nodup) (hx : X.N[k]? = some x := by rfl) (hy : X.N[l]? = some y := by rfl) (hxl : Loc X.env.scope x := by first | exact Or.inl rfl | exact Or.inr rfl) (hyl : Loc X.env.scope y := by first | exact Or.inl rfl | exact Or.inr rfl)
 (hf : X.fn x = true \/ X.env.scope.names.lookup x = some .local := by first | exact .inl rfl | exact .inr rfl) (hf' : X.fn y = true \/ X.env.scope.names.lookup y = some .local := by first | exact .inl rfl | exact .inr rfl) (hc : X.calm = true := by rfl)
 (hs : ∀ x, foldedSetIterable iter X.env x = pure x := by intro _; rfl) (hp : PassesOwn (model X.prog X.w) X.A X.env X.xe := by exact PassesOwn.never)
 (hes : (assignEach [.Name x px, .Name y py] X.env).map (·.2) = [assign (.Name x px) X.env, assign (.Name y py) X.env] := by rfl) (hes2 : (assignEach [.Name y py] X.env).map (·.2) = [assign (.Name y py) X.env] := by rfl)
 (hen : (assignEach [.Name x px, .Name y py] X.env).length = 2 := by rfl) (hst : (assignEach [.Name x px, .Name y py] X.env).findIdx? (·.1) = none := by rfl) : SD X F (.For (.Tuple [.Name x px, .Name y py] kt pt) iter body [] pos :: rest) ρ Q := by
 refine u7 (g := Cd X.K 2 (lC (dZ k) (lC (dZ l) A0))) fr (fun d r => match d with | .tup [d1, d2] => (r.set k (some (.pl fr d1))).set l (some (.pl fr d2)) | _ => r) P hi h0
  (zF hc (g9 (fU hN hx hxl hf) (g9 (fU hN hy hyl hf') uQ (by rw [hes2]; rfl)) (by rw [hes, hes2])) hen hst) (fun n d r hv hρ σ H H1 A v q e pr hl S s i h => ?_) (fun n d r e pr => ?_) hd hc hs hp
 . obtain ⟨d1, d2, rfl⟩ := hpair d (mem_of_getElem? e);obtain ⟨a, xs, rfl, t, j⟩ := aG i;obtain ⟨v1, r1, rfl, i1, j1⟩ := ao.mp j;obtain ⟨v2, r2, rfl, i2, j2⟩ := ao.mp j1;cases aD.mp j2;refine ⟨a, _, rfl, t, rfl, v1, _, rfl, v2, _, rfl, rfl, ?_⟩;exact h _ _ (lg (by simp [hl]) (uV (fr := fr) hl S (hlen n r pr).1 s i1) (by simpa using (hlen n r pr).2) (aq.refl _) (i2.carry pI))
 . obtain ⟨d1, d2, rfl⟩ := hpair d (mem_of_getElem? e);exact hb n d1 d2 r e pr
end
def EJ (K : Frag) (m : Bool) (G : List D -> D -> Prop) : Sp := fun vs H Q _ => ∃ (Z : aA) (ds : List D) (d : D), Z.Open H /\ aH K H Z ds vs /\ G ds d /\ ∀ v H', aq H H' -> In K H' (out m Z H) d v -> Q v H'
structure Def (P : Program) (w : World) (K : Frag) (mg : HV) (base : Heap) (k : Nat) (x : Str) (m : Bool) (G : List D -> D -> Prop) : Prop where
 ex : ∃ f fd ps, eB P w K mg base lP k f fd ps (EJ K m G) /\ mg x = some (.ref f) /\ keepIn K (.ref f) = true /\ Binds K fd ps []
section
variable {X : Cx} {ρ : List (Option D)} {m : Bool} {e : Expr} {es : List Expr} {ds : List D} {d : D} {pos p : Pos} {k : Nat} {x : Str} {G : List D -> D -> Prop}
theorem aK (Df : Def X.prog X.w X.K X.mg X.base k x m G) (hr : bt k X.A) (ha : EA X ρ (e :: es) ds) (h : G ds d) (hg : Gl X x := by rfl) (hdb : (x == ("__debug__" : Str)) = false := by decide)
 (he : starEach (e :: es) X.env = (false, eval e X.env) :: starEach es X.env := by rfl) (hpl : (backTo pos (starEach es X.env)).any (·.1) = false := by rfl) : E X m ρ (.Call (.Name x p) (e :: es) [] pos) d := by
 obtain ⟨f, fd, ps, a, b, c, dd⟩ := Df.ex;exact PE.mono (AH a hr hg b c dd .nil CS ha hdb he hpl) fun σ H Q z0 => aO z0 fun Z oz en k => ⟨Z, oz, en, fun vs H1 s1 i1 => by
  show EJ X.K m G (vs ++ []) H1 Q E0;rw [append_nil];exact ⟨Z, ds, d, oz.same s1, i1, h, fun v H' s' i => k v H' (s1.trans s') (i.later s1)⟩⟩
end
def cF (N : Ie) (ds : List D) : cR := ds.map (fun d => some (.pl false d)) ++ List.replicate (N.length - ds.length) none
theorem iH {K : Frag} {Z : aA} {H : Hp} {m : Bool} {N : Ie} {ds : List D} {vs : List V} (oz : Z.Open H) (h : aH K H Z ds vs) : aZ K ⟨m, Z, H⟩ H (L2.start N vs ++ []) (cF N ds ++ []) (fun _ => []) := by
 refine ⟨aq.refl H, oz, fun _ => List.nodup_nil, fun i j a ha => by simp at ha, fun i a ha => by simp at ha, fun i a ha => by simp at ha, fun i sl e => ?_⟩;rw [append_nil] at e ⊢;unfold cF at e;unfold L2.start;by_cases hi : i < ds.length
 . rw [getElem?_append_left (by simpa using hi), getElem?_map] at e;have hd : ds[i]? = some ds[i] := by simp [hi]
   rw [hd] at e;have e' : some (Slot.pl false ds[i]) = some sl := by simpa using e
   cases e';obtain ⟨v, a, b⟩ := h.get hd;have hv : i < vs.length := (List.getElem?_eq_some_iff.mp a).1;refine ⟨v, by rw [getElem?_append_left (by simpa using hv), getElem?_map, a]; rfl, ?_⟩;exact In.carry (Z' := ⟨Z.m, fun a => Z.S a /\ ¬ bc (fun _ => []) a⟩) (Carry.of (aq.refl H) (fun a xs e z => ⟨z, fun ⟨j, hj⟩ => by simp at hj⟩) fun m => m) b
 . rw [getElem?_append_right (by simpa using hi), List.getElem?_replicate] at e;split at e <;> cases e
section
variable {P : Program} {w : World} {K : Frag} {mg : HV} {base : Heap}
theorem Hi {x qual : Str} {st : Stmt} {f : Addr} {fd : FuncData} {N ps : Ie} {k : Nat} {m : Bool} {G : List D -> D -> Prop} (Fx : gr K x qual st f fd) (S : aE N ps (ah st))
 (hlen : ∀ ds d, G ds d -> ds.length = ps.length)
 (body : ∀ (cdv : Value) (A : Around) (outer : List Env) (s : Shared) (H : Hp) (E : XK) (Z : aA) (ds : List D) (d : D), bt k (A.deeper (envOfC qual (ah st) s.heap.objs.size f cdv)) -> G ds d ->
  SD (kl lP P w K mg base N qual (ah st) f cdv A outer s H E).Am ⟨m, Z, H⟩ (bb st) (cF N ds) { nx := fun _ => d = .non, rt := fun d' => d' = d }) : eB P w K mg base lP (k + 1) f fd ps (EJ K m G) := by
 refine Fx.ok S (fun vs H Q E ⟨Z, ds, d, oz, i, g, kk⟩ => ?_) (fun cdv A outer s H vs Q E hr ⟨Z, ds, d, oz, i, g, kk⟩ => ?_)
 . rw [<- i.length]; exact hlen ds d g
 . refine ⟨_, body cdv A outer s H E Z ds d hr g, [], [], fun _ => [], ?_, iH oz i, ⟨rfl, fun σ H' ⟨r, A', hl, S', e⟩ => ?_, fun σ H' ⟨r, A', hl, S', e⟩ => e.elim, fun σ H' ⟨r, A', hl, S', e⟩ => e.elim, fun v d' H' s' i' e => ?_, fun _ _ _ _ _ _ _ _ e => e.elim, fun _ _ _ _ _ _ _ _ _ _ _ _ _ e => e.elim⟩⟩
   . have := i.length;simp [L2.start, cF]; omega
   . subst e;exact kk .non H' S'.same (bg.mpr rfl)
   . subst e;exact kk v H' s' i'
theorem bJ {x qual : Str} {st : Stmt} {f : Addr} {fd : FuncData} {N ps : Ie} {k : Nat} {m : Bool} {G : List D -> D -> Prop} (Fx : gr K x qual st f fd) (S : aE N ps (ah st)) (hmg : mg x = some (.ref f)) (hb : Binds K fd ps [])
 (hlen : ∀ ds d, G ds d -> ds.length = ps.length)
 (body : ∀ (cdv : Value) (A : Around) (outer : List Env) (s : Shared) (H : Hp) (E : XK) (Z : aA) (ds : List D) (d : D), bt k (A.deeper (envOfC qual (ah st) s.heap.objs.size f cdv)) -> G ds d ->
  SD (kl lP P w K mg base N qual (ah st) f cdv A outer s H E).Am ⟨m, Z, H⟩ (bb st) (cF N ds) { nx := fun _ => d = .non, rt := fun d' => d' = d }) : Def P w K mg base (k + 1) x m G := ⟨f, fd, ps, Hi Fx S hlen body, hmg, Fx.kp, hb⟩
def Dl (ds : List D) (d : D) : Prop := ∃ ns : List Int, ns.length <= 63 /\ ds = [.lst (ns.map D.int)] /\ d = .bl true
def sE (K : Frag) : Sp := fun vs H Q _ => ∃ (a : Addr) (ns : List Int), vs = [.ref a] /\ dM K H a (ns.map V.int) /\ ns.length <= 63 /\ TabsOk H /\ ∀ H', Q (.bl true) H'
theorem zX {H : Hp} {vs : List V} {Q : VK} {E : XK} (h : sE K vs H Q E) : EJ K false Dl vs H Q E := by
 obtain ⟨a, ns, rfl, hS, hl, tb, q⟩ := h;refine ⟨E6, [.lst (ns.map D.int)], .bl true, vG tb, aH.one (ar.mpr ⟨a, _, rfl, ?_, rT ns⟩), ⟨ns, hl, rfl, rfl⟩, fun v H' s i => ?_⟩
 . rcases hS with (h | h) | h
   . exact .inl ⟨h, trivial⟩
   . exact .inr ⟨rfl, .inl h⟩
   . exact .inr ⟨rfl, .inr h⟩
 . rw [aS.mp i]; exact q H'
theorem DF {k : Nat} {f : Addr} {fd : FuncData} {ps : Ie} (h : eB P w K mg base lP k f fd ps (EJ K false Dl)) : eB P w K mg base lP k f fd ps (sE K) := h.imp fun _ _ _ _ q => zX q
end
section
variable {X : Cx} {F : Fn} {ρ : cR} {Q : jv} {rest : List Stmt} {e : Expr} {d : D} {pos p : Pos} {x : Str} {fr m1 : Bool} {ds : List D} {dss : List (List D)}
theorem kC {a : Addr} : [a].Nodup := by simp
theorem gK (i : Nat) {x : Str} {ds : List D} (he : E X true (view true false ρ) e (.lst ds)) (fl : aV ds = true) (hr : SD X F rest (ρ.set i (some (.ow true ds))) Q) (hN : X.N.Nodup) (hi : X.N[i]? = some x := by rfl)
 (hx : Loc X.env.scope x := by first | exact Or.inl rfl | exact Or.inr rfl) (hρ : i < ρ.length := by exact of_decide_eq_true rfl) (hs : swapsWith e (some (.Name x p)) pos.line X.env = pure false := by rfl) (hf : X.fn x = true \/ X.env.scope.names.lookup x = some .local := by first | exact .inl rfl | exact .inr rfl) :
 SD X F (.Assign [.Name x p] e pos :: rest) ρ Q :=
 cH (PS.mono (lJ hN hi hx he hs hf) fun Q' σ H z0 => fc z0 fun hv hρ' A hl S f => ⟨_, aU S true false, S.env hl true false, fun v H1 s1 i1 => by
  obtain ⟨l, xs, rfl, at', j⟩ := ar.mp i1;obtain ⟨e1, e2⟩ : H1 l = some (.lst xs) /\ H l = none := by
   rcases at' with z | z
   . exact z
   . exact absurd z.1 (by simp [out, nw])
  refine f.nx _ H1 ⟨_, bD A i [l], by simp [hl], ?_, rfl⟩;rw [<- bG (by omega), <- bG hρ];exact S.put (by rw [List.length_append]; omega) (by rw [List.length_append]; omega) s1 kC (fun a ha => by
   have : a = l := by simpa using ha
   subst this;exact ⟨e2, .l xs, e1⟩) ⟨l, xs, rfl, rfl, e1, j.df fl⟩⟩) hr
theorem fj {α : Type} {l : List α} {i : Nat} {v : α} (h : l[i]? = some v) : l.set i v = l := by
 obtain ⟨hi, e⟩ := List.getElem?_eq_some_iff.mp h;rw [<- e, List.set_getElem_self]
theorem aZ.ow {K : Frag} {H : Hp} {σ hv : St} {hρ : cR} {A : Nat -> List Addr} {i : Nat} (S : aZ K F H (σ ++ hv) (ρ ++ hρ) A) (hl : σ.length = ρ.length) (h : ρ[i]? = some (some (.ow fr ds))) :
 ∃ l xs, σ[i]? = some (some (.ref l)) /\ A i = [l] /\ H l = some (.lst xs) /\ aH K H (zn F (bc A) fr) ds xs := by
 have hi : i < ρ.length := (List.getElem?_eq_some_iff.mp h).1;obtain ⟨v, a, l, xs, e1, rfl, e2, j⟩ := S.at' i _ (by rw [getElem?_append_left hi]; exact h);rw [getElem?_append_left (by omega)] at a;exact ⟨l, xs, a, e1, e2, j⟩
theorem zE {K : Frag} {hv : St} {hρ : cR} {σ : St} {H : Hp} {A : Nat -> List Addr} {i : Nat} {l : Addr} {xs ys : List V} {es : List D} (hl : σ.length = ρ.length) (S : aZ K F H (σ ++ hv) (ρ ++ hρ) A) (h : σ[i]? = some (some (.ref l))) (hA : A i = [l]) (hx : H l = some (.lst xs))
 (j : aH K H (zn F (bc A) fr) es ys) : mr K F hv hρ (fun r => r = ρ.set i (some (.ow fr es))) σ (upd H l (.lst ys)) := by
 have hi : i < σ.length := (List.getElem?_eq_some_iff.mp h).1;refine ⟨_, bD A i [l], by simp [hl], ?_, rfl⟩;have key := S.re (i := i) (v := .ref l) (sl := .ow fr es) (l := [l]) (H2 := upd H l (.lst ys)) (by rw [List.length_append]; omega) (by rw [List.length_append]; omega) (S.same.write (S.new i l (by rw [hA]; simp)) hx) (fun b o e _ hb => ?_) kC (fun a ha => ?_) ⟨l, ys, rfl, rfl, ax, ?_⟩
 . rw [fj (by rw [getElem?_append_left hi]; exact h), bG (by omega)] at key;exact key
 . rw [hA] at hb;have : b ≠ l := by simpa using hb
   rw [ag this]; exact e
 . have : a = l := by simpa using ha
   subst this;exact ⟨.inl (by rw [hA]; simp), .l ys, ax⟩
 . have eqA : bD A i [l] = A := by
    funext k;by_cases q : k = i
    . rw [q, aR, hA]
    . rw [bw q]
   rw [eqA];refine j.carry (.write hx ?_);unfold zn;have o : bc A l := ⟨i, by rw [hA]; simp⟩
   cases fr
   . exact fun z => z.2 o
   . exact fun z => z.2 o
theorem cn (i : Nat) {x : Str} {ap cp : Pos} {ds : List D} (fr : Bool) {d : D} (h : ρ[i]? = some (some (.ow fr ds)) := by rfl) (he : E X m1 (view true false ρ) e d) (fl : d.flat = true) (hz : ds.length < 1000) (hr : SD X F rest (ρ.set i (some (.ow fr (ds ++ [d])))) Q)
 (hN : X.N[i]? = some x := by rfl) (hv : zw X.env.scope x := by first | exact Or.inl rfl | exact Or.inr (Or.inl rfl) | exact Or.inr (Or.inr rfl)) (hd : (x == ("__debug__" : Str)) = false := by decide) (hcd : (x == ("__classdict__" : Str)) = false := by decide)
 (hbase : attributeBase (.Name x p) "append" X.env (eval (.Name x p) X.env) = eval (.Name x p) X.env := by rfl) (hline : (ap.endLine == cp.line) = true := by rfl)
 (hs : starEach [e] X.env = [(false, eval e X.env)] := by rfl) (hsw : swapsWith (.Call (.Attribute (.Name x p) "append" ap) [e] [] cp) none pos.line X.env = pure false := by rfl) :
 SD X F (.Expr (.Call (.Attribute (.Name x p) "append" ap) [e] [] cp) pos :: rest) ρ Q := by
 refine cH (PS.mono (om (mO PySem.F.plainAttrs_list PySem.F.slot_list_append PySem.F.type_list_append iS (fv hN hv hd hcd) (aM he bh (by rw [hs]; rfl)) hbase (by rw [hs]; rfl) hline (by rw [hs]; rfl) rfl) hsw) ?_) hr;rintro Q' σ H ⟨hv, hρ, A, hl, S, f⟩;obtain ⟨l, xs, e1, e2, e3, j⟩ := S.ow hl h;refine ⟨.ref l, e1, .inl ⟨rfl, xs, dM.of e3⟩, _, aU S true false, S.env hl true false, fun v H1 s1 i1 => ?_⟩;refine ⟨l, xs, v, rfl, rfl, s1.at e3, by rw [<- j.length]; exact bS (by omega), f.nx _ _ (zE hl (S.grow s1) e1 e2 (s1.at e3) ((j.same s1).append (aH.one (i1.df fl))))⟩
theorem Ah (i : Nat) {st : List Stmt} {ds : List D} (h : ρ[i]? = some (some (.ow true ds)) := by rfl) (hr : SD X F st (ρ.set i (some (.pl true (.lst ds)))) Q) : SD X F st ρ Q := lZ.mono hr fun Q' σ H z0 => fc z0 fun hv hρ A hl S f => by
 obtain ⟨l, xs, e1, e2, e3, j⟩ := S.ow hl h;have hi : i < σ.length := (List.getElem?_eq_some_iff.mp e1).1;refine ⟨hv, hρ, bD A i [], by simp [hl], ?_, f⟩;have key := S.re (i := i) (v := .ref l) (sl := .pl true (.lst ds)) (l := []) (H2 := H) (by rw [List.length_append]; omega) (by rw [List.length_append]; omega) S.same (fun b o e _ hb => e) List.nodup_nil (fun a ha => by simp at ha) (ar.mpr ⟨l, xs, rfl, .inl ⟨e3, ?_⟩, ?_⟩)
 . rw [fj (by rw [getElem?_append_left hi]; exact e1), bG (by omega)] at key;exact key
 . refine ⟨S.new i l (by rw [e2]; simp), fun ⟨k, hk⟩ => ?_⟩;by_cases q : k = i
   . rw [q, aR] at hk; simp at hk
   . rw [bw q] at hk; exact q (S.one k i l hk (by rw [e2]; simp))
 . exact j.carry pI
end
theorem tU {zs : Ie} : ∀ {us : HW}, Vals (zs.map V.str) us -> StrsAre us zs := by
 induction zs with
 | nil => intro us r; rw [map_nil] at r; cases r; exact .nil
 | cons n ns ih =>
  intro us r;rw [map_cons] at r
  cases r with
  | cons r1 r2 =>
   obtain ⟨t, e⟩ := r1;subst e;exact .cons n t (ih r2)
theorem iI : ∀ (l : List (Str × Tok)), Vals ((l.map (·.1)).map V.str) (strValues l)
 | [] => .nil
 | (x, t) :: l => .cons ⟨t, rfl⟩ (iI l)
section
variable {X : Cx}
theorem Bf : Cz X "str.join" (fun x xs H Q => ∃ sep l zs, x = .str sep /\ xs = [.ref l] /\ dM X.K H l (zs.map V.str) /\ sep.length <= 16 /\ (zs.map (·.length)).sum + zs.length <= 1048576 /\ Q (.str (Txt.join sep zs)) H) := by
 intro pins s σ H x xs v us Q I rx rs h;obtain ⟨sep, l, zs, rfl, rfl, hl, h1, h2, q⟩ := h;obtain ⟨t, rfl⟩ := rx;obtain ⟨u, rfl, ru⟩ := Vals.one rs;cases ru;obtain ⟨its, r, pl, hz⟩ := I.list hl;exact join_listW pl.isList (by simpa using tU r) h1 h2 fun t' k => ⟨.str (Txt.join sep zs), H, I.tok _, ⟨_, rfl⟩, q⟩
theorem yh : Cz X "str.lower" (fun x xs H Q => ∃ z, x = .str z /\ xs = [] /\ z.length <= 5592405 /\ Q (.str (Txt.lower z)) H) := by
 intro pins s σ H x xs v us Q I rx rs h;obtain ⟨z, rfl, rfl, h1, q⟩ := h;obtain ⟨t, rfl⟩ := rx;cases Vals.zero rs;exact SCL.lower h1 fun _ => ⟨.str (Txt.lower z), H, I.tok _, ⟨_, rfl⟩, q⟩
theorem xS : Cz X "str.upper" (fun x xs H Q => ∃ z, x = .str z /\ xs = [] /\ z.length <= 5592405 /\ Q (.str (Txt.upper z)) H) := by
 intro pins s σ H x xs v us Q I rx rs h;obtain ⟨z, rfl, rfl, h1, q⟩ := h;obtain ⟨t, rfl⟩ := rx;cases Vals.zero rs;exact SCL.upper h1 fun _ => ⟨.str (Txt.upper z), H, I.tok _, ⟨_, rfl⟩, q⟩
theorem jD {pins : HZ} {σ : St} {H : Hp} {s : Shared} (I : Inv X pins σ H s) {l : List (Str × Tok)} {k : Nat} (hz : l.length <= sizeLine) :
 Inv X pins σ (upd H s.heap.objs.size (.lst ((l.map (·.1)).map V.str))) { s with heap := s.heap.push { cls := .type "list", data := .seq (strValues l).toArray }, toks := k } :=
 I.laid (fun b u e => get?_push_of_some _ e) (Nat.le_refl _) ⟨by simpa using hz, strValues l, 0, iI l, get?_push_size _ rfl⟩
theorem wL : Cz X "str.split" (fun x xs H Q => ∃ z, x = .str z /\ xs = [] /\ z.length <= sizeLine /\ (Builtin.Str.spaceWords z (z.length + 1)).length <= sizeLine /\ ∀ p, H p = none -> Q (.ref p) (upd H p (.lst ((Txt.words z).map V.str)))) := by
 intro pins s σ H x xs v us Q I rx rs h;obtain ⟨z, rfl, rfl, h1, h2, q⟩ := h;obtain ⟨t, rfl⟩ := rx;cases Vals.zero rs;have fr := I.hok.fresh (Nat.le_refl _);refine call_meets F.slot_str_split (typeIs_str _ _ _) F.entry_str_split (F.args_str_split_1 _) (meets_str_split_space z t h1 h2) ?_;cases hw : Builtin.Str.spaceWords z (z.length + 1) == [(0, z.length)]
 . simp only [Bool.false_eq_true, if_false];rw [strsFrom_eq];have e : (numbered s.toks (wordsOf z)).map (·.1) = Txt.words z := (numbered_texts _ _).trans (if_neg (ne_true_of_eq_false hw)).symm;have hl : (numbered s.toks (wordsOf z)).length <= sizeLine := by
    have : (numbered s.toks (wordsOf z)).length = ((numbered s.toks (wordsOf z)).map (·.1)).length := by simp
    rw [this, numbered_texts];simpa [wordsOf] using h2
   refine ⟨.ref s.heap.objs.size, _, jD I hl, rfl, ?_⟩;rw [e];exact q _ fr
 . simp only [if_true];have e : [(z, t)].map (·.1) = Txt.words z := (if_pos hw).symm;refine ⟨.ref s.heap.objs.size, _, jD I (l := [(z, t)]) (k := s.toks) (by simp; exact Nat.le_of_lt (bS (by decide))), rfl, ?_⟩;rw [e];exact q _ fr
theorem vP : Cz X "str.split" (fun x xs H Q => ∃ z y, x = .str z /\ xs = [.str y] /\ (y.length == 0) = false /\ z.length <= sizeLine /\ (Builtin.Str.partsBetween z (Builtin.Str.occurrences z y 0 z.length (z.length + 1)) y.length).length <= sizeLine /\
 ∀ p, H p = none -> Q (.ref p) (upd H p (.lst ((Txt.split z y).map V.str)))) := by
 intro pins s σ H x xs v us Q I rx rs h;obtain ⟨z, y, rfl, rfl, hy, h1, h2, q⟩ := h;obtain ⟨t, rfl⟩ := rx;obtain ⟨u', rfl, ru⟩ := Vals.one rs;obtain ⟨u, rfl⟩ := ru;have fr := I.hok.fresh (Nat.le_refl _);have one : ∀ k, Txt.split z y = [z] -> EP X pins σ Q (.ref s.heap.objs.size) { s with heap := s.heap.push { cls := .type "list", data := .seq (strValues [(z, t)]).toArray }, toks := k } := fun k e => by
  refine ⟨.ref s.heap.objs.size, _, jD I (l := [(z, t)]) (k := k) (by simp; exact Nat.le_of_lt (bS (by decide))), rfl, ?_⟩;have e' : [(z, t)].map (·.1) = Txt.split z y := e.symm;rw [e'];exact q _ fr
 cases h3 : (decide (z.length < y.length) || decide (Builtin.Str.strKind z < Builtin.Str.strKind y))
 . cases hf : (Builtin.Str.occurrences z y 0 z.length (z.length + 1)).isEmpty
   . refine call_meets F.slot_str_split (typeIs_str _ _ _) F.entry_str_split (F.args_str_split_2 _ _) (meets_str_split_sep z y t u h3 hy hf h1 h2) ?_;show wants _ _ _ { s with toks := _, heap := s.heap.push { cls := .type "list", data := .seq (strsFrom s.toks (Builtin.Str.partsBetween z (Builtin.Str.occurrences z y 0 z.length (z.length + 1)) y.length)).toArray } };rw [strsFrom_eq];have e : (numbered s.toks (Builtin.Str.partsBetween z (Builtin.Str.occurrences z y 0 z.length (z.length + 1)) y.length)).map (·.1) = Txt.split z y := (numbered_texts _ _).trans ((if_neg (ne_true_of_eq_false h3)).trans (if_neg (ne_true_of_eq_false hf))).symm;have hl : (numbered s.toks (Builtin.Str.partsBetween z (Builtin.Str.occurrences z y 0 z.length (z.length + 1)) y.length)).length <= sizeLine := by
      have : ∀ l : List (Str × Tok), l.length = (l.map (·.1)).length := fun l => by simp
      rw [this, numbered_texts];exact h2
     refine ⟨.ref s.heap.objs.size, _, jD I hl, rfl, ?_⟩;rw [e];exact q _ fr
   . exact call_meets F.slot_str_split (typeIs_str _ _ _) F.entry_str_split (F.args_str_split_2 _ _) (meets_str_split_not_found z y t u h3 hy hf)
      (one s.toks ((if_neg (ne_true_of_eq_false h3)).trans (if_pos hf)))
 . exact call_meets F.slot_str_split (typeIs_str _ _ _) F.entry_str_split (F.args_str_split_2 _ _) (meets_str_split_cannot_occur z y t u h3) (one s.toks (if_pos h3))
theorem Dj : G5 X (fun x lo hi H Q => ∃ z, x = .str z /\ z.length <= sizeLine /\ Q (.str (Txt.slice z lo hi)) H) := by
 intro pins s σ H x v vl vu lo hi sl Q I rx hs pl pu h;obtain ⟨z, rfl, hz, q⟩ := h;obtain ⟨t, rfl⟩ := rx;refine ⟨"str", _, F.slot_str_getitem.lookup, typeIs_str _ _ _, ?_⟩;have fin : ∀ t' k, EP X pins σ Q (.str (Txt.slice z lo hi) t') { s with toks := k } := fun t' k => ⟨.str (Txt.slice z lo hi), H, I.tok k, ⟨_, rfl⟩, q⟩
 have key : ∀ (l u : Option (Int × Tok)), vl = partValue l -> vu = partValue u -> l.map (·.1) = lo -> u.map (·.1) = hi -> wpAny (model X.prog X.w) X.A (getItem (.str z t) (.ref sl)) (EP X pins σ Q) X.xe s := fun l u e1 e2 e3 e4 => by
  subst e1 e2 e3 e4;exact wpAny_getItem_str_slice (l := l) (u := u) (st := none) hs rfl (post_val_or_str ⟨Nat.le_trans (Txt.slice_le z _ _) hz, fun t' k => fin t' k⟩)
 cases pl with
 | none =>
  cases pu with
  | none => exact key none none rfl rfl rfl rfl
  | int j tj => exact key none (some (j, tj)) rfl rfl rfl rfl
 | int i ti =>
  cases pu with
  | none => exact key (some (i, ti)) none rfl rfl rfl rfl
  | int j tj => exact key (some (i, ti)) (some (j, tj)) rfl rfl rfl rfl
end
section
variable {X : Cx} {ρ : List (Option D)} {m m1 m2 : Bool} {a e o : Expr} {d : D} {pos p ap cp : Pos} {ds : List D}
theorem C3 {sep : Str} {zs : Ie} (ho : E X m1 ρ o (.str sep)) (ha : E X m2 ρ a (.lst (zs.map D.str))) (h1 : sep.length <= 16) (h2 : (zs.map (·.length)).sum + zs.length <= 1048576)
 (hbase : attributeBase o "join" X.env (eval o X.env) = eval o X.env := by rfl) (hline : (ap.endLine == cp.line) = true := by rfl) (hs : starEach [a] X.env = [(false, eval a X.env)] := by rfl) : E X true ρ (.Call (.Attribute o "join" ap) [a] [] cp) (.str (Txt.join sep zs)) :=
 PE.mono (mO F.plainAttrs_str F.slot_str_join F.type_str_join Bf ho (aM ha bh (by rw [hs]; rfl)) hbase (by rw [hs]; rfl) hline (by rw [hs]; rfl) rfl) fun σ H Q z0 => aO z0 fun Z oz en k => ⟨Z, oz, en, fun x H1 s1 i1 => by
  cases in_str.mp (i1.plain oz);refine ⟨rfl, Z, oz.same s1, en.same s1, fun y H2 s2 i2 => ?_⟩;obtain ⟨l, xs, rfl, at', j⟩ := ar.mp (i2.plain (oz.same s1));rw [eD j] at at';exact ⟨sep, l, zs, rfl, rfl, at'.sq, h1, h2, k _ H2 (s1.trans s2) (in_str.mpr rfl)⟩⟩
theorem Au {z : Str} (ho : E X m1 ρ o (.str z)) (h1 : z.length <= 5592405) (hbase : attributeBase o "lower" X.env (eval o X.env) = eval o X.env := by rfl) (hline : (ap.endLine == cp.line) = true := by rfl) : E X true ρ (.Call (.Attribute o "lower" ap) [] [] cp) (.str (Txt.lower z)) :=
 PE.mono (tL F.plainAttrs_str F.slot_str_lower F.type_str_lower yh ho hbase hline) fun σ H Q z0 => aO z0 fun Z oz en k => ⟨Z, oz, en, fun x H1 s1 i1 => by
  cases in_str.mp (i1.plain oz);exact ⟨rfl, z, rfl, rfl, h1, k _ H1 s1 (in_str.mpr rfl)⟩⟩
theorem Aq {z : Str} (ho : E X m1 ρ o (.str z)) (h1 : z.length <= 5592405) (hbase : attributeBase o "upper" X.env (eval o X.env) = eval o X.env := by rfl) (hline : (ap.endLine == cp.line) = true := by rfl) : E X true ρ (.Call (.Attribute o "upper" ap) [] [] cp) (.str (Txt.upper z)) :=
 PE.mono (tL F.plainAttrs_str F.slot_str_upper F.type_str_upper xS ho hbase hline) fun σ H Q z0 => aO z0 fun Z oz en k => ⟨Z, oz, en, fun x H1 s1 i1 => by
  cases in_str.mp (i1.plain oz);exact ⟨rfl, z, rfl, rfl, h1, k _ H1 s1 (in_str.mpr rfl)⟩⟩
theorem Cy {z : Str} {lo hi : Option Expr} {l u : Option Int} {p2 : Pos} (ha : E X m1 ρ a (.str z)) (hl : EO X ρ lo l) (hu : EO X ρ hi u) (hz : z.length <= sizeLine) : E X true ρ (.Subscript a (.Slice lo hi none p2) pos) (.str (Txt.slice z l u)) :=
 PE.mono (rY Dj ha hl hu) fun σ H Q z0 => aO z0 fun Z oz en k => ⟨Z, oz, en, fun x H1 s1 i1 => ⟨Z, oz.same s1, en.same s1, fun H2 s2 => ⟨Z, oz.same (s1.trans s2), en.same (s1.trans s2), fun H3 s3 =>
  ⟨z, in_str.mp (i1.plain oz), hz, k _ H3 ((s1.trans s2).trans s3) (in_str.mpr rfl)⟩⟩⟩⟩
theorem yn {z : Str} (ho : E X m1 ρ o (.str z)) (h1 : z.length <= sizeLine) (h2 : (Builtin.Str.spaceWords z (z.length + 1)).length <= sizeLine) (hbase : attributeBase o "split" X.env (eval o X.env) = eval o X.env := by rfl) (hline : (ap.endLine == cp.line) = true := by rfl) :
 E X true ρ (.Call (.Attribute o "split" ap) [] [] cp) (.lst ((Txt.words z).map D.str)) :=
 E.mode (PE.mono (tL F.plainAttrs_str F.slot_str_split F.type_str_split wL ho hbase hline) fun σ H Q z0 => aO z0 fun Z oz en k => ⟨Z, oz, en, fun x H1 s1 i1 => by
  cases in_str.mp (i1.plain oz);exact ⟨rfl, z, rfl, rfl, h1, h2, fun p hp => k _ _ (s1.trans (az hp)) (ar.mpr ⟨p, _, rfl, .inl ⟨ax, s1.free hp⟩, iA _⟩)⟩⟩)
theorem ye {z y : Str} (ho : E X m1 ρ o (.str z)) (ha : E X m2 ρ a (.str y)) (hy : (y.length == 0) = false) (h1 : z.length <= sizeLine) (h2 : (Builtin.Str.partsBetween z (Builtin.Str.occurrences z y 0 z.length (z.length + 1)) y.length).length <= sizeLine)
 (hbase : attributeBase o "split" X.env (eval o X.env) = eval o X.env := by rfl) (hline : (ap.endLine == cp.line) = true := by rfl) (hs : starEach [a] X.env = [(false, eval a X.env)] := by rfl) :
 E X true ρ (.Call (.Attribute o "split" ap) [a] [] cp) (.lst ((Txt.split z y).map D.str)) :=
 E.mode (PE.mono (mO F.plainAttrs_str F.slot_str_split F.type_str_split vP ho (aM ha bh (by rw [hs]; rfl)) hbase (by rw [hs]; rfl) hline (by rw [hs]; rfl) rfl) fun σ H Q z0 => aO z0 fun Z oz en k => ⟨Z, oz, en, fun x H1 s1 i1 => by
  cases in_str.mp (i1.plain oz);refine ⟨rfl, Z, oz.same s1, en.same s1, fun w H2 s2 i2 => ?_⟩;cases in_str.mp (i2.plain (oz.same s1));exact ⟨z, y, rfl, rfl, hy, h1, h2, fun p hp => k _ _ ((s1.trans s2).trans (az hp)) (ar.mpr ⟨p, _, rfl, .inl ⟨ax, (s1.trans s2).free hp⟩, iA _⟩)⟩⟩)
theorem cK (ha : E X m1 ρ a (.lst ds)) (hm : X.mg "len" = none) (hg : Gl X "len" := by rfl) (hs : starEach [a] X.env = [(false, eval a X.env)] := by rfl) : E X true ρ (.Call (.Name "len" p) [a] [] pos) (.int ds.length) :=
 PE.mono (fg iF hg hm PySem.boot_len (aM ha bh (by rw [hs]; rfl)) (by decide) (by decide) (by rw [hs]; rfl) rfl) fun σ H Q z0 => aO z0 fun Z oz en k => ⟨Z, oz, en, fun x H1 s1 i1 => by
  obtain ⟨l, xs, rfl, at', j⟩ := ar.mp (i1.plain oz);exact ⟨l, xs, rfl, .inl at'.sq, k _ H1 s1 (au.mpr (by rw [j.length]))⟩⟩
theorem um (ha : E X m1 ρ a (.tup ds)) (hm : X.mg "len" = none) (hg : Gl X "len" := by rfl) (hs : starEach [a] X.env = [(false, eval a X.env)] := by rfl) : E X true ρ (.Call (.Name "len" p) [a] [] pos) (.int ds.length) :=
 PE.mono (fg iF hg hm PySem.boot_len (aM ha bh (by rw [hs]; rfl)) (by decide) (by decide) (by rw [hs]; rfl) rfl) fun σ H Q z0 => aO z0 fun Z oz en k => ⟨Z, oz, en, fun x H1 s1 i1 => by
  obtain ⟨l, xs, rfl, at', j⟩ := aG (i1.plain oz);exact ⟨l, xs, rfl, .inr at', k _ H1 s1 (au.mpr (by rw [j.length]))⟩⟩
end
def An : Key -> D -> Bool
 | .inl a, .int b => a == b
 | .inl a, .bl b => a == (if b then 1 else 0)
 | .inr a, .str b => a == b
 | _, _ => false
def jA : List Key -> List D -> Bool
 | [], [] => true
 | k :: ks, d :: ds => An k d && jA ks ds
 | _, _ => false
mutual
def aJ : D -> D -> Bool
 | .non, .non => true
 | .bl a, .bl b => a == b
 | .bl a, .int b => (if a then 1 else 0) == b
 | .int a, .bl b => a == (if b then 1 else 0)
 | .int a, .int b => a == b
 | .str a, .str b => a == b
 | .lst a, .lst b => cI a b
 | .tup a, .tup b => cI a b
 | .tup a, .ktup ks => cI a (ks.map kD)
 | .dct _, .dct _ => true
 | .ktup ks, .tup b => jA ks b
 | .ktup ks, .ktup ks' => jA ks (ks'.map kD)
 | _, _ => false
def cI : List D -> List D -> Bool
 | [], [] => true
 | a :: as, b :: bs => aJ a b && cI as bs
 | _, _ => false
end
mutual
def D.dep : D -> Nat
 | .lst ds => bH ds + 1
 | .tup ds => bH ds + 1
 | .dct _ => 100000
 | .ktup _ => 1
 | _ => 0
def bH : List D -> Nat
 | [] => 0
 | d :: ds => max d.dep (bH ds)
end
theorem dJ : ∀ {ds : List D} {d : D}, d ∈ ds -> d.dep <= bH ds
 | [], _, h => by simp at h
 | e :: ds, d, h => by
  unfold bH;rcases mem_cons.mp h with rfl | h
  . exact Nat.le_max_left _ _
  . exact Nat.le_trans (dJ h) (Nat.le_max_right _ _)
theorem iV : ∀ ks : List Key, jA ks (ks.map kD) = true
 | [] => rfl
 | .inl a :: ks => by simp [jA, An, kD, iV ks]
 | .inr a :: ks => by simp [jA, An, kD, iV ks]
mutual
theorem bQ : ∀ d : D, aJ d d = true
 | .non => by simp [aJ]
 | .bl _ => by simp [aJ]
 | .int _ => by simp [aJ]
 | .str _ => by simp [aJ]
 | .lst ds => by simp [aJ, iY ds]
 | .tup ds => by simp [aJ, iY ds]
 | .dct _ => by simp [aJ]
 | .ktup ks => by simp only [aJ]; exact iV ks
theorem iY : ∀ ds : List D, cI ds ds = true
 | [] => by simp [cI]
 | d :: ds => by simp [cI, bQ d, iY ds]
end
theorem bu : ∀ (ds es : List D), ((List.range (min ds.length es.length)).all (fun j => aJ (ds.getD j .non) (es.getD j .non)) && ds.length == es.length) = cI ds es
 | [], [] => by simp [cI]
 | [], _ :: _ => by simp [cI]
 | _ :: _, [] => by simp [cI]
 | a :: as, b :: bs => by
  have ih := bu as bs;rw [cI, <- ih];have hm : min (a :: as).length (b :: bs).length = min as.length bs.length + 1 := by simp <;> omega
  rw [hm, List.range_succ_eq_map, List.all_cons, List.all_map];simp [Function.comp_def, Bool.and_assoc]
def Told {α : Type} [DecidableEq α] (f : α -> D) : Prop := ∀ a b, aJ (f a) (f b) = decide (a = b)
section
variable {α β : Type} [DecidableEq α] [DecidableEq β] {f : α -> D} {g : β -> D}
theorem qQ : Told D.str := fun a b => by simp only [aJ]; by_cases h : a = b <;> simp [h]
theorem kY (h : Told f) : ∀ (as bs : List α), cI (as.map f) (bs.map f) = decide (as = bs)
 | [], [] => by simp [cI]
 | [], _ :: _ => by simp [cI]
 | _ :: _, [] => by simp [cI]
 | a :: as, b :: bs => by
  simp only [map_cons, cI];rw [h a b, kY h as bs];by_cases h1 : a = b <;> by_cases h2 : as = bs <;> simp [h1, h2]
theorem vZ (h : Told f) : Told (fun l : List α => D.lst (l.map f)) := fun a b => by simp only [aJ]; exact kY h a b
theorem w6 (h : Told f) : Told (fun l : List α => D.tup (l.map f)) := fun a b => by simp only [aJ]; exact kY h a b
end
section
variable {X : Cx} {pins : HZ} {σ : St} {H : Hp} {s : Shared} {Z Z' : aA}
theorem ft {a : Addr} {o : DO} (I : Inv X pins σ H s) (h : H a = some o.ho) : DEq.dD s.heap a := by
 cases o with
 | k kvs =>
  obtain ⟨_, _, vs, _, ⟨cls, dd, data, sl⟩, es, ep, h1, h2, h3, _⟩ := CH I.hok h;have hc : cls = .type "dict" := h2.1;have hd : data = .dict es ep := h3;subst hc hd;exact ⟨dd, es, ep, sl, h1⟩
 | t kvs =>
  obtain ⟨_, _, vs, _, ⟨cls, dd, data, sl⟩, es, ep, h1, h2, h3, _⟩ := zU I.hok h;have hc : cls = .type "dict" := h2.1;have hd : data = .dict es ep := h3;subst hc hd;exact ⟨dd, es, ep, sl, h1⟩
theorem mT {a : Addr} {ks : List Key} (I : Inv X pins σ H s) (h : wR X.K a ks) : H a = none := by
 obtain ⟨o, _, _, hk, _⟩ := h;exact (I.bs a o (I.mod.kin a o hk)).2
theorem kS {a : Addr} {xs : List V} {o : DO} (I : Inv X pins σ H s) (h : dM X.K H a xs) (h' : H a = some o.ho) : False := by
 obtain ⟨_, _, ⟨ob, n, e, c, _⟩, _⟩ := I.list h;obtain ⟨dd, es, ep, sl, e'⟩ := ft I h';rw [e] at e';cases e';exact absurd c (by simp)
theorem d7 {a : Addr} {xs ys : List V} (I : Inv X pins σ H s) (h : dM X.K H a xs) (h' : z6 X.K H a ys) : False := by
 obtain ⟨_, _, ⟨o, n, e, c, _⟩, _⟩ := I.list h;obtain ⟨_, _, ⟨o', e', c', _⟩, _⟩ := I.tuple h';rw [e] at e'; cases e';rw [c] at c';exact absurd c' (by decide)
mutual
theorem In.inj (I : Inv X pins σ H s) : ∀ {d d' : D} {v : V}, In X.K H Z d v -> In X.K H Z' d' v -> d = d'
 | .non, d', v, h, h' => by
  rw [bg.mp h] at h'
  cases d' with
  | non => rfl
  | bl b => cases aS.mp h'
  | int b => cases au.mp h'
  | str b => cases in_str.mp h'
  | lst b => obtain ⟨_, _, e, _⟩ := ar.mp h'; cases e
  | tup b => obtain ⟨_, _, e, _⟩ := aG h'; cases e
  | dct b => obtain ⟨_, e, _⟩ := bq.mp h'; cases e
  | ktup b => obtain ⟨_, e, _⟩ := ba.mp h'; cases e
 | .bl x, d', v, h, h' => by
  rw [aS.mp h] at h'
  cases d' with
  | non => cases bg.mp h'
  | bl b => cases aS.mp h'; rfl
  | int b => cases au.mp h'
  | str b => cases in_str.mp h'
  | lst b => obtain ⟨_, _, e, _⟩ := ar.mp h'; cases e
  | tup b => obtain ⟨_, _, e, _⟩ := aG h'; cases e
  | dct b => obtain ⟨_, e, _⟩ := bq.mp h'; cases e
  | ktup b => obtain ⟨_, e, _⟩ := ba.mp h'; cases e
 | .int x, d', v, h, h' => by
  rw [au.mp h] at h'
  cases d' with
  | non => cases bg.mp h'
  | bl b => cases aS.mp h'
  | int b => cases au.mp h'; rfl
  | str b => cases in_str.mp h'
  | lst b => obtain ⟨_, _, e, _⟩ := ar.mp h'; cases e
  | tup b => obtain ⟨_, _, e, _⟩ := aG h'; cases e
  | dct b => obtain ⟨_, e, _⟩ := bq.mp h'; cases e
  | ktup b => obtain ⟨_, e, _⟩ := ba.mp h'; cases e
 | .str x, d', v, h, h' => by
  rw [in_str.mp h] at h'
  cases d' with
  | non => cases bg.mp h'
  | bl b => cases aS.mp h'
  | int b => cases au.mp h'
  | str b => cases in_str.mp h'; rfl
  | lst b => obtain ⟨_, _, e, _⟩ := ar.mp h'; cases e
  | tup b => obtain ⟨_, _, e, _⟩ := aG h'; cases e
  | dct b => obtain ⟨_, e, _⟩ := bq.mp h'; cases e
  | ktup b => obtain ⟨_, e, _⟩ := ba.mp h'; cases e
 | .lst ds, d', v, h, h' => by
  obtain ⟨a, xs, rfl, l, j⟩ := ar.mp h
  cases d' with
  | non => cases bg.mp h'
  | bl b => cases aS.mp h'
  | int b => cases au.mp h'
  | str b => cases in_str.mp h'
  | lst es =>
   obtain ⟨_, ys, e, l', j'⟩ := ar.mp h';cases e;have := I.fC l.sq l'.sq;subst this;rw [aH.inj I j j']
  | tup es =>
   obtain ⟨_, ys, e, l', j'⟩ := aG h';cases e;exact (d7 I l.sq l').elim
  | dct o =>
   obtain ⟨_, e, l', _⟩ := bq.mp h';cases e;exact (kS I l.sq l').elim
  | ktup ks =>
   obtain ⟨_, e, l'⟩ := ba.mp h';cases e;exact (d7 I l.sq l'.sq).elim
 | .tup ds, d', v, h, h' => by
  obtain ⟨a, xs, rfl, l, j⟩ := aG h
  cases d' with
  | non => cases bg.mp h'
  | bl b => cases aS.mp h'
  | int b => cases au.mp h'
  | str b => cases in_str.mp h'
  | lst es =>
   obtain ⟨_, ys, e, l', j'⟩ := ar.mp h';cases e;exact (d7 I l'.sq l).elim
  | tup es =>
   obtain ⟨_, ys, e, l', j'⟩ := aG h';cases e;have := I.mQ l l';subst this;rw [aH.inj I j j']
  | dct o =>
   obtain ⟨_, e, l', _⟩ := bq.mp h';cases e;obtain ⟨_, _, e, l, _⟩ := bO.mp h;cases e;rw [l] at l';exact ((MO.d o).wM (Option.some.inj l').symm).elim
  | ktup ks =>
   obtain ⟨_, e, l'⟩ := ba.mp h';cases e;obtain ⟨_, _, e, l, _⟩ := bO.mp h;cases e;rw [mT I l'] at l;cases l
 | .ktup ks, d', v, h, h' => by
  obtain ⟨a, rfl, l⟩ := ba.mp h
  cases d' with
  | non => cases bg.mp h'
  | bl b => cases aS.mp h'
  | int b => cases au.mp h'
  | str b => cases in_str.mp h'
  | lst es =>
   obtain ⟨_, ys, e, l', _⟩ := ar.mp h';cases e;exact (d7 I l'.sq l.sq).elim
  | tup es =>
   obtain ⟨_, ys, e, l', _⟩ := bO.mp h';cases e;rw [mT I l] at l';cases l'
  | dct o =>
   obtain ⟨_, e, l', _⟩ := bq.mp h';cases e;rw [mT I l] at l';cases l'
  | ktup ks' =>
   obtain ⟨_, e, l'⟩ := ba.mp h';cases e;rw [uZ (I.mQ (l.sq (H := H)) (l'.sq (H := H)))]
 | .dct o, d', v, h, h' => by
  obtain ⟨a, rfl, l, _⟩ := bq.mp h
  cases d' with
  | non => cases bg.mp h'
  | bl b => cases aS.mp h'
  | int b => cases au.mp h'
  | str b => cases in_str.mp h'
  | lst es =>
   obtain ⟨_, ys, e, l', _⟩ := ar.mp h';cases e;exact (kS I l'.sq l).elim
  | tup es =>
   obtain ⟨_, ys, e, l', _⟩ := bO.mp h';cases e;rw [l'] at l;exact ((MO.d o).wM (Option.some.inj l).symm).elim
  | dct o' =>
   obtain ⟨_, e, l', _⟩ := bq.mp h';cases e;rw [l] at l';rw [DO.inj (Option.some.inj l')]
  | ktup ks =>
   obtain ⟨_, e, l'⟩ := ba.mp h';cases e;rw [mT I l'] at l;cases l
theorem aH.inj (I : Inv X pins σ H s) : ∀ {ds ds' : List D} {vs : List V}, aH X.K H Z ds vs -> aH X.K H Z' ds' vs -> ds = ds'
 | [], ds', _, h, h' => by
  rw [aD.mp h] at h'
  cases ds' with
  | nil => rfl
  | cons d ds => obtain ⟨_, _, e, _⟩ := ao.mp h'; cases e
 | d :: ds, ds', _, h, h' => by
  obtain ⟨v, r, rfl, i, j⟩ := ao.mp h
  cases ds' with
  | nil => cases aD.mp h'
  | cons d' ds' =>
   obtain ⟨v', r', e, i', j'⟩ := ao.mp h';cases e;rw [In.inj I i i', aH.inj I j j']
end
theorem jR : ∀ (ks : List Key) (ds : List D), jA ks ds = cI (ks.map kD) ds
 | [], [] => by simp [jA, cI]
 | [], _ :: _ => by simp [jA, cI]
 | _ :: _, [] => by simp [jA, cI]
 | .inl a :: ks, d :: ds => by
  simp only [jA, map_cons, cI, kD];rw [jR ks ds];cases d <;> simp [An, aJ]
 | .inr a :: ks, d :: ds => by
  simp only [jA, map_cons, cI, kD];rw [jR ks ds];cases d <;> simp [An, aJ]
theorem oV : ∀ ks : List Key, bH (ks.map kD) = 0
 | [] => by simp [bH]
 | .inl a :: ks => by simp [bH, kD, D.dep, oV ks]
 | .inr a :: ks => by simp [bH, kD, D.dep, oV ks]
open PySem.SeqAt in
theorem iR (I : Inv X pins σ H s) : ∀ (n : Nat) {A : Around} {d d' : D} {v v' : V} {u u' : Value}, In X.K H Z d v -> In X.K H Z' d' v' -> RelV v u -> RelV v' u' -> d.dep <= n -> A.units + n < cLine -> EqAt A s u u' (aJ d d') := by
 intro n
 induction n with
 | zero =>
  intro A d d' v v' u u' i i' r r' hd hu;have hu0 : A.units < cLine := by omega
  have key : ∀ {x : V}, Fh x = true -> v = x -> (∀ y, In X.K H Z' d' y -> RelV y u' -> EqAt A s u u' (aJ d d')) -> EqAt A s u u' (aJ d d') := fun _ _ h => h v' i' r'
  cases d with
  | lst ds => unfold D.dep at hd; omega
  | tup ds => unfold D.dep at hd; omega
  | dct o => unfold D.dep at hd; omega
  | ktup o => unfold D.dep at hd; omega
  | non =>
   cases bg.mp i; cases r
   cases d' with
   | non => cases bg.mp i'; cases r'; simp only [aJ]; exact EqAt.same _
   | bl b => cases aS.mp i'; cases r'; simp only [aJ]; exact EqAt.none_bool b
   | int b => cases au.mp i'; obtain ⟨t, rfl⟩ := r'; simp only [aJ]; exact EqAt.none_int b t
   | str b => cases in_str.mp i'; obtain ⟨t, rfl⟩ := r'; simp only [aJ]; exact EqAt.none_str b t
   | lst b => obtain ⟨a, xs, rfl, l, j⟩ := ar.mp i'; cases r'; obtain ⟨its, _, pl, _⟩ := I.list l.sq; simp only [aJ]; exact EqAt.none_list pl.isList hu0
   | tup b => obtain ⟨a, xs, rfl, l, j⟩ := aG i'; cases r'; obtain ⟨its, _, pl, _⟩ := I.tuple l; simp only [aJ]; exact EqAt.none_tuple pl hu0
   | dct b => obtain ⟨a, rfl, l, _⟩ := bq.mp i'; cases r'; simp only [aJ]; exact DEq.Aw (ft I l) hu0
   | ktup b => obtain ⟨a, rfl, l⟩ := ba.mp i'; cases r'; obtain ⟨its, _, pl, _⟩ := I.tuple (l.sq (H := H)); simp only [aJ]; exact EqAt.none_tuple pl hu0
  | bl x =>
   cases aS.mp i; cases r
   cases d' with
   | non => cases bg.mp i'; cases r'; simp only [aJ]; exact EqAt.bool_none x
   | bl b => cases aS.mp i'; cases r'; simp only [aJ]; exact EqAt.bool_bool x b
   | int b => cases au.mp i'; obtain ⟨t, rfl⟩ := r'; simp only [aJ]; exact EqAt.bool_int x b t
   | str b => cases in_str.mp i'; obtain ⟨t, rfl⟩ := r'; simp only [aJ]; exact EqAt.bool_str x b t
   | lst b => obtain ⟨a, xs, rfl, l, j⟩ := ar.mp i'; cases r'; obtain ⟨its, _, pl, _⟩ := I.list l.sq; simp only [aJ]; exact EqAt.bool_list x pl.isList hu0
   | tup b => obtain ⟨a, xs, rfl, l, j⟩ := aG i'; cases r'; obtain ⟨its, _, pl, _⟩ := I.tuple l; simp only [aJ]; exact EqAt.bool_tuple x pl hu0
   | dct b => obtain ⟨a, rfl, l, _⟩ := bq.mp i'; cases r'; simp only [aJ]; exact DEq.BA x (ft I l) hu0
   | ktup b => obtain ⟨a, rfl, l⟩ := ba.mp i'; cases r'; obtain ⟨its, _, pl, _⟩ := I.tuple (l.sq (H := H)); simp only [aJ]; exact EqAt.bool_tuple x pl hu0
  | int x =>
   cases au.mp i; obtain ⟨t0, rfl⟩ := r
   cases d' with
   | non => cases bg.mp i'; cases r'; simp only [aJ]; exact EqAt.int_none x t0
   | bl b => cases aS.mp i'; cases r'; simp only [aJ]; exact EqAt.int_bool x t0 b
   | int b => cases au.mp i'; obtain ⟨t, rfl⟩ := r'; simp only [aJ]; exact EqAt.int_int x t0 b t
   | str b => cases in_str.mp i'; obtain ⟨t, rfl⟩ := r'; simp only [aJ]; exact EqAt.int_str x t0 b t
   | lst b => obtain ⟨a, xs, rfl, l, j⟩ := ar.mp i'; cases r'; obtain ⟨its, _, pl, _⟩ := I.list l.sq; simp only [aJ]; exact EqAt.int_list x t0 pl.isList hu0
   | tup b => obtain ⟨a, xs, rfl, l, j⟩ := aG i'; cases r'; obtain ⟨its, _, pl, _⟩ := I.tuple l; simp only [aJ]; exact EqAt.int_tuple x t0 pl hu0
   | dct b => obtain ⟨a, rfl, l, _⟩ := bq.mp i'; cases r'; simp only [aJ]; exact DEq.DT x t0 (ft I l) hu0
   | ktup b => obtain ⟨a, rfl, l⟩ := ba.mp i'; cases r'; obtain ⟨its, _, pl, _⟩ := I.tuple (l.sq (H := H)); simp only [aJ]; exact EqAt.int_tuple x t0 pl hu0
  | str x =>
   cases in_str.mp i; obtain ⟨t0, rfl⟩ := r
   cases d' with
   | non => cases bg.mp i'; cases r'; simp only [aJ]; exact EqAt.str_none x t0
   | bl b => cases aS.mp i'; cases r'; simp only [aJ]; exact EqAt.str_bool x t0 b
   | int b => cases au.mp i'; obtain ⟨t, rfl⟩ := r'; simp only [aJ]; exact EqAt.str_int x t0 b t
   | str b => cases in_str.mp i'; obtain ⟨t, rfl⟩ := r'; simp only [aJ]; exact EqAt.str_str x t0 b t
   | lst b => obtain ⟨a, xs, rfl, l, j⟩ := ar.mp i'; cases r'; obtain ⟨its, _, pl, _⟩ := I.list l.sq; simp only [aJ]; exact EqAt.str_list x t0 pl.isList hu0
   | tup b => obtain ⟨a, xs, rfl, l, j⟩ := aG i'; cases r'; obtain ⟨its, _, pl, _⟩ := I.tuple l; simp only [aJ]; exact EqAt.str_tuple x t0 pl hu0
   | dct b => obtain ⟨a, rfl, l, _⟩ := bq.mp i'; cases r'; simp only [aJ]; exact DEq.ED x t0 (ft I l) hu0
   | ktup b => obtain ⟨a, rfl, l⟩ := ba.mp i'; cases r'; obtain ⟨its, _, pl, _⟩ := I.tuple (l.sq (H := H)); simp only [aJ]; exact EqAt.str_tuple x t0 pl hu0
 | succ n ih =>
  intro A d d' v v' u u' i i' r r' hd hu;have hu0 : A.units < cLine := by omega
  have hu1 : A.in1.units + n < cLine := by show A.units + 1 + n < cLine; omega
  have small : d.dep <= n -> EqAt A s u u' (aJ d d') := fun h => ih i i' r r' h (by omega)
  -- the items, one by one
  have items : ∀ {ds es : List D} {xs ys : List V} {its its2 : HW}, bH ds <= n -> aH X.K H Z ds xs -> aH X.K H Z' es ys -> Vals xs its -> Vals ys its2 -> ∀ j (h1 : j < its.toArray.size) (h2 : j < its2.toArray.size),
   EqAt A.in1 s its.toArray[j] its2.toArray[j] (aJ (ds.getD j .non) (es.getD j .non)) := fun {ds es xs ys its its2} hdn jx jy rx ry j h1 h2 => by
   have z1 := jx.length; have z2 := jy.length; have z3 := rx.length; have z4 := ry.length;simp at h1 h2;have hj1 : j < ds.length := by omega
   have hj2 : j < es.length := by omega
   obtain ⟨x, ex, ix⟩ := jx.get (i := j) (d := ds[j]) (by simp [hj1]);obtain ⟨y, ey, iy⟩ := jy.get (i := j) (d := es[j]) (by simp [hj2]);obtain ⟨w1, f1, q1⟩ := rx.get ex;obtain ⟨w2, f2, q2⟩ := ry.get ey;have g1 : its.toArray[j] = w1 := by
    have := (List.getElem?_eq_some_iff.mp f1).2;simpa using this
   have g2 : its2.toArray[j] = w2 := by
    have := (List.getElem?_eq_some_iff.mp f2).2;simpa using this
   rw [g1, g2];have e1 : ds.getD j .non = ds[j] := by simp [hj1]
   have e2 : es.getD j .non = es[j] := by simp [hj2]
   rw [e1, e2];exact ih ix iy q1 q2 (Nat.le_trans (dJ (getElem_mem hj1)) hdn) hu1
  cases d with
  | non => exact small (by simp [D.dep])
  | bl x => exact small (by simp [D.dep])
  | int x => exact small (by simp [D.dep])
  | str x => exact small (by simp [D.dep])
  | dct o => exact absurd hu (by unfold D.dep at hd; have : cLine = 9900 := rfl; omega)
  | ktup ks0 =>
   obtain ⟨a, rfl, l⟩ := ba.mp i;cases r;obtain ⟨its, rx, pl, _⟩ := I.tuple (l.sq (H := H));have j : aH X.K H Z (ks0.map kD) (ks0.map kV) := oh ks0;have hdn : bH (ks0.map kD) <= n := by rw [oV]; exact Nat.zero_le _
   cases d' with
   | non => cases bg.mp i'; cases r'; simp only [aJ]; exact EqAt.tuple_none pl hu0
   | bl b => cases aS.mp i'; cases r'; simp only [aJ]; exact EqAt.tuple_bool b pl hu0
   | int b => cases au.mp i'; obtain ⟨t, rfl⟩ := r'; simp only [aJ]; exact EqAt.tuple_int b t pl hu0
   | str b => cases in_str.mp i'; obtain ⟨t, rfl⟩ := r'; simp only [aJ]; exact EqAt.tuple_str b t pl hu0
   | lst es => obtain ⟨a', ys, rfl, l', j'⟩ := ar.mp i'; cases r'; obtain ⟨its2, _, pl2, _⟩ := I.list l'.sq; simp only [aJ]; exact EqAt.tuple_list pl pl2.isList hu0
   | dct b => obtain ⟨a', rfl, l', _⟩ := bq.mp i'; cases r'; simp only [aJ]; exact DEq.rd pl (ft I l') hu0
   | ktup ks =>
    obtain ⟨a', rfl, l'⟩ := ba.mp i';cases r';obtain ⟨its2, ry, pl2, _⟩ := I.tuple (l'.sq (H := H));by_cases haa : a = a'
    . subst haa;have e : D.ktup ks0 = D.ktup ks := In.inj I i i';rw [e, bQ];exact EqAt.same _
    have j' : aH X.K H Z' (ks.map kD) (ks.map kV) := oh ks;refine EqAt.of_refs haa ?_;have z1 := j.length; have z2 := j'.length; have z3 := rx.length; have z4 := ry.length;simp only [aJ];rw [jR, <- bu];have := RcAt.tuples (e := fun k => aJ ((ks0.map kD).getD k .non) ((ks.map kD).getD k .non)) pl pl2 hu0 (items hdn j j' rx ry);have e1 : its.toArray.size = (ks0.map kD).length := by simp at z1 z3 ⊢; omega
    have e2 : its2.toArray.size = (ks.map kD).length := by simp at z2 z4 ⊢; omega
    rw [e1, e2] at this;exact this
   | tup es =>
    obtain ⟨a', ys, rfl, l', j'⟩ := aG i';cases r';obtain ⟨its2, ry, pl2, _⟩ := I.tuple l';have haa : a ≠ a' := fun z => by
     subst z;obtain ⟨_, _, e, lt, _⟩ := bO.mp i';cases e;rw [mT I l] at lt;cases lt
    refine EqAt.of_refs haa ?_;have z1 := j.length; have z2 := j'.length; have z3 := rx.length; have z4 := ry.length;simp only [aJ];rw [jR, <- bu];have := RcAt.tuples (e := fun k => aJ ((ks0.map kD).getD k .non) (es.getD k .non)) pl pl2 hu0 (items hdn j j' rx ry);have e1 : its.toArray.size = (ks0.map kD).length := by simp at z1 z3 ⊢; omega
    have e2 : its2.toArray.size = es.length := by simp at z2 z4 ⊢; omega
    rw [e1, e2] at this;exact this
  | lst ds =>
   have hdn : bH ds <= n := by unfold D.dep at hd; omega
   obtain ⟨a, xs, rfl, l, j⟩ := ar.mp i;cases r;obtain ⟨its, rx, pl, _⟩ := I.list l.sq
   cases d' with
   | non => cases bg.mp i'; cases r'; simp only [aJ]; exact EqAt.list_none pl.isList hu0
   | bl b => cases aS.mp i'; cases r'; simp only [aJ]; exact EqAt.list_bool b pl.isList hu0
   | int b => cases au.mp i'; obtain ⟨t, rfl⟩ := r'; simp only [aJ]; exact EqAt.list_int b t pl.isList hu0
   | str b => cases in_str.mp i'; obtain ⟨t, rfl⟩ := r'; simp only [aJ]; exact EqAt.list_str b t pl.isList hu0
   | tup es => obtain ⟨a', ys, rfl, l', j'⟩ := aG i'; cases r'; obtain ⟨its2, _, pl2, _⟩ := I.tuple l'; simp only [aJ]; exact EqAt.list_tuple pl.isList pl2 hu0
   | dct b => obtain ⟨a', rfl, l', _⟩ := bq.mp i'; cases r'; simp only [aJ]; exact DEq.AU pl.isList (ft I l') hu0
   | ktup b => obtain ⟨a', rfl, l'⟩ := ba.mp i'; cases r'; obtain ⟨its2, _, pl2, _⟩ := I.tuple (l'.sq (H := H)); simp only [aJ]; exact EqAt.list_tuple pl.isList pl2 hu0
   | lst es =>
    obtain ⟨a', ys, rfl, l', j'⟩ := ar.mp i';cases r';obtain ⟨its2, ry, pl2, _⟩ := I.list l'.sq;by_cases haa : a = a'
    . subst haa;have e : D.lst ds = D.lst es := In.inj I i i';rw [e, bQ];exact EqAt.same _
    . refine EqAt.of_refs haa ?_;have z1 := j.length; have z2 := j'.length; have z3 := rx.length; have z4 := ry.length;simp only [aJ];rw [<- bu];by_cases hsz : its.toArray.size = its2.toArray.size
      . have := RcAt.lists (e := fun k => aJ (ds.getD k .non) (es.getD k .non)) pl.isList pl2.isList hsz hu0 (items hdn j j' rx ry);have e1 : its.toArray.size = min ds.length es.length := by simp at hsz ⊢; omega
        have e2 : (ds.length == es.length) = true := by simp at hsz ⊢; omega
        rw [e1] at this;rw [e2, Bool.and_true];exact this
      . have e2 : (ds.length == es.length) = false := by simp at hsz ⊢; omega
        rw [e2, Bool.and_false];exact RcAt.lists_lengths pl.isList pl2.isList (by simpa using hsz) hu0
  | tup ds =>
   have hdn : bH ds <= n := by unfold D.dep at hd; omega
   obtain ⟨a, xs, rfl, l, j⟩ := aG i;cases r;obtain ⟨its, rx, pl, _⟩ := I.tuple l
   cases d' with
   | non => cases bg.mp i'; cases r'; simp only [aJ]; exact EqAt.tuple_none pl hu0
   | bl b => cases aS.mp i'; cases r'; simp only [aJ]; exact EqAt.tuple_bool b pl hu0
   | int b => cases au.mp i'; obtain ⟨t, rfl⟩ := r'; simp only [aJ]; exact EqAt.tuple_int b t pl hu0
   | str b => cases in_str.mp i'; obtain ⟨t, rfl⟩ := r'; simp only [aJ]; exact EqAt.tuple_str b t pl hu0
   | lst es => obtain ⟨a', ys, rfl, l', j'⟩ := ar.mp i'; cases r'; obtain ⟨its2, _, pl2, _⟩ := I.list l'.sq; simp only [aJ]; exact EqAt.tuple_list pl pl2.isList hu0
   | dct b => obtain ⟨a', rfl, l', _⟩ := bq.mp i'; cases r'; simp only [aJ]; exact DEq.rd pl (ft I l') hu0
   | ktup ks =>
    obtain ⟨a', rfl, l'⟩ := ba.mp i';cases r';obtain ⟨its2, ry, pl2, _⟩ := I.tuple (l'.sq (H := H));have j' : aH X.K H Z' (ks.map kD) (ks.map kV) := oh ks;have haa : a ≠ a' := fun z => by
     subst z;obtain ⟨_, _, e, lt, _⟩ := bO.mp i;cases e;rw [mT I l'] at lt;cases lt
    refine EqAt.of_refs haa ?_;have z1 := j.length; have z2 := j'.length; have z3 := rx.length; have z4 := ry.length;simp only [aJ];rw [<- bu];have := RcAt.tuples (e := fun k => aJ (ds.getD k .non) ((ks.map kD).getD k .non)) pl pl2 hu0 (items hdn j j' rx ry);have e1 : its.toArray.size = ds.length := by simp; omega
    have e2 : its2.toArray.size = (ks.map kD).length := by simp at z2 z4 ⊢; omega
    rw [e1, e2] at this;exact this
   | tup es =>
    obtain ⟨a', ys, rfl, l', j'⟩ := aG i';cases r';obtain ⟨its2, ry, pl2, _⟩ := I.tuple l';by_cases haa : a = a'
    . subst haa;have e : D.tup ds = D.tup es := In.inj I i i';rw [e, bQ];exact EqAt.same _
    . refine EqAt.of_refs haa ?_;have z1 := j.length; have z2 := j'.length; have z3 := rx.length; have z4 := ry.length;simp only [aJ];rw [<- bu];have := RcAt.tuples (e := fun k => aJ (ds.getD k .non) (es.getD k .non)) pl pl2 hu0 (items hdn j j' rx ry);have e1 : its.toArray.size = ds.length := by simp; omega
      have e2 : its2.toArray.size = es.length := by simp; omega
      rw [e1, e2] at this;exact this
end
section
variable {X : Cx}
open PySem.SeqAt
def pairD : D -> D -> Bool
 | .lst _, .lst _ => true
 | .tup _, .tup _ => true
 | _, _ => false
theorem Dh : jC X (compareOp .Eq) (fun x y H Q => ∃ d d' Z Z', In X.K H Z d x /\ In X.K H Z' d' y /\ pairD d d' = true /\ X.A.units + d.dep < cLine /\ Q (.bl (aJ d d')) H) := by
 intro pins s σ H x y v u Q I rx ry h;obtain ⟨d, d', Z, Z', i, i', hp, hu, q⟩ := h;have fin : EP X pins σ Q (.bool (aJ d d')) s := ⟨.bl (aJ d d'), H, I, rfl, q⟩
 have hu0 : X.A.units < cLine := by omega
 have items : ∀ {ds es : List D} {xs ys : List V} {its its2 : HW}, bH ds < d.dep -> aH X.K H Z ds xs -> aH X.K H Z' es ys -> Vals xs its -> Vals ys its2 -> ∀ j (h1 : j < its.toArray.size) (h2 : j < its2.toArray.size),
  EqAt X.A.in1 s its.toArray[j] its2.toArray[j] (aJ (ds.getD j .non) (es.getD j .non)) := fun {ds es xs ys its its2} hdn jx jy rx ry j h1 h2 => by
  have z1 := jx.length; have z2 := jy.length; have z3 := rx.length; have z4 := ry.length;simp at h1 h2;have hj1 : j < ds.length := by omega
  have hj2 : j < es.length := by omega
  obtain ⟨x, ex, ix⟩ := jx.get (i := j) (d := ds[j]) (by simp [hj1]);obtain ⟨y, ey, iy⟩ := jy.get (i := j) (d := es[j]) (by simp [hj2]);obtain ⟨w1, f1, q1⟩ := rx.get ex;obtain ⟨w2, f2, q2⟩ := ry.get ey;have g1 : its.toArray[j] = w1 := by
   have := (List.getElem?_eq_some_iff.mp f1).2;simpa using this
  have g2 : its2.toArray[j] = w2 := by
   have := (List.getElem?_eq_some_iff.mp f2).2;simpa using this
  rw [g1, g2];have e1 : ds.getD j .non = ds[j] := by simp [hj1]
  have e2 : es.getD j .non = es[j] := by simp [hj2]
  rw [e1, e2];exact iR I (d.dep - 1) ix iy q1 q2 (by have := dJ (getElem_mem hj1); omega) (by show X.A.units + 1 + (d.dep - 1) < cLine; omega)
 unfold pairD at hp;split at hp
 . rename_i ds es;obtain ⟨a, xs, rfl, l, j⟩ := ar.mp i;obtain ⟨a', ys, rfl, l', j'⟩ := ar.mp i';cases rx; cases ry;obtain ⟨its, rx, pl, _⟩ := I.list l.sq;obtain ⟨its2, ry, pl2, _⟩ := I.list l'.sq;have z1 := j.length; have z2 := j'.length; have z3 := rx.length; have z4 := ry.length;simp only [aJ] at fin;rw [<- bu] at fin;by_cases hsz : its.toArray.size = its2.toArray.size
   . have e1 : its.toArray.size = min ds.length es.length := by simp at hsz ⊢; omega
     have e2 : (ds.length == es.length) = true := by simp at hsz ⊢; omega
     rw [e2, Bool.and_true, <- e1] at fin;exact eq_listAt (e := fun k => aJ (ds.getD k .non) (es.getD k .non)) pl.isList pl2.isList hsz hu0 (items (by simp [D.dep]) j j' rx ry) fin
   . have e2 : (ds.length == es.length) = false := by simp at hsz ⊢; omega
     rw [e2, Bool.and_false] at fin;exact eq_list_lengthsAt pl.isList pl2.isList (by simpa using hsz) hu0 fin
 . rename_i ds es;obtain ⟨a, xs, rfl, l, j⟩ := aG i;obtain ⟨a', ys, rfl, l', j'⟩ := aG i';cases rx; cases ry;obtain ⟨its, rx, pl, _⟩ := I.tuple l;obtain ⟨its2, ry, pl2, _⟩ := I.tuple l';have z1 := j.length; have z2 := j'.length; have z3 := rx.length; have z4 := ry.length;simp only [aJ] at fin;rw [<- bu] at fin;have e1 : its.toArray.size = ds.length := by simp; omega
   have e2 : its2.toArray.size = es.length := by simp; omega
   rw [<- e1, <- e2] at fin;exact eq_tupleAt (e := fun k => aJ (ds.getD k .non) (es.getD k .non)) pl pl2 hu0 (items (by simp [D.dep]) j j' rx ry) fin
 . cases hp
theorem DR : jC X (compareOp .NotEq) (fun x y H Q => ∃ d d' Z Z', In X.K H Z d x /\ In X.K H Z' d' y /\ pairD d d' = true /\ X.A.units + d.dep < cLine /\ Q (.bl (!aJ d d')) H) := by
 intro pins s σ H x y v u Q I rx ry h;obtain ⟨d, d', Z, Z', i, i', hp, hu, q⟩ := h;have fin : EP X pins σ Q (.bool (!aJ d d')) s := ⟨.bl (!aJ d d'), H, I, rfl, q⟩
 have hu0 : X.A.units < cLine := by omega
 have items : ∀ {ds es : List D} {xs ys : List V} {its its2 : HW}, bH ds < d.dep -> aH X.K H Z ds xs -> aH X.K H Z' es ys -> Vals xs its -> Vals ys its2 -> ∀ j (h1 : j < its.toArray.size) (h2 : j < its2.toArray.size),
  EqAt X.A.in1 s its.toArray[j] its2.toArray[j] (aJ (ds.getD j .non) (es.getD j .non)) := fun {ds es xs ys its its2} hdn jx jy rx ry j h1 h2 => by
  have z1 := jx.length; have z2 := jy.length; have z3 := rx.length; have z4 := ry.length;simp at h1 h2;have hj1 : j < ds.length := by omega
  have hj2 : j < es.length := by omega
  obtain ⟨x, ex, ix⟩ := jx.get (i := j) (d := ds[j]) (by simp [hj1]);obtain ⟨y, ey, iy⟩ := jy.get (i := j) (d := es[j]) (by simp [hj2]);obtain ⟨w1, f1, q1⟩ := rx.get ex;obtain ⟨w2, f2, q2⟩ := ry.get ey;have g1 : its.toArray[j] = w1 := by
   have := (List.getElem?_eq_some_iff.mp f1).2;simpa using this
  have g2 : its2.toArray[j] = w2 := by
   have := (List.getElem?_eq_some_iff.mp f2).2;simpa using this
  rw [g1, g2];have e1 : ds.getD j .non = ds[j] := by simp [hj1]
  have e2 : es.getD j .non = es[j] := by simp [hj2]
  rw [e1, e2];exact iR I (d.dep - 1) ix iy q1 q2 (by have := dJ (getElem_mem hj1); omega) (by show X.A.units + 1 + (d.dep - 1) < cLine; omega)
 unfold pairD at hp;split at hp
 . rename_i ds es;obtain ⟨a, xs, rfl, l, j⟩ := ar.mp i;obtain ⟨a', ys, rfl, l', j'⟩ := ar.mp i';cases rx; cases ry;obtain ⟨its, rx, pl, _⟩ := I.list l.sq;obtain ⟨its2, ry, pl2, _⟩ := I.list l'.sq;have z1 := j.length; have z2 := j'.length; have z3 := rx.length; have z4 := ry.length;simp only [aJ] at fin;rw [<- bu] at fin;by_cases hsz : its.toArray.size = its2.toArray.size
   . have e1 : its.toArray.size = min ds.length es.length := by simp at hsz ⊢; omega
     have e2 : (ds.length == es.length) = true := by simp at hsz ⊢; omega
     rw [e2, Bool.and_true, <- e1] at fin;exact RcNeAt.lists (e := fun k => aJ (ds.getD k .non) (es.getD k .non)) pl.isList pl2.isList hsz hu0 (items (by simp [D.dep]) j j' rx ry) _ _ _ _ fin
   . have e2 : (ds.length == es.length) = false := by simp at hsz ⊢; omega
     rw [e2, Bool.and_false] at fin;exact RcNeAt.lists_lengths pl.isList pl2.isList (by simpa using hsz) hu0 _ _ _ _ fin
 . rename_i ds es;obtain ⟨a, xs, rfl, l, j⟩ := aG i;obtain ⟨a', ys, rfl, l', j'⟩ := aG i';cases rx; cases ry;obtain ⟨its, rx, pl, _⟩ := I.tuple l;obtain ⟨its2, ry, pl2, _⟩ := I.tuple l';have z1 := j.length; have z2 := j'.length; have z3 := rx.length; have z4 := ry.length;simp only [aJ] at fin;rw [<- bu] at fin;have e1 : its.toArray.size = ds.length := by simp; omega
   have e2 : its2.toArray.size = es.length := by simp; omega
   rw [<- e1, <- e2] at fin;exact RcNeAt.tuples (e := fun k => aJ (ds.getD k .non) (es.getD k .non)) pl pl2 hu0 (items (by simp [D.dep]) j j' rx ry) _ _ _ _ fin
 . cases hp
end
section
variable {X : Cx} {ρ : List (Option D)} {m1 m2 : Bool} {a b : Expr} {d d' : D} {pos : Pos}
theorem E7 (ha : E X m1 ρ a d) (hb : E X m2 ρ b d') (hp : pairD d d' = true) (hu : X.A.units + d.dep < cLine) : T X ρ (.Compare a [.Eq] [b] pos) (aJ d d') :=
 iL Dh ha hb (fun x y H Z Q _ i1 i2 k => ⟨d, d', Z, Z, i1, i2, hp, hu, k _ (aq.refl H)⟩) (cy _)
theorem CW (ha : E X m1 ρ a d) (hb : E X m2 ρ b d') (hp : pairD d d' = true) (hu : X.A.units + d.dep < cLine) : T X ρ (.Compare a [.NotEq] [b] pos) (!aJ d d') :=
 iL DR ha hb (fun x y H Z Q _ i1 i2 k => ⟨d, d', Z, Z, i1, i2, hp, hu, k _ (aq.refl H)⟩) (cy _)
end
section
variable {X : Cx} {F : Fn} {ρ : cR} {Q : jv} {rest : List Stmt} {e : Expr} {d : D} {pos p : Pos} {x : Str} {fr m1 : Bool} {ds : List D} {dss : List (List D)}
theorem rz (i : Nat) {x : Str} {d : D} (he : EC X true (view true false ρ) e d) (hr : SD X F rest (ρ.set i (some (.pl true d))) Q) (hN : X.N.Nodup) (hi : X.N[i]? = some x := by rfl)
 (hx : Loc X.env.scope x := by first | exact Or.inl rfl | exact Or.inr rfl) (hρ : i < ρ.length := by exact of_decide_eq_true rfl) (hs : swapsWith e (some (.Name x p)) pos.line X.env = pure true := by rfl) (hf : X.fn x = true \/ X.env.scope.names.lookup x = some .local := by first | exact .inl rfl | exact .inr rfl) :
 SD X F (.Assign [.Name x p] e pos :: rest) ρ Q :=
 cH (PS.mono (he.s x i pos p hN hi hx hs hf) fun Q' σ H z0 => fc z0 fun hv hρ' A hl S f => ⟨_, aU S true false, S.env hl true false, fun v H1 s1 i1 => f.nx _ H1 (lg hl S hρ s1 (In.up (fY S true) i1))⟩) hr
end
section
variable {X : Cx} {pins : HZ} {σ : St} {H H' : Hp} {s : Shared} {h' : Heap}
theorem jL {t' : Nat} {ch : List Addr} (I : Inv X pins σ H s) (k : ∀ b o, b ∉ ch -> s.heap.get? b = some o -> h'.get? b = some o) (hf : ∀ b ∈ ch, gT X pins H b) : Inv X pins σ H { s with heap := h', toks := t' } := by
 have nit : ∀ b u, H b = some u -> b ∉ ch := fun b u e z => by rw [(hf b z).1] at e; cases e
 refine I.step (g' := s.gens) (d' := s.drawn) (ch := ch) (fun b hb => ⟨(hf b hb).2.2.2.1, (hf b hb).2.1, (hf b hb).2.2.2.2.1, (hf b hb).2.2.2.2.2⟩) (fun b o _ _ hc e _ => k b o hc e) (fun b o _ _ hc e _ => ⟨o.slots, k b o hc e⟩) (fun _ _ _ _ n => n)
  (fun b o hc e => ⟨o, k b o hc e⟩) (fun _ _ e => e) (fun _ _ _ e => e) (fun b ps e => ⟨#[], by rw [e]; simp⟩) (fun m hm => ?_) (fun b u e => ?_) I.bare
 . obtain ⟨o, es, ep, ho, r⟩ := hm;exact ⟨o, es, ep, k _ o (fun z => (hf _ z).2.1 rfl) ho, r⟩
 . refine (I.hok b u e).lT (fun c v hc q => k c v ?_ q) (fun _ q => q) fun _ _ q => q;rcases hc with z | z
   . rw [z]; exact nit b u e
   . exact nit c _ z
theorem Cn {a : Addr} {o : HO} (I : Inv X pins σ H s) (f : gT X pins H a) (ha : X.s₀.heap.objs.size <= a) (new : bB X.prog X.w (upd H a o) s.heap a o) : Inv X pins σ (upd H a o) s := by
 have hn := f.1;have ne0 : ∀ b ob, X.s₀.heap.get? b = some ob -> b ≠ a := fun b ob e => Nat.ne_of_lt (Nat.lt_of_lt_of_le (lt_size e) ha);refine ⟨I.ok, I.os, I.bare, ⟨I.base.keep, I.base.slot, fun b ob e n hx => ?_, I.base.there, fun b xs e => ?_, fun b ob u e => ?_, fun b ps e => ?_⟩, I.loc, I.cell, ?_, fun x c e => ?_, fun p hp => ?_, fun b u e => ?_, I.len⟩
 . rw [ag (ne0 b ob e)]; exact I.base.free b ob e n hx
 . have := I.base.tups b xs e;rw [ag (av this hn)]; exact this
 . have := I.base.frzs b ob u e;rw [ag (av this hn)]; exact this
 . obtain ⟨m, e1⟩ := I.base.tbls b ps e;exact ⟨m, by rw [ag (av e1 hn)]; exact e1⟩
 . rw [ag (Ne.symm f.2.1)]; exact I.free
 . rw [ag (f.2.2.2.2.1 x c e)]; exact I.freeC x c e
 . obtain ⟨h1, h2, h3, h4, h5⟩ := I.pin p hp;exact ⟨h1, by rw [ag (f.2.2.2.2.2 p hp)]; exact h2, h3, h4, h5⟩
 . by_cases hb : b = a
   . subst hb; rw [ax] at e; cases e; exact new
   . rw [ag hb] at e;exact (I.hok b u e).lT (fun c v _ q => q) (fun c q => by rw [ag (av q hn)]; exact q) fun c xs q => by rw [ag (av q hn)]; exact q
end
def Hj (K : Frag) (a : Addr) : It :=
 ⟨fun i H => ∃ xs x, dM K H a xs /\ xs[i]? = some x, fun i H y H' => ∃ p x, H p = none /\ y = .ref p /\ (∀ xs, dM K H a xs -> xs[i]? = some x) /\ H' = upd H p (.tup [.int i, x]), fun i H => ∃ xs, dM K H a xs /\ xs.length <= i⟩
theorem vS {P : Program} {w : World} {K : Frag} {es : List Expr} {kt : Nat} {pt : Pos} (a e it : Addr) (hne : e ≠ it) : Turn P w K (.Tuple es kt pt) (Hj K a) [e, it] e (fun i h => (∃ old, IsEnum h e it (i : Nat) old) /\ h.IsListIter it a i) where
 mem := by simp
 obj := fun i h st b hb => by
  obtain ⟨⟨old, he⟩, o, e1, c, d⟩ := st;rcases mem_cons.mp hb with rfl | hb
  . exact ⟨_, he, fun v z => by
     have z' : Data.fields _ = Data.cell v := z;cases z'⟩
  . have e2 : b = it := by simpa using hb
    subst e2;exact ⟨o, e1, fun v z => by rw [d] at z; cases z⟩
 keep := fun i h h' st k => by
  obtain ⟨⟨old, he⟩, hit⟩ := st;exact ⟨⟨old, k e (by simp) _ he⟩, hit.at fun o q => k it (by simp) o q⟩
 item := by
  intro X hP hw hK hc i pins s σ H E I hf st hg;subst hP hw hK;obtain ⟨⟨old, he⟩, hit⟩ := st;obtain ⟨xs, x, hq, hx⟩ := hg;obtain ⟨its, rv, p, hz⟩ := I.list hq;obtain ⟨u, hu, ru⟩ := rv.get hx;refine wpAny_pyNext_enum_item he hit p.isList (x := u) (by simpa using hu) hne fun h1 he1 hit1 ht1 hz1 hk1 => ?_;refine ⟨_, rfl, wpAny_letOwnedTupleGo_enum (s := { s with heap := h1, toks := s.toks + 1 }) he1 fun h2 he2 sb2 => ?_⟩;have hlt : e < s.heap.objs.size := lt_size he;have kk : ∀ b o, b ∉ [e, it] -> s.heap.get? b = some o -> h2.get? b = some o := fun b o hb q => by
   have b1 : b ≠ e := fun z => hb (by simp [z]);have b2 : b ≠ it := fun z => hb (by simp [z]);exact (sb2.2 b b1).trans (hk1 b o b1 b2 q)
  have I2 : Inv X pins σ H { s with heap := h2, toks := s.toks + 1 } := jL I kk hf;have fresh := I.hok.fresh (Nat.le_refl s.heap.objs.size);have tup : h2.get? s.heap.objs.size = some { cls := .type "tuple", data := .seq #[.int i s.toks, u] } := (sb2.2 _ (Nat.ne_of_gt hlt)).trans ht1;have I3 := Cn (o := .tup [.int (i : Nat), x]) I2 (I.pK (Nat.le_refl _) fresh) (Nat.le_trans I.sz (Nat.le_refl _)) ⟨by show 2 <= sizeLine; exact Nat.le_of_lt (bS (by decide)), [.int i s.toks, u], .cons ⟨_, rfl⟩ (.cons ru .nil), ⟨_, tup, rfl, _, rfl⟩⟩;refine ⟨.ref s.heap.objs.size, _, I3, rfl, ⟨s.heap.objs.size, x, fresh, rfl, fun ys hy => by rw [I.fC hy hq]; exact hx, rfl⟩, ⟨⟨u, ?_⟩, ?_⟩, fun b hb => ?_⟩
  . have : ((i : Int) + 1) = ((i + 1 : Nat) : Int) := by omega
    rw [<- this]; exact he2
  . obtain ⟨o, q, c, d⟩ := hit1;exact ⟨o, (sb2.2 it (Ne.symm hne)).trans q, c, d⟩
  . have hb' : b < s.heap.objs.size := by
     rcases mem_cons.mp hb with rfl | hb
     . exact hlt
     . have e2 : b = it := by simpa using hb
       subst e2;obtain ⟨o, q, _⟩ := hit;exact lt_size q
    rw [ag (Nat.ne_of_lt hb')]; exact (hf b hb).1
 done := by
  intro X hP hw hK hc i pins s σ H E I hf st hg;subst hP hw hK;obtain ⟨⟨old, he⟩, hit⟩ := st;obtain ⟨xs, hq, hx⟩ := hg;obtain ⟨its, rv, p, hz⟩ := I.list hq;have hl := rv.length;exact wpAny_pyNext_enum_end (I.ok.hd hc) he hit p.isList (by simp; omega) fun h' eb => ⟨rfl, jL (t' := s.toks) (ch := [it]) I (fun b o hb q => eb b o (by simpa using hb) q) fun b hb => hf b (by
   have : b = it := by simpa using hb
   simp [this])⟩
 self := fun _ _ _ _ _ st h => by
  obtain ⟨⟨old, he⟩, _⟩ := st;exact wpAny_pyIter_enum he h
section
variable {X : Cx} {ρ : List (Option D)} {m m1 m2 : Bool} {es : List Expr} {kt : Nat} {pt p pos : Pos} {a b : Expr} {ds es' : List D}
def E1 (K : Frag) (ta : TA) : TI := fun σ H R => ta σ H fun vs H1 => ∃ l, vs = [.ref l] /\ (∃ xs, dM K H1 l xs) /\ R (Hj K l) H1
theorem Cc {ta : TA} (hg : Gl X "enumerate") (hm : X.mg "enumerate" = none) (ha : PA X [a] ta) (hs : starEach [a] X.env = [(false, eval a X.env)] := by rfl) : PI X (.Tuple es kt pt) (.Call (.Name "enumerate" p) [a] [] pos) (E1 X.K ta) := by
 intro pins s σ H R I h;refine Call_ (fh I hg hm boot_enumerate (PyProof.Rows.callWith_type1 (ck (ha pos pins s σ H _ I h) fun us s1 ⟨vs, H1, I1, r1, q1⟩ => ?_) hs rfl));obtain ⟨l, e, ⟨xs, hq⟩, q⟩ := q1;subst e;obtain ⟨u, rfl, ru⟩ := vals1 r1;cases ru;obtain ⟨its, rv, pl, hz⟩ := I1.list hq;refine call_enumerate_list pl.isList fun h' he hit hz' hk => ?_;have I2 : Inv X pins σ H1 { s1 with heap := h' } := I1.kept (t' := s1.toks) hk;refine wpAny_pyIter_enum (s := { s1 with heap := h' }) he ⟨s1.heap.objs.size + 1, [s1.heap.objs.size + 1, s1.heap.objs.size], _, _, H1, rfl, I2, vS l _ _ (Nat.succ_ne_self _), ⟨⟨_, he⟩, hit⟩, fun b hb => ?_, q⟩;rcases mem_cons.mp hb with rfl | hb
 . exact I1.pK (Nat.le_succ _) (I1.hok.fresh (Nat.le_succ _))
 . have e : b = s1.heap.objs.size := by simpa using hb
   subst e;exact I1.pK (Nat.le_refl _) (I1.hok.fresh (Nat.le_refl _))
def m6 (ds : List D) : List D := (List.range ds.length).map fun i => D.tup [.int (i : Nat), ds.getD i .non]
theorem nc {i : Nat} {d : D} (h : (m6 ds)[i]? = some d) : ∃ d', ds[i]? = some d' /\ d = .tup [.int (i : Nat), d'] := by
 unfold m6 at h;rw [getElem?_map] at h;by_cases hi : i < ds.length
 . rw [List.getElem?_range hi] at h;refine ⟨ds[i], by simp [hi], ?_⟩;have := Option.some.inj h;rw [<- this]; simp [hi]
 . rw [List.getElem?_eq_none (by simpa using hi)] at h;cases h
theorem m8 : (m6 ds).length = ds.length := by simp [m6]
theorem AS (h : E X m ρ a (.lst ds)) (hm : X.mg "enumerate" = none) (hg : Gl X "enumerate" := by rfl) (hs : starEach [a] X.env = [(false, eval a X.env)] := by rfl) :
 IT X (.Tuple es kt pt) m ρ (.Call (.Name "enumerate" p) [a] [] pos) (m6 ds) := PI.mono (Cc hg hm (aM h bh (by rw [hs]; rfl)) hs) fun σ H R z0 => aO z0 fun Z oz en k => ⟨Z, oz, en, fun v H1 s1 i1 => by
 obtain ⟨l, xs, rfl, at', j⟩ := ar.mp i1;refine ⟨l, rfl, ⟨xs, at'.sq⟩, k _ H1 [.ref l] [.lst ds] s1 (aH.one i1) ⟨fun Z2 H2 o2 j2 i d e => ?_, fun Z2 H2 o2 j2 => ?_⟩⟩
 . obtain ⟨d', e', rfl⟩ := nc e;obtain ⟨w, r, e1, j3, j4⟩ := ao.mp j2;cases e1;obtain ⟨a', ys, e2, l2, j5⟩ := ar.mp j3;cases e2;obtain ⟨v, e3, iv⟩ := j5.get e';refine ⟨⟨ys, v, l2.sq, e3⟩, fun x H3 ⟨q, y, hq, ex, hy, eH⟩ => ?_⟩;subst ex eH;have := hy ys l2.sq;rw [e3] at this;cases this;exact ⟨az hq, bO.mpr ⟨q, _, rfl, ax, ao.mpr ⟨_, _, rfl, au.mpr rfl, aH.one (iv.same (az hq))⟩⟩⟩
 . obtain ⟨w, r, e1, j3, j4⟩ := ao.mp j2;cases e1;obtain ⟨a', ys, e2, l2, j5⟩ := ar.mp j3;cases e2;exact ⟨ys, l2.sq, by rw [m8]; exact Nat.le_of_eq j5.length.symm⟩⟩
theorem BY (ha : E X m1 ρ a (.tup ds)) (hm : X.mg "list" = none) (hmm : m = true -> m1 = true \/ aV ds = true := by intro h; first | exact .inl h | cases h) (hg : Gl X "list" := by rfl) (hs : starEach [a] X.env = [(false, eval a X.env)] := by rfl) : E X m ρ (.Call (.Name "list" p) [a] [] pos) (.lst ds) :=
 PE.mono (nq oP hg hm boot_list (aM ha bh (by rw [hs]; rfl)) (by decide) (by decide) (by rw [hs]; rfl) rfl) fun σ H Q z0 => aO z0 fun Z oz en k => ⟨Z, oz, en, fun x H1 s1 i1 => by
  obtain ⟨l, xs, rfl, at', j⟩ := aG i1;refine ⟨l, xs, rfl, .inr at', fun q hq => k (.ref q) _ (s1.trans (az hq)) (ar.mpr ⟨q, xs, rfl, .inl ⟨ax, ?_⟩, ?_⟩)⟩
  . cases m
    . exact oz q (s1.free hq)
    . exact s1.free hq
  . have jc := j.same (az (o := .lst xs) hq);cases m
    . cases m1
      . exact jc
      . exact jc.up oz
    . rcases hmm rfl with h | h
      . subst h; exact jc
      . exact jc.df h⟩
theorem kx (ha : E X m1 ρ a (.lst ds)) (hm : X.mg "tuple" = none) (hg : Gl X "tuple" := by rfl) (hs : starEach [a] X.env = [(false, eval a X.env)] := by rfl) : E X m1 ρ (.Call (.Name "tuple" p) [a] [] pos) (.tup ds) :=
 PE.mono (nq ma hg hm boot_tuple (aM ha bh (by rw [hs]; rfl)) (by decide) (by decide) (by rw [hs]; rfl) rfl) fun σ H Q z0 => aO z0 fun Z oz en k => ⟨Z, oz, en, fun x H1 s1 i1 => by
  obtain ⟨l, xs, rfl, at', j⟩ := ar.mp i1;exact ⟨l, xs, rfl, .inl ⟨at'.sq, fun q hq => k (.ref q) _ (s1.trans (az hq)) (bO.mpr ⟨q, xs, rfl, ax, j.same (az hq)⟩)⟩⟩⟩
end
theorem AZ {α β : Type} (f : α -> β) (l : List α) (a b : Option Int) : cut (l.map f) a b = (cut l a b).map f := by
 unfold cut;rw [length_map, List.map_take, List.map_drop]
theorem Ap {α : Type} {l : List α} {a b : Option Int} {x : α} (h : x ∈ cut l a b) : x ∈ l := List.mem_of_mem_drop (List.mem_of_mem_take h)
theorem d8 {n : Nat} (h : n <= 1000) : n <= sizeLine := Nat.le_of_lt (bS h)
theorem zR {α : Type} (xs : List α) (k : Nat) : cut xs (some (k : Int)) none = xs.drop k := by
 unfold cut;rw [HT.jF, HT.rA];by_cases h : k <= xs.length
 . rw [Nat.min_eq_left h];exact List.take_of_length_le (by simp)
 . have h' : xs.length <= k := by omega
   rw [Nat.min_eq_right h', List.drop_of_length_le h', List.drop_length];simp
theorem y8 {α : Type} (xs : List α) (k : Nat) : cut xs none (some (k : Int)) = xs.take k := by
 unfold cut;rw [HT.jF, HT.rA];by_cases h : k <= xs.length
 . rw [Nat.min_eq_left h]; simp
 . have h' : xs.length <= k := by omega
   rw [Nat.min_eq_right h', List.take_of_length_le h'];simp
theorem iJ {α : Type} (xs : List α) (j k : Nat) : cut xs (some (j : Int)) (some (k : Int)) = (xs.drop j).take (k - j) := by
 unfold cut;rw [HT.jF, HT.jF];by_cases h : j <= xs.length
 . rw [Nat.min_eq_left h];by_cases h2 : k <= xs.length
   . rw [Nat.min_eq_left h2]
   . have h3 : xs.length <= k := by omega
     rw [Nat.min_eq_right h3, List.take_of_length_le (by simp), List.take_of_length_le (by simp; omega)]
 . have h' : xs.length <= j := by omega
   rw [Nat.min_eq_right h', List.drop_of_length_le h', List.drop_length];simp
theorem fV {ds : List D} {a b : Option Int} (h : aV ds = true) : aV (cut ds a b) = true := fP fun d hd => ny h d (Ap hd)
theorem eJ {α : Type} {xs : List α} {i : Int} {a : α} (h0 : 0 <= i) (h : xs[i.toNat]? = some a) : gS xs i = some a := by
 obtain ⟨k, rfl⟩ := Int.eq_ofNat_of_zero_le h0;exact aX (by simpa using h)
def Hd (K : Frag) (a b : Addr) : It :=
  ⟨fun i H => ∃ xs ys x y, dM K H a xs /\ dM K H b ys /\ xs[i]? = some x /\ ys[i]? = some y,
   fun i H z H' => ∃ p x y, H p = none /\ z = .ref p /\ (∀ xs, dM K H a xs -> xs[i]? = some x) /\ (∀ ys, dM K H b ys -> ys[i]? = some y) /\ H' = upd H p (.tup [x, y]),
   fun i H => ∃ xs ys, dM K H a xs /\ dM K H b ys /\ (xs.length <= i \/ ys.length <= i)⟩
theorem ya {P : Program} {w : World} {K : Frag} {es : List Expr} {kt : Nat} {pt : Pos} (a b z TI TO i1 i2 : Addr) (D : ZipApart z TI TO i1 i2 a b) :
 Turn P w K (.Tuple es kt pt) (Hd K a b) [z, TI, TO, i1, i2] z (fun i h => IsZip h z TI TO .none /\ IsPair h TI (.ref i1) (.ref i2) /\ (∃ u v, IsPair h TO u v) /\ h.IsListIter i1 a i /\ h.IsListIter i2 b i) where
 mem := by simp
 obj := fun i h st c hc => by
  obtain ⟨hz, hTI, ⟨u, v, hTO⟩, ⟨o1, e1, c1, d1⟩, ⟨o2, e2, c2, d2⟩⟩ := st;simp only [mem_cons, not_mem_nil, or_false] at hc;rcases hc with rfl | rfl | rfl | rfl | rfl
  . exact ⟨_, hz, fun v q => by
     have q' : Data.fields _ = Data.cell v := q;cases q'⟩
  . exact ⟨_, hTI, fun v q => by
     have q' : Data.seq _ _ = Data.cell v := q;cases q'⟩
  . exact ⟨_, hTO, fun v q => by
     have q' : Data.seq _ _ = Data.cell v := q;cases q'⟩
  . exact ⟨o1, e1, fun v q => by rw [d1] at q; cases q⟩
  . exact ⟨o2, e2, fun v q => by rw [d2] at q; cases q⟩
 keep := fun i h h' st k => by
  obtain ⟨hz, hTI, ⟨u, v, hTO⟩, h1, h2⟩ := st;exact ⟨k z (by simp) _ hz, k TI (by simp) _ hTI, ⟨u, v, k TO (by simp) _ hTO⟩, h1.at fun o q => k i1 (by simp) o q, h2.at fun o q => k i2 (by simp) o q⟩
 item := by
  intro X hP hw hK hc i pins s σ H E I hf st hg;subst hP hw hK;obtain ⟨hz, hTI, ⟨u0, v0, hTO⟩, h1, h2⟩ := st;obtain ⟨xs, ys, x, y, hqa, hqb, hx, hy⟩ := hg;obtain ⟨its, rv, p, hsz⟩ := I.list hqa;obtain ⟨its2, rv2, p2, hsz2⟩ := I.list hqb;obtain ⟨u, hu, ru⟩ := rv.get hx;obtain ⟨v, hv, rv'⟩ := rv2.get hy;refine wpAny_pyNext_zip_item D hz hTI hTO h1 h2 p.isList p2.isList (x := u) (y := v) (by simpa using hu) (by simpa using hv) fun h' hz1 hTO1 h11 h21 ht1 hsz1 hk1 => ?_;refine ⟨_, rfl, wpAny_letOwnedTupleGo_zip (s := { s with heap := h' }) hz1 fun h2' hz2 sb2 => ?_⟩;have hlt : z < s.heap.objs.size := lt_size hz;have kk : ∀ c o, c ∉ [z, TI, TO, i1, i2] -> s.heap.get? c = some o -> h2'.get? c = some o := fun c o hc q => by
   simp only [mem_cons, not_mem_nil, or_false, not_or] at hc;exact (sb2.2 c hc.1).trans (hk1 c o hc.1 hc.2.2.1 hc.2.2.2.1 hc.2.2.2.2 q)
  have I2 : Inv X pins σ H { s with heap := h2', toks := s.toks } := jL I kk hf;have fresh := I.hok.fresh (Nat.le_refl s.heap.objs.size);have tup : h2'.get? s.heap.objs.size = some { cls := .type "tuple", data := .seq #[u, v] } := (sb2.2 _ (Nat.ne_of_gt hlt)).trans ht1;have I3 := Cn (o := .tup [x, y]) I2 (I.pK (Nat.le_refl _) fresh) (Nat.le_trans I.sz (Nat.le_refl _)) ⟨by show 2 <= sizeLine; exact Nat.le_of_lt (bS (by decide)), [u, v], .cons ru (.cons rv' .nil), ⟨_, tup, rfl, _, rfl⟩⟩;refine ⟨.ref s.heap.objs.size, _, I3, rfl, ⟨s.heap.objs.size, x, y, fresh, rfl, fun zs hs => by rw [I.fC hs hqa]; exact hx, fun zs hs => by rw [I.fC hs hqb]; exact hy, rfl⟩, ⟨hz2, ?_, ⟨u, v, ?_⟩, ?_, ?_⟩, fun c hc => ?_⟩
  . exact (sb2.2 TI D.TIz).trans (hk1 TI _ D.TIz D.TITO D.TIi1 D.TIi2 hTI)
  . exact (sb2.2 TO D.TOz).trans hTO1
  . obtain ⟨o, q, c, d⟩ := h11;exact ⟨o, (sb2.2 i1 D.i1z).trans q, c, d⟩
  . obtain ⟨o, q, c, d⟩ := h21;exact ⟨o, (sb2.2 i2 D.i2z).trans q, c, d⟩
  . have hc' : c < s.heap.objs.size := by
     simp only [mem_cons, not_mem_nil, or_false] at hc;rcases hc with rfl | rfl | rfl | rfl | rfl
     . exact hlt
     . exact lt_size hTI
     . exact lt_size hTO
     . obtain ⟨o, q, _⟩ := h1; exact lt_size q
     . obtain ⟨o, q, _⟩ := h2; exact lt_size q
    rw [ag (Nat.ne_of_lt hc')]; exact (hf c hc).1
 done := by
  intro X hP hw hK hc i pins s σ H E I hf st hg;subst hP hw hK;obtain ⟨hz, hTI, ⟨u0, v0, hTO⟩, h1, h2⟩ := st;obtain ⟨xs, ys, hqa, hqb, hx⟩ := hg;obtain ⟨its, rv, p, hsz⟩ := I.list hqa;obtain ⟨its2, rv2, p2, hsz2⟩ := I.list hqb;have hl := rv.length;have hl2 := rv2.length;refine wpAny_pyNext_zip_end (I.ok.hd hc) D hz hTI hTO h1 h2 p.isList p2.isList (by
   rcases hx with h | h
   . left; simp; omega
   . right; simp; omega) fun h' eb => ⟨rfl, jL (t' := s.toks) (ch := [z, TI, TO, i1, i2]) I (fun c o hc q => ?_) hf⟩
  simp only [mem_cons, not_mem_nil, or_false, not_or] at hc;exact eb c o hc.1 hc.2.2.1 hc.2.2.2.1 hc.2.2.2.2 q
 self := fun _ _ _ _ _ st h => wpAny_pyIter_zip st.1 h
section
variable {X : Cx} {ρ : List (Option D)} {m m1 m2 : Bool} {es : List Expr} {kt : Nat} {pt p pos : Pos} {a b : Expr} {ds es' : List D}
def Gr (K : Frag) (ta : TA) : TI := fun σ H R => ta σ H fun vs H1 => ∃ l l', vs = [.ref l, .ref l'] /\ (∃ xs, dM K H1 l xs) /\ (∃ xs, dM K H1 l' xs) /\ R (Hd K l l') H1
theorem Dg {ta : TA} (hg : Gl X "zip") (hm : X.mg "zip" = none) (ha : PA X [a, b] ta) (hs : starEach [a, b] X.env = [(false, eval a X.env), (false, eval b X.env)] := by rfl) (hs2 : starEach [b] X.env = [(false, eval b X.env)] := by rfl) : PI X (.Tuple es kt pt) (.Call (.Name "zip" p) [a, b] [] pos) (Gr X.K ta) := by
 intro pins s σ H R I h;refine Call_ (fh I hg hm boot_zip (PyProof.Rows.callWith_type1 (ck (ha pos pins s σ H _ I h) fun us s1 ⟨vs, H1, I1, r1, q1⟩ => ?_) (by rw [hs, <- hs2]) (by rw [hs2]; rfl)));obtain ⟨l, l', e, ⟨xs, hq⟩, ⟨ys, hq'⟩, q⟩ := q1;subst e
 cases r1 with
 | cons ra rr =>
  cases rr with
  | cons rb rn =>
   cases rn;cases ra;cases rb;obtain ⟨its, rv, pl, hz⟩ := I1.list hq;obtain ⟨its2, rv2, pl2, hz2⟩ := I1.list hq';obtain ⟨o1, _, g1, _⟩ := id pl;obtain ⟨o2, _, g2, _⟩ := id pl2;refine call_zip_2 pl.isList pl2.isList fun h' hz' hTI hTO hit1 hit2 hsz hk => ?_;have I2 : Inv X pins σ H1 { s1 with heap := h' } := I1.kept (t' := s1.toks) hk;refine wpAny_pyIter_zip (s := { s1 with heap := h' }) hz' ⟨s1.heap.objs.size + 4, [s1.heap.objs.size + 4, s1.heap.objs.size + 2, s1.heap.objs.size + 3, s1.heap.objs.size, s1.heap.objs.size + 1], _, _, H1, rfl, I2, ya l l' _ _ _ _ _ (zipApart_new (lt_size g1) (lt_size g2)), ⟨hz', hTI, ⟨_, _, hTO⟩, hit1, hit2⟩, fun c hc => ?_, q⟩;have hge : s1.heap.objs.size <= c := by
    simp only [mem_cons, not_mem_nil, or_false] at hc;rcases hc with rfl | rfl | rfl | rfl | rfl
    . exact Nat.le_add_right _ _
    . exact Nat.le_add_right _ _
    . exact Nat.le_add_right _ _
    . exact Nat.le_refl _
    . exact Nat.le_add_right _ _
   exact I1.pK hge (I1.hok.fresh hge)
def oY (ds es : List D) : List D := (ds.zip es).map fun p => D.tup [p.1, p.2]
theorem qV {i : Nat} {d : D} (h : (oY ds es')[i]? = some d) : ∃ d1 d2, ds[i]? = some d1 /\ es'[i]? = some d2 /\ d = .tup [d1, d2] := by
 unfold oY at h;rw [getElem?_map] at h
 cases q : (ds.zip es')[i]? with
 | none => rw [q] at h; cases h
 | some p =>
  rw [q] at h;cases h;have := List.getElem?_zip_eq_some.mp q;exact ⟨p.1, p.2, this.1, this.2, rfl⟩
theorem kB : (oY ds es').length = min ds.length es'.length := by simp [oY]
theorem yS (h : E X m1 ρ a (.lst ds)) (h2 : E X m2 ρ b (.lst es')) (hm : X.mg "zip" = none) (hg : Gl X "zip" := by rfl) (hs : starEach [a, b] X.env = [(false, eval a X.env), (false, eval b X.env)] := by rfl) (hs2 : starEach [b] X.env = [(false, eval b X.env)] := by rfl) :
 IT X (.Tuple es kt pt) false ρ (.Call (.Name "zip" p) [a, b] [] pos) (oY ds es') := PI.mono (Dg hg hm (aw h (aC h2 (by rw [hs2]; rfl)) (by rw [hs, hs2])) hs hs2) fun σ H R z0 => aO z0 fun Z oz en k => ⟨Z, oz, en, fun vs H1 s1 i1 => by
 obtain ⟨v1, r1, rfl, j1, jr⟩ := ao.mp i1;obtain ⟨v2, r2, rfl, j2, jr2⟩ := ao.mp jr;cases aD.mp jr2;obtain ⟨l, xs, rfl, at1, jx⟩ := ar.mp j1;obtain ⟨l', ys, rfl, at2, jy⟩ := ar.mp j2;refine ⟨l, l', rfl, ⟨xs, at1.sq⟩, ⟨ys, at2.sq⟩, k _ H1 [.ref l, .ref l'] [.lst ds, .lst es'] s1 i1 ⟨fun Z2 H2 o2 j2 i d e => ?_, fun Z2 H2 o2 j2 => ?_⟩⟩
 . obtain ⟨d1, d2, e1, e2, rfl⟩ := qV e;obtain ⟨w, r, q1, j3, j4⟩ := ao.mp j2;cases q1;obtain ⟨w2, r2, q2, j5, j6⟩ := ao.mp j4;cases q2;obtain ⟨a1, us, q3, l3, j7⟩ := ar.mp j3;cases q3;obtain ⟨a2, ws, q4, l4, j8⟩ := ar.mp j5;cases q4;obtain ⟨v, e3, iv⟩ := j7.get e1;obtain ⟨v', e4, iv'⟩ := j8.get e2;refine ⟨⟨us, ws, v, v', l3.sq, l4.sq, e3, e4⟩, fun x H3 ⟨q, y, y', hq, ex, hy, hy', eH⟩ => ?_⟩;subst ex eH;have t1 := hy us l3.sq;rw [e3] at t1;cases t1;have t2 := hy' ws l4.sq;rw [e4] at t2;cases t2;exact ⟨az hq, bO.mpr ⟨q, _, rfl, ax, ao.mpr ⟨_, _, rfl, iv.same (az hq), aH.one (iv'.same (az hq))⟩⟩⟩
 . obtain ⟨w, r, q1, j3, j4⟩ := ao.mp j2;cases q1;obtain ⟨w2, r2, q2, j5, j6⟩ := ao.mp j4;cases q2;obtain ⟨a1, us, q3, l3, j7⟩ := ar.mp j3;cases q3;obtain ⟨a2, ws, q4, l4, j8⟩ := ar.mp j5;cases q4;refine ⟨us, ws, l3.sq, l4.sq, ?_⟩;rw [kB, <- j7.length, <- j8.length];omega⟩
end
section
variable {X : Cx} {pins : HZ} {σ : St} {H : Hp} {s : Shared}
theorem Inv.CZ {a : Addr} {xs : List V} (I : Inv X pins σ H s) (h : dM X.K H a xs) : ∃ (its : HW) (n : Nat) (sl : HU), Vals xs its /\ s.heap.get? a = some { cls := .type "list", dict := none, data := .seq its.toArray n, slots := sl } /\ xs.length <= sizeLine := by
 obtain ⟨its, r, ⟨o, n, e, hc, hd, hs⟩, z⟩ := I.list h;obtain ⟨cls, dict, data, slots⟩ := o;simp only at hc hd hs;subst hc hd hs;exact ⟨its, n, slots, r, e, z⟩
end
section
variable {X : Cx}
theorem BX : jC X (binaryOp .Add) (fun x y H Q => ∃ l b xs zs, x = .ref l /\ y = .ref b /\ dM X.K H l xs /\ dM X.K H b zs /\ xs.length + zs.length <= sizeLine /\ ∀ p, H p = none -> Q (.ref p) (upd H p (.lst (xs ++ zs)))) := by
 intro pins s σ H x y v u Q I rx ry h;obtain ⟨l, b, xs, zs, rfl, rfl, hH, hB, hz, q⟩ := h;cases rx;cases ry;obtain ⟨its, n, sl, r, e, z⟩ := Inv.CZ I hH;obtain ⟨its2, n2, sl2, r2, e2, z2⟩ := Inv.CZ I hB;have h1 := r.length;have h2 := r2.length;refine concat_meets ⟨_, e, rfl⟩ ⟨_, e2, rfl⟩ PySem.noFill_list_add PySem.seq_list_add F.slot_list_add F.entry_list_add (F.args_list_add_2 _ _) (list_addW l b its.toArray its2.toArray n n2 none none sl sl2 (by rw [size_toArray, size_toArray]; omega)) ⟨e, e2, ?_⟩;have ea : its.toArray ++ its2.toArray = (its ++ its2).toArray := by simp
 rw [ea];exact ⟨.ref _, _, I.FO (t' := s.toks) (r.append r2) (by rw [List.length_append]; omega), rfl, q _ I.fresh⟩
variable {ρ : List (Option D)} {m m1 m2 : Bool} {a b : Expr} {ds es : List D} {pos : Pos}
theorem Aj (ha : E X m1 ρ a (.lst ds)) (hb : E X m2 ρ b (.lst es)) (hz : ds.length + es.length <= sizeLine) (hm : m = true -> (m1 = true \/ aV ds = true) /\ (m2 = true \/ aV es = true) := by intro h; first | cases h | exact ⟨.inl rfl, .inl rfl⟩) : E X m ρ (.BinOp a .Add b pos) (.lst (ds ++ es)) :=
 PE.mono (CK BX ha hb) fun σ H Q z0 => aO z0 fun Z oz en k => ⟨Z, oz, en, fun x H1 s1 i1 => ⟨Z, oz.same s1, en.same s1, fun y H2 s2 i2 => by
  have s := s1.trans s2;obtain ⟨p, xs, rfl, lq, j⟩ := ar.mp (In.same s2 i1);obtain ⟨p', ys, rfl, lq', j'⟩ := ar.mp (In.later s1 i2);refine ⟨p, p', xs, ys, rfl, rfl, lq.sq, lq'.sq, by rw [<- j.length, <- j'.length]; exact hz, fun q hq => k (.ref q) _ (s.trans (az hq)) (ar.mpr ⟨q, _, rfl, .inl ⟨ax, ?_⟩, ?_⟩)⟩
  . cases m
    . exact oz q (s.free hq)
    . exact s.free hq
  . have jc := j.same (az (o := .lst (xs ++ ys)) hq);have jc' := j'.same (az (o := .lst (xs ++ ys)) hq);cases m
    . refine aH.append ?_ ?_
      . cases m1
        . exact jc
        . exact jc.up oz
      . cases m2
        . exact jc'
        . exact jc'.up oz
    . obtain ⟨q1, q2⟩ := hm rfl;refine aH.append ?_ ?_
      . rcases q1 with h | h
        . subst h; exact jc
        . exact jc.df h
      . rcases q2 with h | h
        . subst h; exact jc'
        . exact jc'.df h⟩⟩
end
end Y
namespace Y
open PySem PyProof.Rows Builtin Builtin.Str StrLaws
abbrev cl (z : Str) : List Nat := z.cps.toList
def FY (l : Ih) : Str := ⟨l.toArray⟩
theorem zK (z : Str) : FY (cl z) = z := by simp [cl, FY]
theorem xG {a b : Str} (h : cl a = cl b) : a = b := by rw [<- zK a, <- zK b, h]
theorem bZ (z : Str) : (cl z).length = z.length := by simp [cl, Str.length]
theorem bW (a b : Str) : cl (a ++ b) = cl a ++ cl b := by simp [cl, Str.cps_append]
theorem fR {z : Str} : cl z = [] ↔ z = "" := ⟨fun h => xG (by rw [h]; rfl), fun h => by subst h; rfl⟩
def cutAt (c : Nat) : List Nat -> List Ih
 | [] => [[]]
 | k :: r => if k = c then [] :: cutAt c r else (k :: (cutAt c r).headD []) :: (cutAt c r).tail
theorem gZ (c : Nat) : ∀ l, cutAt c l ≠ []
 | [] => by simp [cutAt]
 | k :: r => by unfold cutAt; split <;> simp
theorem kh {c : Nat} : ∀ {l : Ih}, c ∉ l -> cutAt c l = [l]
 | [], _ => rfl
 | k :: r, h => by
  have h1 : ¬ k = c := fun e => h (by simp [e]);have h2 : c ∉ r := fun e => h (by simp [e]);simp [cutAt, h1, kh h2]
theorem my {c : Nat} : ∀ {a : Ih} (b : Ih), c ∉ a -> cutAt c (a ++ c :: b) = a :: cutAt c b
 | [], b, _ => by simp [cutAt]
 | k :: r, b, h => by
  have h1 : ¬ k = c := fun e => h (by simp [e]);have h2 : c ∉ r := fun e => h (by simp [e]);simp [cutAt, h1, my b h2]
theorem ko {c : Nat} : ∀ {ps : Ie}, ps ≠ [] -> (∀ p ∈ ps, c ∉ cl p) -> cutAt c (cl (Str.join ⟨#[c]⟩ ps)) = ps.map cl
 | [], h, _ => absurd rfl h
 | [p], _, h => by
  show cutAt c (cl p) = _;rw [kh (h p (by simp))]; rfl
 | p :: q :: r, _, h => by
  show cutAt c (cl (p ++ ⟨#[c]⟩ ++ Str.join ⟨#[c]⟩ (q :: r))) = _;rw [bW, bW];have e : cl p ++ cl (⟨#[c]⟩ : Str) ++ cl (Str.join ⟨#[c]⟩ (q :: r)) = cl p ++ c :: cl (Str.join ⟨#[c]⟩ (q :: r)) := by simp [cl]
  rw [e, my _ (h p (by simp)), ko (by simp) fun x hx => h x (by simp [hx])];rfl
theorem xy (x y : Str) : Txt.split x y ≠ [] := by
 unfold Txt.split;split
 . simp
 . split
   . simp
   . rw [partsBetween_eq];obtain ⟨p, r, e⟩ := partsFrom_ne x y.length 0 (occurrences x y 0 x.length (x.length + 1));rw [e]; simp
theorem fT (x : Str) (c : Nat) : (Txt.split x ⟨#[c]⟩).map cl = cutAt c (cl x) := by
 rw [<- ko (xy x _) (split_free x c), join_split]
def qT (sp : Nat -> Bool) : List Nat -> List Nat -> List Ih
 | [], cur => if cur = [] then [] else [cur]
 | k :: r, cur => if sp k then (if cur = [] then qT sp r [] else cur :: qT sp r []) else qT sp r (cur ++ [k])
def pL (sp : Nat -> Bool) (l : Ih) : List Ih := qT sp l []
def eY (x : Str) (cur : Nat) : Option Nat -> List Nat
 | none => []
 | some b => ((cl x).drop b).take (cur - b)
theorem xR (x : Str) (i j : Nat) : cl (strSub x i j) = ((cl x).drop i).take (j - i) := strSub_toList x i j
theorem fz (x : Str) (limit : Nat) (hl : x.length < limit) : ∀ (m cur : Nat) (words : Array Ij) (start : Option Nat), cur + m = x.length -> SwOk x.length cur (none, words, start) -> (∀ b, start = some b -> b < cur) ->
 (swEnd x (forIn (List.range' cur m) ((none, words, start) : SwSt) (swBody x limit)).run).map (fun p => cl (strSub x p.1 p.2)) = words.toList.map (fun p => cl (strSub x p.1 p.2)) ++ qT Unicode.isSpace ((cl x).drop cur) (eY x cur start)
 | 0, cur, words, start, hm, h, hb => by
  have hc : cur = x.length := by omega
  subst hc;have hd : (cl x).drop x.length = [] := by rw [<- bZ]; simp
  rw [hd];simp only [List.range'_zero, List.forIn_nil];show (swEnd x (none, words, start)).map _ = _;unfold swEnd
  cases start with
  | none => simp [qT, eY]
  | some b =>
   have hlt := hb b rfl;have hne : ((cl x).drop b).take (x.length - b) ≠ [] := by
    intro e;have := congrArg List.length e;simp [cl] at this;have h2 : x.cps.size = x.length := rfl;omega
   simp [qT, eY, hne, xR]
 | m + 1, cur, words, start, hm, h, hb => by
  rw [List.range'_succ, List.forIn_cons];obtain ⟨h1, h2, h3⟩ := id h;have hcur : cur < x.length := by omega
  have hsz : ¬ ((words.size == limit) = true) := fun full => by
   have few := len_le_wsum words.toList;rw [Array.length_toList, eq_of_beq full] at few;cases start <;> dsimp only at h3 <;> omega
  have hx : cur < (cl x).length := by rw [bZ]; exact hcur
  have hget : x.cps.getD cur 0 = (cl x)[cur] := by
   have : cur < x.cps.size := hcur;simp [cl, Array.getD, this]
  have hdrop : (cl x).drop cur = (cl x)[cur] :: (cl x).drop (cur + 1) := List.drop_eq_getElem_cons hx;have hopt : (cl x)[cur]? = some (cl x)[cur] := List.getElem?_eq_getElem hx;revert hget hdrop hopt;generalize (cl x)[cur] = k;intro hget hdrop hopt;unfold swBody;simp only [hsz, if_false];rw [hget, hdrop]
  cases start with
  | none =>
   cases hsp : Unicode.isSpace k
   . have key := fz x limit hl m (cur + 1) words (some cur) (by omega) ⟨rfl, h2, Nat.le_succ cur, h3⟩ (fun b e => by cases e; omega);refine key.trans ?_;congr 1;have e1 : eY x (cur + 1) (some cur) = [k] := by
      simp only [eY];rw [hdrop];simp [show cur + 1 - cur = 1 by omega]
     rw [e1];simp [qT, hsp, eY]
   . have key := fz x limit hl m (cur + 1) words none (by omega) ⟨rfl, h2, Nat.le_succ_of_le h3⟩ (fun b e => by cases e);refine key.trans ?_;congr 1;simp [qT, hsp, eY]
  | some b =>
   have hlt := hb b rfl;have hne : ((cl x).drop b).take (cur - b) ≠ [] := by
    intro e;have := congrArg List.length e;rw [length_take, length_drop, bZ] at this;simp only [List.length_nil] at this;omega
   cases hsp : Unicode.isSpace k
   . have key := fz x limit hl m (cur + 1) words (some b) (by omega) ⟨rfl, h2, Nat.le_succ_of_le h3.1, h3.2⟩ (fun b' e => by cases e; omega);refine key.trans ?_;congr 1;have e1 : eY x (cur + 1) (some b) = eY x cur (some b) ++ [k] := by
      simp only [eY];rw [show cur + 1 - b = (cur - b) + 1 by omega, take_add_one];congr 1;rw [List.getElem?_drop, show b + (cur - b) = cur by omega, hopt];rfl
     rw [e1];simp [qT, hsp]
   . have ok : SwOk x.length (cur + 1) (none, words.push (b, cur), none) := by
      have step := sw_run x limit hl 1 cur (none, words, some b) (by omega) h;simpa [swBody, hsz, hget, hsp] using step
     have key := fz x limit hl m (cur + 1) (words.push (b, cur)) none (by omega) ok (fun b e => by cases e);refine key.trans ?_;rw [Array.toList_push, map_append, List.append_assoc];congr 1;simp only [eY];simp [qT, hsp, hne, xR]
theorem yE (x : Str) : (Txt.words x).map cl = pL Unicode.isSpace (cl x) := by
 have key := fz x (x.length + 1) (Nat.lt_succ_self _) x.length 0 #[] none (by omega) ⟨rfl, by simp, by simp [wsum]⟩ (fun b e => by cases e);rw [<- sw_eq] at key;simp only [List.drop_zero, eY] at key;unfold Txt.words;split
 . rename_i he;have he' : spaceWords x (x.length + 1) = [(0, x.length)] := by simpa using he
   rw [he'] at key;simp only [map_cons, map_nil] at key;rw [sub_whole] at key;simpa [pL] using key
 . show (((spaceWords x (x.length + 1)).map fun p => strSub x p.1 p.2)).map cl = _;rw [map_map];simpa [pL, Function.comp_def] using key
end Y
namespace Y
open PySem PyProof.Rows Builtin Builtin.Str StrLaws
def lM : Str := "abcdefghijklmnopqrstuvwxyz0123456789"
def gO (c : Nat) : Bool := decide (c ∈ cl lM)
def ip (c : Nat) : Nat := if gO c then c else 32
theorem jH : ∀ c ∈ cl lM, lo1 c = c /\ Unicode.isSpace c = false /\ c < 128 /\ c ≠ 10 /\ c ≠ 32 := by decide +kernel
theorem gD {c : Nat} (h : gO c = true) : c ∈ cl lM := by simpa [gO] using h
theorem yy {c : Nat} (h : gO c = true) : Unicode.isSpace c = false := (jH c (gD h)).2.1
theorem DY {c : Nat} (h : gO c = true) : lo1 c = c := (jH c (gD h)).1
theorem GU : Unicode.isSpace 32 = true := by decide +kernel
theorem BD (c : Nat) : Unicode.isSpace (ip c) = !gO c := by
 unfold ip;cases h : gO c
 . simp [GU]
 . simp [yy h]
def iu (l : Ih) : List Ih := pL Unicode.isSpace ((l.map lo1).map ip)
def e9 (cur : Ih) : List Ih := if cur = [] then [] else [cur]
def jw (row : List Ih) : List (List Ih) := if row = [] then [] else [row]
def yb (l : Ih) : List (List Ih) := ((cutAt 10 l).map iu).filter fun r => !decide (r = [])
def scan : List Nat -> List Ih -> List Nat -> List (List Ih)
 | [], row, cur => jw (row ++ e9 cur)
 | c :: cs, row, cur => if c = 10 then jw (row ++ e9 cur) ++ scan cs [] [] else if gO (lo1 c) then scan cs row (cur ++ [lo1 c]) else scan cs (row ++ e9 cur) []
theorem xM (sp : Nat -> Bool) (k : Nat) (r cur : Ih) : qT sp (k :: r) cur = if sp k then e9 cur ++ qT sp r [] else qT sp r (cur ++ [k]) := by
 unfold e9;rw [qT];split
 . split <;> simp
 . rfl
theorem uB (sp : Nat -> Bool) (cur : Ih) : qT sp [] cur = e9 cur := rfl
theorem nz (row : List Ih) (t : List (List Ih)) : ((row :: t).filter fun r => !decide (r = [])) = jw row ++ t.filter fun r => !decide (r = []) := by
 unfold jw;by_cases h : row = []
 . simp [h]
 . simp [h]
theorem ro : ∀ (l : Ih) (row : List Ih) (cur : Ih),
 scan l row cur = jw (row ++ qT Unicode.isSpace ((((cutAt 10 l).headD []).map lo1).map ip) cur) ++ (((cutAt 10 l).tail).map iu).filter fun r => !decide (r = [])
 | [], row, cur => by simp [scan, cutAt, uB]
 | c :: cs, row, cur => by
  have ih := ro cs;by_cases hc : c = 10
  . subst hc;have e : cutAt 10 (10 :: cs) = [] :: cutAt 10 cs := by simp [cutAt]
    rw [e];simp only [scan, if_true, List.headD_cons, List.tail_cons, map_nil, uB];congr 1;rw [ih [] []];obtain ⟨h, t, e2⟩ : ∃ h t, cutAt 10 cs = h :: t := by
     cases q : cutAt 10 cs with
     | nil => exact absurd q (gZ 10 cs)
     | cons h t => exact ⟨h, t, rfl⟩
    rw [e2];simp only [List.headD_cons, List.tail_cons, map_cons, List.nil_append];rw [nz];rfl
  . have e : cutAt 10 (c :: cs) = (c :: (cutAt 10 cs).headD []) :: (cutAt 10 cs).tail := by simp [cutAt, hc]
    rw [e];simp only [scan, hc, if_false, List.headD_cons, List.tail_cons, map_cons];rw [xM, BD];cases hs : gO (lo1 c)
    . simp only [Bool.not_false, if_true, Bool.false_eq_true, if_false];rw [ih, List.append_assoc]
    . simp only [Bool.not_true, if_true];rw [ih];have : ip (lo1 c) = lo1 c := by simp [ip, hs]
      rw [this];simp
theorem wj (l : Ih) : yb l = scan l [] [] := by
 rw [ro];unfold yb;obtain ⟨h, t, e2⟩ : ∃ h t, cutAt 10 l = h :: t := by
  cases q : cutAt 10 l with
  | nil => exact absurd q (gZ 10 l)
  | cons h t => exact ⟨h, t, rfl⟩
 rw [e2];simp only [map_cons, List.headD_cons, List.tail_cons, List.nil_append];rw [nz];rfl
def cO (part : Str) : List Str := Txt.words (Txt.join "" ((cl (Txt.lower part)).map fun c => if gO c then (⟨#[c]⟩ : Str) else " "))
def dr (z : Str) : List Ie := ((Txt.split z "\n").map cO).filter fun r => !decide (r = [])
theorem CI : ∀ (l : Ih), cl (Str.join "" (l.map fun c => (⟨#[c]⟩ : Str))) = l
 | [] => rfl
 | [c] => rfl
 | c :: d :: r => by
  show cl ((⟨#[c]⟩ : Str) ++ "" ++ Str.join "" ((d :: r).map fun c => (⟨#[c]⟩ : Str))) = _;rw [bW, bW, CI (d :: r)];rfl
theorem C0 (l : Ih) : cl (Txt.join "" (l.map fun c => if gO c then (⟨#[c]⟩ : Str) else " ")) = l.map ip := by
 have e : (l.map fun c => if gO c then (⟨#[c]⟩ : Str) else " ") = (l.map ip).map fun c => (⟨#[c]⟩ : Str) := by
  rw [map_map];apply map_congr_left;intro c _;simp only [Function.comp, ip];split <;> rfl
 show cl (glued "" _) = _;rw [glued_eq_join, e, CI]
theorem qP {z : Str} (h : ∀ c ∈ cl z, c < 128) : (cO z).map cl = iu (cl z) := by
 unfold cO;rw [yE, C0, lower_ascii h];simp [iu, cl]
theorem et {c : Nat} : ∀ {l p : Ih} {k : Nat}, p ∈ cutAt c l -> k ∈ p -> k ∈ l
 | [], p, k, hp, hk => by
  simp [cutAt] at hp;subst hp;exact hk
 | a :: r, p, k, hp, hk => by
  unfold cutAt at hp;split at hp
  . rcases mem_cons.mp hp with rfl | hp
    . simp at hk
    . exact mem_cons_of_mem _ (et hp hk)
  . rcases mem_cons.mp hp with rfl | hp
    . rcases mem_cons.mp hk with rfl | hk
      . exact mem_cons_self
      . refine mem_cons_of_mem _ (et (c := c) (p := (cutAt c r).headD []) ?_ hk)
        cases q : cutAt c r with
        | nil => exact absurd q (gZ c r)
        | cons h t => simp
    . exact mem_cons_of_mem _ (et (List.mem_of_mem_tail hp) hk)
theorem lj {z : Str} (h : ∀ c ∈ cl z, c < 128) : (dr z).map (·.map cl) = scan (cl z) [] [] := by
 rw [<- wj];unfold dr yb;rw [<- fT];have hp : ∀ p ∈ Txt.split z "\n", ∀ c ∈ cl p, c < 128 := fun p hp c hc => by
  have : cl p ∈ cutAt 10 (cl z) := by
   rw [<- fT];exact List.mem_map_of_mem hp
  exact h c (et this hc)
 have e : ((Txt.split z "\n").map cO).map (·.map cl) = ((Txt.split z ⟨#[10]⟩).map cl).map iu := by
  rw [map_map, map_map];apply map_congr_left;intro p hq;exact qP (hp p hq)
 rw [<- e];generalize (Txt.split z "\n").map cO = rs;rw [filter_map];congr 1;apply List.filter_congr;intro r _;simp
end Y
namespace Y
open PySem PyProof.Rows Builtin Builtin.Str StrLaws
def zu (sep : Ih) : List Ih -> List Nat
 | [] => []
 | [x] => x
 | x :: y :: r => x ++ sep ++ zu sep (y :: r)
structure Gk (w : Ih) : Prop where
 ne : w ≠ []
 sg : ∀ c ∈ w, gO (lo1 c) = true
 nl : ∀ c ∈ w, c ≠ 10
def Part (p : Ih) : Prop := p ≠ [] /\ ∀ c ∈ p, gO (lo1 c) = false /\ c ≠ 10
def Quiet (p : Ih) : Prop := ∀ c ∈ p, gO (lo1 c) = false
theorem nC : ∀ (w rest : Ih) (row : List Ih) (cur : Ih), (∀ c ∈ w, gO (lo1 c) = true) -> (∀ c ∈ w, c ≠ 10) -> scan (w ++ rest) row cur = scan rest row (cur ++ w.map lo1)
 | [], rest, row, cur, _, _ => by simp
 | c :: w, rest, row, cur, h1, h2 => by
  have e1 := h1 c (by simp);have e2 := h2 c (by simp);rw [cons_append, scan];rw [if_neg e2, if_pos e1, nC w rest row _ (fun k hk => h1 k (by simp [hk])) (fun k hk => h2 k (by simp [hk]))];simp
theorem kX : ∀ (p rest : Ih) (row : List Ih), (∀ c ∈ p, gO (lo1 c) = false /\ c ≠ 10) -> scan (p ++ rest) row [] = scan rest row []
 | [], rest, row, _ => rfl
 | c :: p, rest, row, h => by
  obtain ⟨e1, e2⟩ := h c (by simp);rw [cons_append, scan, if_neg e2, if_neg (by rw [e1]; simp)];have : e9 [] = [] := rfl;rw [this, append_nil];exact kX p rest row fun k hk => h k (by simp [hk])
theorem vO {p : Ih} (hp : Part p) (rest : Ih) (row : List Ih) (cur : Ih) : scan (p ++ rest) row cur = scan rest (row ++ e9 cur) [] := by
 obtain ⟨h0, h⟩ := hp
 cases p with
 | nil => exact absurd rfl h0
 | cons c p =>
  obtain ⟨e1, e2⟩ := h c (by simp);rw [cons_append, scan, if_neg e2, if_neg (by rw [e1]; simp)];exact kX p rest _ fun k hk => h k (by simp [hk])
theorem i6 : ∀ (p rest : Ih), Quiet p -> scan (p ++ rest) [] [] = scan rest [] []
 | [], rest, _ => rfl
 | c :: p, rest, h => by
  have e1 := h c (by simp);have ih := i6 p rest fun k hk => h k (by simp [hk]);rw [cons_append, scan];by_cases hc : c = 10
  . rw [if_pos hc, ih]; rfl
  . rw [if_neg hc, if_neg (by rw [e1]; simp)]; exact ih
theorem jm : ∀ (p rest : Ih) (row : List Ih) (cur : Ih), Quiet p -> 10 ∈ p -> scan (p ++ rest) row cur = jw (row ++ e9 cur) ++ scan rest [] []
 | [], rest, row, cur, _, h => by simp at h
 | c :: p, rest, row, cur, h, h10 => by
  have e1 := h c (by simp);rw [cons_append, scan];by_cases hc : c = 10
  . rw [if_pos hc, i6 p rest fun k hk => h k (by simp [hk])]
  . rw [if_neg hc, if_neg (by rw [e1]; simp)];have h2 : 10 ∈ p := by
     rcases mem_cons.mp h10 with z | z
     . exact absurd z.symm hc
     . exact z
    rw [jm p rest _ _ (fun k hk => h k (by simp [hk])) h2];simp [e9]
theorem kJ : ∀ (p : Ih) (row : List Ih) (cur : Ih), Quiet p -> scan p row cur = jw (row ++ e9 cur)
 | [], row, cur, _ => rfl
 | c :: p, row, cur, h => by
  have e1 := h c (by simp);rw [scan];by_cases hc : c = 10
  . rw [if_pos hc];have := kJ p [] [] fun k hk => h k (by simp [hk]);rw [this]; simp [e9, jw]
  . rw [if_neg hc, if_neg (by rw [e1]; simp), kJ p _ _ fun k hk => h k (by simp [hk])];simp [e9]
theorem u4 {w : Ih} (h : w ≠ []) : e9 w = [w] := by simp [e9, h]
def Bg (z : Str) : Prop := z ≠ "" /\ ∀ c ∈ cl z, gO c = true
theorem Bg.w {z : Str} (h : Bg z) : Gk (cl z) := ⟨fun e => h.1 (fR.mp e), fun c hc => by rw [DY (h.2 c hc)]; exact h.2 c hc, fun c hc => (jH c (gD (h.2 c hc))).2.2.2.1⟩
theorem sN : ∀ c ∈ cl lM, lo1 (up1 c) = c /\ up1 c ≠ 10 /\ up1 c < 128 := by decide +kernel
theorem Bg.up {z : Str} (h : Bg z) : Gk ((cl z).map up1) /\ ((cl z).map up1).map lo1 = cl z := by
 refine ⟨⟨fun e => h.1 (fR.mp (by simpa using e)), fun c hc => ?_, fun c hc => ?_⟩, ?_⟩
 . obtain ⟨k, hk, rfl⟩ := mem_map.mp hc;rw [(sN k (gD (h.2 k hk))).1]; exact h.2 k hk
 . obtain ⟨k, hk, rfl⟩ := mem_map.mp hc;exact (sN k (gD (h.2 k hk))).2.1
 . rw [map_map]
   conv => rhs; rw [<- List.map_id (cl z)]
   exact map_congr_left fun c hc => (sN c (gD (h.2 c hc))).1
def xK (rows : HQ) : Prop := ∀ r ∈ rows, r ≠ [] /\ ∀ x ∈ r, Bg x
theorem jN {z : Str} (h : Bg z) : ∀ c ∈ cl z, c < 128 := fun c hc => (jH c (gD (h.2 c hc))).2.2.1
end Y
namespace Y
open PySem PyProof.Rows Builtin Builtin.Str StrLaws
def FW (w : Ih) : Prop := w ≠ [] /\ ∀ c ∈ w, gO c = true
def Fb (r : List Ih) : Prop := r ≠ [] /\ ∀ w ∈ r, FW w
theorem iX {row : List Ih} {cur : Ih} (h1 : ∀ w ∈ row, FW w) (h2 : ∀ c ∈ cur, gO c = true) : ∀ w ∈ row ++ e9 cur, FW w := by
 intro w hw;rcases mem_append.mp hw with h | h
 . exact h1 w h
 . unfold e9 at h;split at h
   . simp at h
   . rename_i hn;simp at h;subst h;exact ⟨hn, h2⟩
theorem mE {row : List Ih} (h : ∀ w ∈ row, FW w) : ∀ r ∈ jw row, Fb r := by
 intro r hr;unfold jw at hr;split at hr
 . simp at hr
 . rename_i hn;simp at hr;subst hr;exact ⟨hn, h⟩
theorem fZ : ∀ (l : Ih) (row : List Ih) (cur : Ih), (∀ w ∈ row, FW w) -> (∀ c ∈ cur, gO c = true) -> ∀ r ∈ scan l row cur, Fb r
 | [], row, cur, h1, h2 => mE (iX h1 h2)
 | c :: l, row, cur, h1, h2 => by
  intro r hr;rw [scan] at hr;split at hr
  . rcases mem_append.mp hr with h | h
    . exact mE (iX h1 h2) r h
    . exact fZ l [] [] (by simp) (by simp) r h
  . split at hr
    . rename_i hs;refine fZ l row _ h1 (fun k hk => ?_) r hr;rcases mem_append.mp hk with h | h
      . exact h2 k h
      . simp at h; subst h; exact hs
    . exact fZ l _ [] (iX h1 h2) (by simp) r hr
theorem qN {z : Str} (h : ∀ c ∈ cl z, c < 128) : xK (dr z) := by
 intro r hr;have hm : r.map cl ∈ scan (cl z) [] [] := by
  rw [<- lj h];exact List.mem_map_of_mem hr
 obtain ⟨h1, h2⟩ := fZ _ _ _ (by simp) (by simp) _ hm;refine ⟨fun e => h1 (by rw [e]; rfl), fun x hx => ?_⟩;obtain ⟨h3, h4⟩ := h2 (cl x) (List.mem_map_of_mem hx);exact ⟨fun e => h3 (fR.mpr e), h4⟩
end Y
namespace Y
open PySem PySem.Spec PyProof.Rows L2
variable [b0]
def cellAt (ns : List Int) (k : Nat) : Int := ns.getD k 0
def vh (ds : List D) (d : D) : Prop := ∃ (ns : List Int) (k : Nat), ns.length <= 1000 /\ ds = [.lst (ns.map D.int), .int k] /\ d = .int (cellAt ns k)
def part (c k m : Int) : Int := (c % 99991 + 17) * (48271 + 7919 * k) % 65537 * (k + 3) % 8191 % m
theorem gf (c k : Int) {m : Int} (h : 0 < m) : 0 <= part c k m := Int.emod_nonneg _ (by omega)
theorem g4 (c k : Int) {m : Int} (h : 0 < m) : part c k m < m := Int.emod_lt_of_pos _ h
def z8 (ds : List D) (d : D) : Prop := ∃ c k m : Int, 0 < m /\ ds = [.int c, .int k, .int m] /\ d = .int (part c k m)
def ki (n : Int) : Nat := lM.cps.toList.getD (n % 36).toNat 0
theorem AF (n : Int) : gS lM.cps.toList (n % 36) = some (ki n) := by
 have h0 := Int.emod_nonneg n (show (36 : Int) ≠ 0 by decide);have h1 := Int.emod_lt_of_pos n (show (0 : Int) < 36 by decide);have hl : lM.cps.toList.length = 36 := by decide +kernel
 obtain ⟨k, hk⟩ := Int.eq_ofNat_of_zero_le h0;unfold ki;rw [hk];refine aX ?_;have : k < lM.cps.toList.length := by omega
 simp at this;simp [this]
def cP (one : Int) : Int := 1 + part one 0 12
def EV (one other : Int) : Int := part other 1 (cP one)
def tV (one other k : Int) (j : Int) : Int := if j = EV one other /\ part other 20 2 = 0 then part one (j + 2) 36 + k else part one (j + 2) 36
def cQ (one other k : Int) (n : Nat) : Str := ⟨((List.range n).map fun j => ki (tV one other k (0 + (j : Nat)))).toArray⟩
def fx (one other k : Int) : Str := Txt.slice (cQ one other k 12) none (some (if part other 20 2 = 0 then cP one else 1 + (cP one + k) % 12))
def eh (one other : Int) : List Str := (List.range 4).map fun k => fx one other (0 + (k : Nat))
theorem gg (one other k : Int) (n : Nat) : (cQ one other k n).length = n := by show Array.size _ = n; simp [cQ]
theorem ue (one other k : Int) (n : Nat) : cQ one other k (n + 1) = cQ one other k n ++ ⟨#[ki (tV one other k (0 + (n : Nat)))]⟩ := by
 apply Str.ext';rw [Str.cps_append];unfold cQ;rw [range_succ, map_append];simp
theorem vI (one other k : Int) : (fx one other k).length <= 12 := by
 have h := Txt.slice_le (cQ one other k 12) none (some (if part other 20 2 = 0 then cP one else 1 + (cP one + k) % 12));rw [gg] at h;exact h
theorem sQ (one other : Int) : (eh one other).length = 4 := by simp [eh]
theorem sP {one other : Int} {x : Str} (h : x ∈ eh one other) : x.length <= 12 := by
 unfold eh at h;obtain ⟨k, _, rfl⟩ := mem_map.mp h;exact vI _ _ _
def ae (ws : Ie) : D := .lst (ws.map D.str)
def vt (ns : List Int) : D := .lst (ns.map D.int)
def aQ (rows : HQ) : D := .lst (rows.map ae)
def ve (ds : List D) (d : D) : Prop := ∃ one other : Int, ds = [.int one, .int other] /\ d = ae (eh one other)
theorem dz {ws : Ie} {n : Nat} (h : n < ws.length) : (ws.map D.str)[n]? = some (.str (ws.getD n "")) := by simp [h]
def bK (p : Ij) : D := .tup [.int p.1, .int p.2]
def cT (ps : HS) : D := .lst (ps.map bK)
def h9 (rows : HQ) : Nat := (rows.map List.length).sum
def cz (rows : HQ) (n : Nat) : List Ij := (List.range n).flatMap fun r => (List.range (rows.getD r []).length).map fun a => (r, a)
def bx (rows : HQ) : List Ij := cz rows rows.length
theorem eR (rows : HQ) (n : Nat) : cz rows (n + 1) = cz rows n ++ (List.range (rows.getD n []).length).map fun a => (n, a) := by
 unfold cz;rw [range_succ, List.flatMap_append];simp
theorem iM (rows : HQ) : ∀ n, n <= rows.length -> (cz rows n).length = ((rows.take n).map List.length).sum
 | 0, _ => by simp [cz]
 | n + 1, h => by
  have hn : n < rows.length := by omega
  have e : rows.take (n + 1) = rows.take n ++ [rows.getD n []] := by
   rw [take_add_one]; simp [hn]
  rw [eR, List.length_append, iM rows n (by omega), length_map, length_range, e, map_append, List.sum_append];simp
theorem jb : ∀ (l : HQ) (n : Nat), ((l.take n).map List.length).sum <= (l.map List.length).sum
 | [], n => by simp
 | a :: l, 0 => by simp
 | a :: l, n + 1 => by
  have := jb l n;simp at this ⊢;omega
theorem xx (rows : HQ) (n : Nat) (h : n <= rows.length) : (cz rows n).length <= h9 rows := by
 rw [iM rows n h]; exact jb rows n
theorem gc {rows : HQ} {n : Nat} {row : Ie} (h : rows[n]? = some row) (m : Nat) (hm : m <= row.length) : (cz rows n).length + m <= h9 rows := by
 have hn : n < rows.length := (List.getElem?_eq_some_iff.mp h).1;have h1 := xx rows (n + 1) (by omega);rw [eR, List.length_append] at h1;simp [h] at h1;omega
def E9 (ds : List D) (d : D) : Prop := ∃ rows, h9 rows <= 900 /\ ds = [aQ rows] /\ d = cT (bx rows)
def endAt (rows : HQ) (p : Ij) : List Str := (rows.getD p.1 []).drop p.2
def wG (ds : List D) (d : D) : Prop := ∃ (rows : HQ) (p : Ij), p.1 < rows.length /\ ds = [aQ rows, bK p] /\ d = ae (endAt rows p)
theorem d4 {n i : Nat} {d : D} (h : (bE 0 n)[i]? = some d) : i < n /\ d = .int (i : Nat) := by
 obtain ⟨h1, h2⟩ := eC h;exact ⟨h1, by rw [h2, Int.zero_add]⟩
theorem eG {lo : Int} {n : Nat} : ∀ d ∈ bE lo n, d.flat = true := fun d hd => by obtain ⟨i, _, rfl⟩ := mem_map.mp hd; rfl
theorem wA {ns : List Int} : ∀ d ∈ ns.map D.int, d.flat = true := fun d hd => by obtain ⟨i, _, rfl⟩ := mem_map.mp hd; rfl
theorem wC {ns : Ie} : ∀ d ∈ ns.map D.str, d.flat = true := fun d hd => by obtain ⟨i, _, rfl⟩ := mem_map.mp hd; rfl
def tupS (ws : Ie) : D := .tup (ws.map D.str)
theorem mM (ws : Ie) : (tupS ws).flat = true := by
 show aV (ws.map D.str) = true;exact cq ws
theorem mZ (ps : HS) : aV (ps.map bK) = true := fP fun d hd => by obtain ⟨i, _, rfl⟩ := mem_map.mp hd; rfl
theorem iN : Told ae := vZ qQ
theorem wa : Told tupS := w6 qQ
theorem yA : Told bK := fun p q => by
 obtain ⟨a, b⟩ := p;obtain ⟨c, d⟩ := q;simp only [bK, aJ, cI, Bool.and_true];by_cases h1 : a = c
 . by_cases h2 : b = d
   . simp [h1, h2]
   . simp [h1, h2]; omega
 . simp [h1]; omega
theorem nT {n : Nat} : ∀ {ds : List D}, (∀ d ∈ ds, d.dep <= n) -> bH ds <= n
 | [], _ => by simp [bH]
 | d :: ds, h => by
  have h1 := h d mem_cons_self;have h2 : bH ds <= n := nT fun e he => h e (mem_cons_of_mem _ he);simp [bH]; omega
theorem vf {n : Nat} {ds : List D} (h : ∀ d ∈ ds, d.dep <= n) : (D.lst ds).dep <= n + 1 := by
 have := nT h;simp [D.dep]; omega
theorem Bv {n : Nat} {ds : List D} (h : ∀ d ∈ ds, d.dep <= n) : (D.tup ds).dep <= n + 1 := by
 have := nT h;simp [D.dep]; omega
theorem kE (ws : Ie) : (ae ws).dep <= 1 := vf fun d hd => by obtain ⟨i, _, rfl⟩ := mem_map.mp hd; simp [D.dep]
theorem qY (ws : Ie) : (tupS ws).dep <= 1 := Bv fun d hd => by obtain ⟨i, _, rfl⟩ := mem_map.mp hd; simp [D.dep]
theorem uz (p : Ij) : (bK p).dep <= 1 := by simp [bK, D.dep, bH]
theorem A3 (ps : HS) : (cT ps).dep <= 2 := vf fun d hd => by obtain ⟨i, _, rfl⟩ := mem_map.mp hd; exact uz i
theorem kj {k n : Nat} {A : Around} {d : D} (r : bt k A) (h : d.dep <= n) (hn : n <= 200 := by decide) : A.units + d.dep < cLine := by have := r.un; omega
theorem cb {rows : HQ} {p : Ij} (h : p ∈ bx rows) : p.1 < rows.length /\ p.2 < (rows.getD p.1 []).length := by
 unfold bx cz at h;obtain ⟨r, hr, hp⟩ := List.mem_flatMap.mp h;obtain ⟨a, ha, rfl⟩ := mem_map.mp hp;exact ⟨List.mem_range.mp hr, List.mem_range.mp ha⟩
theorem pM {α : Type} {xs ys : List α} {n : Nat} (h : xs.take n = ys.take n) (h2 : xs[n]? = ys[n]?) : xs.take (n + 1) = ys.take (n + 1) := by
 rw [take_add_one, take_add_one, h, h2]
def eQ (z : Str) : Prop := ∀ c ∈ cl z, c < 128
theorem FR (c : Nat) : (!(Builtin.Str.occurrences lM ⟨#[c]⟩ 0 lM.length 1).isEmpty) = gO c := StrLaws.found_one lM c
def qJ (ds : List D) (d : D) : Prop := ∃ z : Str, z.length <= 2000 /\ eQ z /\ ds = [.str z] /\ d = ae (cO z)
def u3 (ds : List D) (d : D) : Prop := ∃ z : Str, z.length <= 2000 /\ eQ z /\ ds = [.str z] /\ d = aQ (dr z)
theorem ni (c : Nat) : ∀ l : List Nat, (cutAt c l).length <= l.length + 1
 | [] => by simp [cutAt]
 | k :: r => by
  have ih := ni c r;unfold cutAt;split
  . simp; omega
  . have := gZ c r
    cases q : cutAt c r with
    | nil => exact absurd q this
    | cons h t => rw [q] at ih; simp at ih ⊢; omega
theorem cA (c : Nat) : ∀ (l : Ih) (p : Ih), p ∈ cutAt c l -> p.length <= l.length
 | [], p, hp => by simp [cutAt] at hp; subst hp; simp
 | k :: r, p, hp => by
  unfold cutAt at hp;split at hp
  . rcases mem_cons.mp hp with rfl | hp
    . simp
    . have := cA c r p hp; simp; omega
  . rcases mem_cons.mp hp with rfl | hp
    . have : ((cutAt c r).headD []).length <= r.length := by
       cases q : cutAt c r with
       | nil => simp
       | cons h t => exact cA c r _ (by rw [q]; simp)
      rw [length_cons, length_cons]; omega
    . have := cA c r p (List.mem_of_mem_tail hp); simp; omega
theorem zH {z p : Str} (h : p ∈ Txt.split z "\n") : cl p ∈ cutAt 10 (cl z) := by
 rw [<- fT];exact List.mem_map_of_mem (f := cl) h
theorem oM (z : Str) : (Txt.split z "\n").length <= z.length + 1 := by
 have := ni 10 (cl z);rw [<- fT, length_map, bZ] at this;exact this
theorem wQ (z : Str) : (Builtin.Str.spaceWords z (z.length + 1)).length <= z.length + 1 := Nat.le_trans (StrLaws.len_le_wsum _) (StrLaws.sw_weight z).1
theorem xi (z y : Str) : (Builtin.Str.partsBetween z (Builtin.Str.occurrences z y 0 z.length (z.length + 1)) y.length).length <= z.length + 2 := by
 have h := StrLaws.occ_length_le_len z y 0 z.length (z.length + 1);unfold Builtin.Str.partsBetween;simp;omega
theorem xg {z : Str} (h : eQ z) : (Txt.lower z).length = z.length := by
 rw [PyProof.Rows.lower_ascii h];show (z.cps.map _).size = z.cps.size;simp
theorem vw : 5000 <= sizeLine := by decide
theorem fE {n : Nat} (h : n <= 5000) : n <= sizeLine := Nat.le_trans h vw
theorem uG {a b : Nat} (h : a <= b) (hb : b <= 5000) : a <= sizeLine := Nat.le_trans h (Nat.le_trans hb vw)
theorem qZ {α : Type} (f : α -> Nat) : ∀ (l : List α), (∀ c, f c = 1) -> (l.map f).sum = l.length
 | [], _ => rfl
 | a :: l, h => by simp [h a, qZ f l h]; omega
theorem T.Cr {X : Cx} {ρ : List (Option D)} {e : Expr} {b b' : Bool} (h : T X ρ e b) (q : b = b') : T X ρ e b' := q ▸ h
theorem wU (n : Int) : gO (ki n) = true := by
 have h0 := Int.emod_nonneg n (show (36 : Int) ≠ 0 by decide);have h1 := Int.emod_lt_of_pos n (show (0 : Int) < 36 by decide);have hl : (cl lM).length = 36 := by decide +kernel
 unfold ki gO;rw [decide_eq_true_iff];have hk : (n % 36).toNat < (cl lM).length := by omega
 rw [List.getD_eq_getElem?_getD, List.getElem?_eq_getElem hk];exact getElem_mem hk
theorem zh (one other k : Int) (n : Nat) : cl (cQ one other k n) = (List.range n).map fun j => ki (tV one other k (0 + (j : Nat))) := by
 unfold cQ cl;simp
theorem rh (x : Str) {j : Int} (h0 : 0 <= j) (h1 : j <= (cl x).length) : cl (Txt.slice x none (some j)) = (cl x).take j.toNat := by
 have e : Txt.slice x none (some j) = _ := StrLaws.sliceText_to (x := x) (j := j) ⟨h0, h1⟩;rw [e];simp [cl]
theorem v7 (one other k : Int) : Bg (fx one other k) := by
 have hs0 := gf one 0 (show (0 : Int) < 12 by decide);have hs1 := g4 one 0 (show (0 : Int) < 12 by decide);have hm0 := Int.emod_nonneg (cP one + k) (show (12 : Int) ≠ 0 by decide);have hm1 := Int.emod_lt_of_pos (cP one + k) (show (0 : Int) < 12 by decide);have hcl : (cl (cQ one other k 12)).length = 12 := by rw [bZ, gg]
 obtain ⟨j, hj, h1, h2⟩ : ∃ j : Int, fx one other k = Txt.slice (cQ one other k 12) none (some j) /\ 1 <= j /\ j <= 12 := by
  unfold fx;split
  . exact ⟨_, rfl, by unfold cP; omega, by unfold cP; omega⟩
  . exact ⟨_, rfl, by omega, by omega⟩
 have e : cl (fx one other k) = (cl (cQ one other k 12)).take j.toNat := by
  rw [hj, rh _ (by omega) (by rw [hcl]; omega)]
 refine ⟨fun z => ?_, fun c hc => ?_⟩
 . have := congrArg List.length (fR.mpr z);rw [e, length_take, hcl] at this;simp at this;omega
 . rw [e] at hc;have := List.mem_of_mem_take hc;rw [zh] at this;obtain ⟨i, _, rfl⟩ := mem_map.mp this;exact wU _
theorem ud {one other : Int} {x : Str} (h : x ∈ eh one other) : Bg x := by
 unfold eh at h;obtain ⟨k, _, rfl⟩ := mem_map.mp h;exact v7 _ _ _
def ahead (sep : Str) (ps : Ie) : Str := if ps = [] then "" else Txt.join sep ps ++ sep
theorem ly : ∀ {rows : HQ}, (∀ r ∈ rows, 0 < r.length) -> rows.length <= h9 rows
 | [], _ => by simp [h9]
 | r :: l, h => by
  have h1 := ly fun x hx => h x (mem_cons_of_mem _ hx);have h2 := h r (by simp);unfold h9 at h1 ⊢;simp only [map_cons, List.sum_cons, length_cons]; omega
theorem vE {z : Str} (h : eQ z) : (Txt.upper z).length = z.length := by
 rw [PyProof.Rows.upper_ascii h];show (z.cps.map _).size = z.cps.size;simp
theorem Fv {c : Nat} (h : c < 128) : PyProof.Rows.up1 c < 128 := by unfold PyProof.Rows.up1; split <;> omega
theorem ou {z : Str} (h : eQ z) : eQ (Txt.upper z) := by
 intro c hc;rw [PyProof.Rows.upper_ascii h] at hc;have : c ∈ (z.cps.map PyProof.Rows.up1).toList := hc;rw [Array.toList_map] at this;obtain ⟨k, hk, rfl⟩ := mem_map.mp this;exact Fv (h k hk)
theorem i4 {X : Cx} {ρ : List (Option D)} {m1 : Bool} {tg a : Expr} {p pos : Pos} {n : Nat} (h : E X m1 ρ a (.int (n : Nat))) (hm : X.mg "range" = none) (hn : n < 2 ^ 62 := by first | omega | (simp only [length_map]; omega)) (hg : Gl X "range" := by rfl) (hs : starEach [a] X.env = [(false, eval a X.env)] := by rfl) :
 IT X tg true ρ (.Call (.Name "range" p) [a] [] pos) (bE 0 n) := fF (n := ((n : Nat) : Int)) h (by omega) (by omega) hm hg hs
def comm : List Str -> List Str -> Nat
 | a :: as, b :: bs => if a = b then comm as bs + 1 else 0
 | _, _ => 0
theorem dU : ∀ (a b : Ie), comm a b <= a.length /\ comm a b <= b.length
 | [], b => by simp [comm]
 | a :: as, [] => by simp [comm]
 | a :: as, b :: bs => by
  have := dU as bs;unfold comm;split <;> simp <;> omega
theorem du : ∀ (a b : Ie), a.take (comm a b) = b.take (comm a b)
 | [], b => by simp [comm]
 | a :: as, [] => by simp [comm]
 | a :: as, b :: bs => by
  unfold comm;split
  . rename_i h; subst h; simp [du as bs]
  . simp
theorem er : ∀ (a b : Ie) (x y : Str), a[comm a b]? = some x -> b[comm a b]? = some y -> x ≠ y
 | [], b, x, y, h, _ => by simp at h
 | a :: as, [], x, y, _, h => by simp at h
 | a :: as, b :: bs, x, y, h1, h2 => by
  unfold comm at h1 h2;split at h1
  . rename_i h;rw [if_pos h] at h2;simp at h1 h2;exact er as bs x y h1 h2
  . rename_i h;rw [if_neg h] at h2;simp at h1 h2;subst h1 h2;exact h
theorem vn {a b : Ie} {n : Nat} (ha : n <= a.length) (hb : n <= b.length) (ht : a.take n = b.take n) (hs : n = a.length \/ n = b.length \/ ∃ x y, a[n]? = some x /\ b[n]? = some y /\ x ≠ y) : n = comm a b := by
 have hc := dU a b;have hct := du a b;rcases Nat.lt_trichotomy n (comm a b) with h | h | h
 . exfalso;have e : a[n]? = b[n]? := by
    have := congrArg (·[n]?) hct
    rwa [List.getElem?_take_of_lt h, List.getElem?_take_of_lt h] at this
   rcases hs with z | z | ⟨x, y, h1, h2, h3⟩
   . omega
   . omega
   . rw [h1, h2] at e;exact h3 (Option.some.inj e)
 . exact h
 . exfalso;have h1 : comm a b < a.length := by omega
   have h2 : comm a b < b.length := by omega
   have e : a[comm a b]? = b[comm a b]? := by
    have := congrArg (·[comm a b]?) ht
    rwa [List.getElem?_take_of_lt h, List.getElem?_take_of_lt h] at this
   rw [List.getElem?_eq_getElem h1, List.getElem?_eq_getElem h2] at e;exact er a b _ _ (List.getElem?_eq_getElem h1) (List.getElem?_eq_getElem h2) (Option.some.inj e)
def uM (ds : List D) (d : D) : Prop := ∃ a b : List Str, ds = [ae a, ae b] /\ d = .int (comm a b)
def iC (rows : HQ) (ps : HS) : List Str := (ps.getLast?.map (endAt rows)).getD []
def kN (rows : HQ) (ps : HS) : List Nat := (List.range ps.length).map fun i => comm (iC rows (ps.take i)) (endAt rows (ps.getD i (0, 0)))
theorem yR (rows : HQ) (ps : HS) (p : Ij) : kN rows (ps ++ [p]) = kN rows ps ++ [comm (iC rows ps) (endAt rows p)] := by
 unfold kN;rw [List.length_append, List.length_singleton, range_succ, map_append];congr 1
 . apply map_congr_left;intro i hi;have hi' := List.mem_range.mp hi;rw [List.take_append_of_le_length (by omega), List.getD_eq_getElem?_getD, List.getD_eq_getElem?_getD, getElem?_append_left hi']
 . simp
theorem hE (rows : HQ) (ps : HS) : (kN rows ps).length = ps.length := by simp [kN]
theorem kI (rows : HQ) (ps : HS) (p : Ij) : iC rows (ps ++ [p]) = endAt rows p := by simp [iC]
def C1 (ns : Ih) : D := .lst (ns.map fun n => .int (n : Nat))
def BS (rows : HQ) (ps : HS) : Prop := ∀ p ∈ ps, p.1 < rows.length
def uW (ds : List D) (d : D) : Prop := ∃ (rows : HQ) (ps : HS), BS rows ps /\ ps.length <= 900 /\ ds = [aQ rows, cT ps] /\ d = C1 (kN rows ps)
def hX (r : cR) (i : Nat) : Int := match r[i]? with
 | some (some (.pl _ (.int m))) => m
 | _ => 0
theorem By {ps : HS} {n : Nat} (h : n < ps.length) : (ps.map bK)[n]? = some (bK (ps.getD n (0, 0))) := by simp [h]
theorem getD_mem {α : Type} {l : List α} {n : Nat} {d : α} (h : n < l.length) : l.getD n d ∈ l := by
 rw [List.getD_eq_getElem?_getD, List.getElem?_eq_getElem h];exact getElem_mem h
theorem kK {rows : HQ} {ps : HS} {n : Nat} (h0 : 0 < n) (hn : n < ps.length) : iC rows (ps.take n) = endAt rows (ps.getD (n - 1) (0, 0)) := by
 have e : ps.take n = ps.take (n - 1) ++ [ps.getD (n - 1) (0, 0)] := by
  have h1 : n - 1 < ps.length := by omega
  conv => lhs; rw [show n = (n - 1) + 1 by omega]
  rw [take_add_one, List.getD_eq_getElem?_getD, List.getElem?_eq_getElem h1];rfl
 rw [e, kI]
end Y
namespace Y
open PySem PySem.Spec PyProof.Rows L2 PySem.SeqAt AutoSeq1 MeetsSeq MeetsSeq2 MeetsSeq3
def cg (op : CmpOp) (A : Around) (s : Shared) (y x : Value) (b : Bool) : Prop :=
 ∀ (prog : Program) (w : World) (E : HR) (Q : HR), Q (.bool b) s -> wpAny (model prog w) A (richCompare op y x) Q E s
def aF (e r : Nat -> Bool) (z : Bool) : List Nat -> Bool
 | [] => z
 | j :: js => if e j then aF e r z js else r j
theorem EB (l b : Addr) (its its2 : HX) (n n2 : Nat) (dd dd2 : HY) (sl sl2 : HU) (e r : Nat -> Bool) (k : Nat) :
 ∀ i : Nat, min its.size its2.size - i = k -> Meets (Builtin.«list.__eq__.loop» ⟨[.ref l, .ref b, rawInt i, rawInt 0], []⟩)
  (fun A R s => s.heap.get? l = some { cls := .type "list", dict := dd, data := .seq its n, slots := sl } /\ s.heap.get? b = some { cls := .type "list", dict := dd2, data := .seq its2 n2, slots := sl2 } /\
   (∀ j (h1 : j < its.size) (h2 : j < its2.size), EqAt A.in1 s its[j] its2[j] (e j)) /\ (∀ j (h1 : j < its.size) (h2 : j < its2.size), e j = false -> cg .Lt A.in1 s its[j] its2[j] (r j)) /\
   R (.ok (.ret (.bool (aF e r (decide (its.size < its2.size)) ((List.range (min its.size its2.size)).drop i))))) s) := by
 induction k with
 | zero =>
  intro i hk prog w A R s hyp;obtain ⟨hp, g, d, tk, os⟩ := s;obtain ⟨hl, hb, he, ho, fin⟩ := hyp;wp_walk using wpAny_loadPart' hl, wpAny_loadPart' hb;have hd : (List.range (min its.size its2.size)).drop i = [] := by simp; omega
  rw [hd] at fin;by_cases h1 : i < its.size
  . have e1 : its[((i : Nat) : Int).toNat]? = some its[i] := by simp [h1]
    have e2 : its2[((i : Nat) : Int).toNat]? = none := by simp; omega
    rw [e1, e2];wp_walk using wpAny_loadPart' hl, wpAny_loadPart' hb;exact fin
  . have e1 : its[((i : Nat) : Int).toNat]? = none := by simp; omega
    rw [e1];cases e2 : its2[((i : Nat) : Int).toNat]?
    . wp_walk using wpAny_loadPart' hl, wpAny_loadPart' hb;exact fin
    . wp_walk using wpAny_loadPart' hl, wpAny_loadPart' hb;exact fin
 | succ k ih =>
  intro i hk prog w A R s hyp;obtain ⟨hp, g, d, tk, os⟩ := s;obtain ⟨hl, hb, he, ho, fin⟩ := hyp;wp_walk using wpAny_loadPart' hl, wpAny_loadPart' hb;have h1 : i < its.size := by omega
  have h2 : i < its2.size := by omega
  have e1 : its[((i : Nat) : Int).toNat]? = some its[i] := by simp [h1]
  have e2 : its2[((i : Nat) : Int).toNat]? = some its2[i] := by simp [h2]
  have hm : i < min its.size its2.size := by omega
  have hd : (List.range (min its.size its2.size)).drop i = i :: (List.range (min its.size its2.size)).drop (i + 1) := by simp [List.drop_eq_getElem_cons, hm]
  have hc : ((i : Int) + 1) = ((i + 1 : Nat) : Int) := by push_cast; rfl
  rw [hd] at fin;rw [e1, e2];refine wpAny_bind (he i h1 h2 prog w _ _ ?_)
  cases hq : e i with
  | true =>
   have fin' : R (.ok (.ret (.bool (aF e r (decide (its.size < its2.size)) ((List.range (min its.size its2.size)).drop (i + 1)))))) ⟨hp, g, d, tk, os⟩ := by simpa [aF, hq] using fin
   wp_walk;rw [hc];exact ⟨plainId_quiet plain_eq_loop _, codeAny_builtin entry_eq_loop (by
    rw [Around.under_plainId plain_eq_loop _];exact ih (i + 1) (by omega) prog w A R _ ⟨hl, hb, he, ho, fin'⟩)⟩
  | false =>
   have fin' : R (.ok (.ret (.bool (r i)))) ⟨hp, g, d, tk, os⟩ := by simpa [aF, hq] using fin
   wp_walk using wpAny_loadPart' hl, wpAny_loadPart' hb;rw [e1, e2];refine wpAny_bind (ho i h1 h2 hq prog w _ _ ?_);wp_walk;exact fin'
theorem yz (l b : Addr) (its its2 : HX) (n n2 : Nat) (dd dd2 : HY) (sl sl2 : HU) (e r : Nat -> Bool) :
 Meets (Builtin.«list.__lt__» ⟨[.ref l, .ref b], []⟩)
  (fun A R s => s.heap.get? l = some { cls := .type "list", dict := dd, data := .seq its n, slots := sl } /\ s.heap.get? b = some { cls := .type "list", dict := dd2, data := .seq its2 n2, slots := sl2 } /\
   (∀ j (h1 : j < its.size) (h2 : j < its2.size), EqAt A.in1 s its[j] its2[j] (e j)) /\ (∀ j (h1 : j < its.size) (h2 : j < its2.size), e j = false -> cg .Lt A.in1 s its[j] its2[j] (r j)) /\
   R (.ok (.ret (.bool (aF e r (decide (its.size < its2.size)) (List.range (min its.size its2.size)))))) s) := by
 intro prog w A R s hyp;obtain ⟨hp, g, d, tk, os⟩ := s;obtain ⟨hl, hb, he, ho, fin⟩ := hyp;have f3 := AutoSeq1.sub_list_list;wp_walk using wpAny_loadPart' hl, wpAny_loadPart' hb
 all_goals exact ⟨plainId_quiet plain_eq_loop _, codeAny_builtin entry_eq_loop (by
  rw [Around.under_plainId plain_eq_loop _];exact EB l b its its2 n n2 dd dd2 sl sl2 e r _ 0 rfl prog w A R _ ⟨hl, hb, he, ho, by simpa using fin⟩)⟩
theorem zY {A : Around} {s : Shared} {l b : Addr} {its its2 : HX} {e r : Nat -> Bool} (hl : s.heap.IsList l its) (hb : s.heap.IsList b its2) (hu : A.units < cLine)
 (he : ∀ j (h1 : j < its.size) (h2 : j < its2.size), EqAt A.in1 s its[j] its2[j] (e j)) (ho : ∀ j (h1 : j < its.size) (h2 : j < its2.size), e j = false -> cg .Lt A.in1 s its[j] its2[j] (r j)) :
 cg .Lt A s (.ref l) (.ref b) (aF e r (decide (its.size < its2.size)) (List.range (min its.size its2.size))) := fun prog w E Q h => by
 obtain ⟨⟨cls, dd, data, sl⟩, g1, hc, n, hd⟩ := id hl;obtain ⟨⟨cls2, dd2, data2, sl2⟩, g2, hc2, n2, hd2⟩ := id hb;simp only at hc hd hc2 hd2;subst hc hd hc2 hd2;exact richCompare_meets_room (op := .Lt) ⟨_, g1, rfl⟩ ⟨_, g2, rfl⟩ F.slot_list_lt F.entry_list_lt (F.args_list_lt_2 _ _) (yz l b its its2 n n2 dd dd2 sl sl2 e r)
  ⟨g1, g2, he, ho, (fun x => nomatch x), h⟩ hu
theorem BB (l b : Addr) (its its2 : HX) (n n2 : Nat) (dd dd2 : HY) (sl sl2 : HU) (e r : Nat -> Bool) :
 Meets (Builtin.«tuple.__lt__» ⟨[.ref l, .ref b], []⟩)
  (fun A R s => s.heap.get? l = some { cls := .type "tuple", dict := dd, data := .seq its n, slots := sl } /\ s.heap.get? b = some { cls := .type "tuple", dict := dd2, data := .seq its2 n2, slots := sl2 } /\
   (∀ j (h1 : j < its.size) (h2 : j < its2.size), EqAt A.in1 s its[j] its2[j] (e j)) /\ (∀ j (h1 : j < its.size) (h2 : j < its2.size), e j = false -> cg .Lt A.in1 s its[j] its2[j] (r j)) /\
   R (.ok (.ret (.bool (aF e r (decide (its.size < its2.size)) (List.range (min its.size its2.size)))))) s) :=
 .of_wp fun prog w A R s hyp => by
  obtain ⟨hp, g, d, tk, os⟩ := s;obtain ⟨hl, hb, he, ho, fin⟩ := hyp;have f2 := AutoSeq1.sub_tuple_tuple;have hZ : (its.toList.zip its2.toList).length = min its.size its2.size := by simp
  wp_walk using wpAny_loadPart' hl, wpAny_loadPart' hb, wpAny_forIn_list _ (fun rest c s' => c.1 = none /\ s' = ⟨hp, g, d, tk, os⟩ /\ ∃ i, rest = (its.toList.zip its2.toList).drop i /\
   R (.ok (.ret (.bool (aF e r (decide (its.size < its2.size)) ((List.range (min its.size its2.size)).drop i))))) ⟨hp, g, d, tk, os⟩) _
  case turn =>
   rintro ⟨y, x⟩ rest c s' ⟨hc', rfl, i, hz, hR⟩;have hlt : i < (its.toList.zip its2.toList).length := by
    rcases Nat.lt_or_ge i (its.toList.zip its2.toList).length with q | q
    . exact q
    . rw [List.drop_of_length_le q] at hz; cases hz
   have hm : i < min its.size its2.size := by omega
   have h1 : i < its.size := by omega
   have h2 : i < its2.size := by omega
   rw [List.drop_eq_getElem_cons hlt] at hz;injection hz with hyx hrest;have hy : y = its[i] := by have t := congrArg Prod.fst hyx; simpa using t
   have hx : x = its2[i] := by have t := congrArg Prod.snd hyx; simpa using t
   subst hy hx;have hd : (List.range (min its.size its2.size)).drop i = i :: (List.range (min its.size its2.size)).drop (i + 1) := by simp [List.drop_eq_getElem_cons, hm]
   rw [hd] at hR;refine wpAny_bind (he i h1 h2 prog w _ _ ?_)
   cases hq : e i with
   | true =>
    have fin' : R (.ok (.ret (.bool (aF e r (decide (its.size < its2.size)) ((List.range (min its.size its2.size)).drop (i + 1)))))) ⟨hp, g, d, tk, os⟩ := by simpa [aF, hq] using hR
    wp_walk;exact ⟨rfl, rfl, i + 1, hrest, fin'⟩
   | false =>
    have fin' : R (.ok (.ret (.bool (r i)))) ⟨hp, g, d, tk, os⟩ := by simpa [aF, hq] using hR
    rw [if_pos (show (!false) = true from rfl)];refine wpAny_bind (wpAny_rule (wpAny_bind (ho i h1 h2 hq prog w _ _ ?_)));wp_walk;exact ⟨_, rfl, fin'⟩
  case fin =>
   rintro ⟨c1, c2⟩ s' ⟨hc', rfl, i, hz, hR⟩;simp only at hc';subst hc';have hge : min its.size its2.size <= i := by
    rcases Nat.lt_or_ge i (its.toList.zip its2.toList).length with q | q
    . rw [List.drop_eq_getElem_cons q] at hz; cases hz
    . omega
   rw [List.drop_of_length_le (by simpa using hge)] at hR;wp_walk;exact ⟨_, rfl, by simpa [Builtin.Tuple.tupleCompareSizes, aF] using hR⟩
  case h =>
   exact ⟨rfl, rfl, 0, rfl, by simpa using fin⟩
theorem Bj {A : Around} {s : Shared} {l b : Addr} {its its2 : HX} {e r : Nat -> Bool} (hl : s.heap.IsTuple l its) (hb : s.heap.IsTuple b its2) (hu : A.units < cLine)
 (he : ∀ j (h1 : j < its.size) (h2 : j < its2.size), EqAt A.in1 s its[j] its2[j] (e j)) (ho : ∀ j (h1 : j < its.size) (h2 : j < its2.size), e j = false -> cg .Lt A.in1 s its[j] its2[j] (r j)) :
 cg .Lt A s (.ref l) (.ref b) (aF e r (decide (its.size < its2.size)) (List.range (min its.size its2.size))) := fun prog w E Q h => by
 obtain ⟨⟨cls, dd, data, sl⟩, g1, hc, n, hd⟩ := id hl;obtain ⟨⟨cls2, dd2, data2, sl2⟩, g2, hc2, n2, hd2⟩ := id hb;simp only at hc hd hc2 hd2;subst hc hd hc2 hd2;exact richCompare_meets_room (op := .Lt) ⟨_, g1, rfl⟩ ⟨_, g2, rfl⟩ F.slot_tuple_lt F.entry_tuple_lt (F.args_tuple_lt_2 _ _) (BB l b its its2 n n2 dd dd2 sl sl2 e r)
  ⟨g1, g2, he, ho, (fun x => nomatch x), h⟩ hu
theorem B2 (l b : Addr) (its its2 : HX) (n n2 : Nat) (dd dd2 : HY) (sl sl2 : HU) (e r : Nat -> Bool) (k : Nat) :
 ∀ i : Nat, min its.size its2.size - i = k -> Meets (Builtin.«list.__eq__.loop» ⟨[.ref l, .ref b, rawInt i, rawInt 1], []⟩)
  (fun A R s => s.heap.get? l = some { cls := .type "list", dict := dd, data := .seq its n, slots := sl } /\ s.heap.get? b = some { cls := .type "list", dict := dd2, data := .seq its2 n2, slots := sl2 } /\
   (∀ j (h1 : j < its.size) (h2 : j < its2.size), EqAt A.in1 s its[j] its2[j] (e j)) /\ (∀ j (h1 : j < its.size) (h2 : j < its2.size), e j = false -> cg .LtE A.in1 s its[j] its2[j] (r j)) /\
   R (.ok (.ret (.bool (aF e r (decide (its.size <= its2.size)) ((List.range (min its.size its2.size)).drop i))))) s) := by
 induction k with
 | zero =>
  intro i hk prog w A R s hyp;obtain ⟨hp, g, d, tk, os⟩ := s;obtain ⟨hl, hb, he, ho, fin⟩ := hyp;wp_walk using wpAny_loadPart' hl, wpAny_loadPart' hb;have hd : (List.range (min its.size its2.size)).drop i = [] := by simp; omega
  rw [hd] at fin;by_cases h1 : i < its.size
  . have e1 : its[((i : Nat) : Int).toNat]? = some its[i] := by simp [h1]
    have e2 : its2[((i : Nat) : Int).toNat]? = none := by simp; omega
    rw [e1, e2];wp_walk using wpAny_loadPart' hl, wpAny_loadPart' hb;exact fin
  . have e1 : its[((i : Nat) : Int).toNat]? = none := by simp; omega
    rw [e1];cases e2 : its2[((i : Nat) : Int).toNat]?
    . wp_walk using wpAny_loadPart' hl, wpAny_loadPart' hb;exact fin
    . wp_walk using wpAny_loadPart' hl, wpAny_loadPart' hb;exact fin
 | succ k ih =>
  intro i hk prog w A R s hyp;obtain ⟨hp, g, d, tk, os⟩ := s;obtain ⟨hl, hb, he, ho, fin⟩ := hyp;wp_walk using wpAny_loadPart' hl, wpAny_loadPart' hb;have h1 : i < its.size := by omega
  have h2 : i < its2.size := by omega
  have e1 : its[((i : Nat) : Int).toNat]? = some its[i] := by simp [h1]
  have e2 : its2[((i : Nat) : Int).toNat]? = some its2[i] := by simp [h2]
  have hm : i < min its.size its2.size := by omega
  have hd : (List.range (min its.size its2.size)).drop i = i :: (List.range (min its.size its2.size)).drop (i + 1) := by simp [List.drop_eq_getElem_cons, hm]
  have hc : ((i : Int) + 1) = ((i + 1 : Nat) : Int) := by push_cast; rfl
  rw [hd] at fin;rw [e1, e2];refine wpAny_bind (he i h1 h2 prog w _ _ ?_)
  cases hq : e i with
  | true =>
   have fin' : R (.ok (.ret (.bool (aF e r (decide (its.size <= its2.size)) ((List.range (min its.size its2.size)).drop (i + 1)))))) ⟨hp, g, d, tk, os⟩ := by simpa [aF, hq] using fin
   wp_walk;rw [hc];exact ⟨plainId_quiet plain_eq_loop _, codeAny_builtin entry_eq_loop (by
    rw [Around.under_plainId plain_eq_loop _];exact ih (i + 1) (by omega) prog w A R _ ⟨hl, hb, he, ho, fin'⟩)⟩
  | false =>
   have fin' : R (.ok (.ret (.bool (r i)))) ⟨hp, g, d, tk, os⟩ := by simpa [aF, hq] using fin
   wp_walk using wpAny_loadPart' hl, wpAny_loadPart' hb;rw [e1, e2];refine wpAny_bind (ho i h1 h2 hq prog w _ _ ?_);wp_walk;exact fin'
theorem Bw (l b : Addr) (its its2 : HX) (n n2 : Nat) (dd dd2 : HY) (sl sl2 : HU) (e r : Nat -> Bool) :
 Meets (Builtin.«list.__le__» ⟨[.ref l, .ref b], []⟩)
  (fun A R s => s.heap.get? l = some { cls := .type "list", dict := dd, data := .seq its n, slots := sl } /\ s.heap.get? b = some { cls := .type "list", dict := dd2, data := .seq its2 n2, slots := sl2 } /\
   (∀ j (h1 : j < its.size) (h2 : j < its2.size), EqAt A.in1 s its[j] its2[j] (e j)) /\ (∀ j (h1 : j < its.size) (h2 : j < its2.size), e j = false -> cg .LtE A.in1 s its[j] its2[j] (r j)) /\
   R (.ok (.ret (.bool (aF e r (decide (its.size <= its2.size)) (List.range (min its.size its2.size)))))) s) := by
 intro prog w A R s hyp;obtain ⟨hp, g, d, tk, os⟩ := s;obtain ⟨hl, hb, he, ho, fin⟩ := hyp;have f3 := AutoSeq1.sub_list_list;wp_walk using wpAny_loadPart' hl, wpAny_loadPart' hb
 all_goals exact ⟨plainId_quiet plain_eq_loop _, codeAny_builtin entry_eq_loop (by
  rw [Around.under_plainId plain_eq_loop _];exact B2 l b its its2 n n2 dd dd2 sl sl2 e r _ 0 rfl prog w A R _ ⟨hl, hb, he, ho, by simpa using fin⟩)⟩
theorem xk {A : Around} {s : Shared} {l b : Addr} {its its2 : HX} {e r : Nat -> Bool} (hl : s.heap.IsList l its) (hb : s.heap.IsList b its2) (hu : A.units < cLine)
 (he : ∀ j (h1 : j < its.size) (h2 : j < its2.size), EqAt A.in1 s its[j] its2[j] (e j)) (ho : ∀ j (h1 : j < its.size) (h2 : j < its2.size), e j = false -> cg .LtE A.in1 s its[j] its2[j] (r j)) :
 cg .LtE A s (.ref l) (.ref b) (aF e r (decide (its.size <= its2.size)) (List.range (min its.size its2.size))) := fun prog w E Q h => by
 obtain ⟨⟨cls, dd, data, sl⟩, g1, hc, n, hd⟩ := id hl;obtain ⟨⟨cls2, dd2, data2, sl2⟩, g2, hc2, n2, hd2⟩ := id hb;simp only at hc hd hc2 hd2;subst hc hd hc2 hd2;exact richCompare_meets_room (op := .LtE) ⟨_, g1, rfl⟩ ⟨_, g2, rfl⟩ F.slot_list_le F.entry_list_le (F.args_list_le_2 _ _) (Bw l b its its2 n n2 dd dd2 sl sl2 e r)
  ⟨g1, g2, he, ho, (fun x => nomatch x), h⟩ hu
theorem zf (l b : Addr) (its its2 : HX) (n n2 : Nat) (dd dd2 : HY) (sl sl2 : HU) (e r : Nat -> Bool) :
 Meets (Builtin.«tuple.__le__» ⟨[.ref l, .ref b], []⟩)
  (fun A R s => s.heap.get? l = some { cls := .type "tuple", dict := dd, data := .seq its n, slots := sl } /\ s.heap.get? b = some { cls := .type "tuple", dict := dd2, data := .seq its2 n2, slots := sl2 } /\
   (∀ j (h1 : j < its.size) (h2 : j < its2.size), EqAt A.in1 s its[j] its2[j] (e j)) /\ (∀ j (h1 : j < its.size) (h2 : j < its2.size), e j = false -> cg .LtE A.in1 s its[j] its2[j] (r j)) /\
   R (.ok (.ret (.bool (aF e r (decide (its.size <= its2.size)) (List.range (min its.size its2.size)))))) s) :=
 .of_wp fun prog w A R s hyp => by
  obtain ⟨hp, g, d, tk, os⟩ := s;obtain ⟨hl, hb, he, ho, fin⟩ := hyp;have f2 := AutoSeq1.sub_tuple_tuple;have hZ : (its.toList.zip its2.toList).length = min its.size its2.size := by simp
  wp_walk using wpAny_loadPart' hl, wpAny_loadPart' hb, wpAny_forIn_list _ (fun rest c s' => c.1 = none /\ s' = ⟨hp, g, d, tk, os⟩ /\ ∃ i, rest = (its.toList.zip its2.toList).drop i /\
   R (.ok (.ret (.bool (aF e r (decide (its.size <= its2.size)) ((List.range (min its.size its2.size)).drop i))))) ⟨hp, g, d, tk, os⟩) _
  case turn =>
   rintro ⟨y, x⟩ rest c s' ⟨hc', rfl, i, hz, hR⟩;have hlt : i < (its.toList.zip its2.toList).length := by
    rcases Nat.lt_or_ge i (its.toList.zip its2.toList).length with q | q
    . exact q
    . rw [List.drop_of_length_le q] at hz; cases hz
   have hm : i < min its.size its2.size := by omega
   have h1 : i < its.size := by omega
   have h2 : i < its2.size := by omega
   rw [List.drop_eq_getElem_cons hlt] at hz;injection hz with hyx hrest;have hy : y = its[i] := by have t := congrArg Prod.fst hyx; simpa using t
   have hx : x = its2[i] := by have t := congrArg Prod.snd hyx; simpa using t
   subst hy hx;have hd : (List.range (min its.size its2.size)).drop i = i :: (List.range (min its.size its2.size)).drop (i + 1) := by simp [List.drop_eq_getElem_cons, hm]
   rw [hd] at hR;refine wpAny_bind (he i h1 h2 prog w _ _ ?_)
   cases hq : e i with
   | true =>
    have fin' : R (.ok (.ret (.bool (aF e r (decide (its.size <= its2.size)) ((List.range (min its.size its2.size)).drop (i + 1)))))) ⟨hp, g, d, tk, os⟩ := by simpa [aF, hq] using hR
    wp_walk;exact ⟨rfl, rfl, i + 1, hrest, fin'⟩
   | false =>
    have fin' : R (.ok (.ret (.bool (r i)))) ⟨hp, g, d, tk, os⟩ := by simpa [aF, hq] using hR
    rw [if_pos (show (!false) = true from rfl)];refine wpAny_bind (wpAny_rule (wpAny_bind (ho i h1 h2 hq prog w _ _ ?_)));wp_walk;exact ⟨_, rfl, fin'⟩
  case fin =>
   rintro ⟨c1, c2⟩ s' ⟨hc', rfl, i, hz, hR⟩;simp only at hc';subst hc';have hge : min its.size its2.size <= i := by
    rcases Nat.lt_or_ge i (its.toList.zip its2.toList).length with q | q
    . rw [List.drop_eq_getElem_cons q] at hz; cases hz
    . omega
   rw [List.drop_of_length_le (by simpa using hge)] at hR;wp_walk;exact ⟨_, rfl, by simpa [Builtin.Tuple.tupleCompareSizes, aF] using hR⟩
  case h =>
   exact ⟨rfl, rfl, 0, rfl, by simpa using fin⟩
theorem zN {A : Around} {s : Shared} {l b : Addr} {its its2 : HX} {e r : Nat -> Bool} (hl : s.heap.IsTuple l its) (hb : s.heap.IsTuple b its2) (hu : A.units < cLine)
 (he : ∀ j (h1 : j < its.size) (h2 : j < its2.size), EqAt A.in1 s its[j] its2[j] (e j)) (ho : ∀ j (h1 : j < its.size) (h2 : j < its2.size), e j = false -> cg .LtE A.in1 s its[j] its2[j] (r j)) :
 cg .LtE A s (.ref l) (.ref b) (aF e r (decide (its.size <= its2.size)) (List.range (min its.size its2.size))) := fun prog w E Q h => by
 obtain ⟨⟨cls, dd, data, sl⟩, g1, hc, n, hd⟩ := id hl;obtain ⟨⟨cls2, dd2, data2, sl2⟩, g2, hc2, n2, hd2⟩ := id hb;simp only at hc hd hc2 hd2;subst hc hd hc2 hd2;exact richCompare_meets_room (op := .LtE) ⟨_, g1, rfl⟩ ⟨_, g2, rfl⟩ F.slot_tuple_le F.entry_tuple_le (F.args_tuple_le_2 _ _) (zf l b its its2 n n2 dd dd2 sl sl2 e r)
  ⟨g1, g2, he, ho, (fun x => nomatch x), h⟩ hu
theorem Ax (l b : Addr) (its its2 : HX) (n n2 : Nat) (dd dd2 : HY) (sl sl2 : HU) (e r : Nat -> Bool) (k : Nat) :
 ∀ i : Nat, min its.size its2.size - i = k -> Meets (Builtin.«list.__eq__.loop» ⟨[.ref l, .ref b, rawInt i, rawInt 5], []⟩)
  (fun A R s => s.heap.get? l = some { cls := .type "list", dict := dd, data := .seq its n, slots := sl } /\ s.heap.get? b = some { cls := .type "list", dict := dd2, data := .seq its2 n2, slots := sl2 } /\
   (∀ j (h1 : j < its.size) (h2 : j < its2.size), EqAt A.in1 s its[j] its2[j] (e j)) /\ (∀ j (h1 : j < its.size) (h2 : j < its2.size), e j = false -> cg .GtE A.in1 s its[j] its2[j] (r j)) /\
   R (.ok (.ret (.bool (aF e r (decide (its.size ≥ its2.size)) ((List.range (min its.size its2.size)).drop i))))) s) := by
 induction k with
 | zero =>
  intro i hk prog w A R s hyp;obtain ⟨hp, g, d, tk, os⟩ := s;obtain ⟨hl, hb, he, ho, fin⟩ := hyp;wp_walk using wpAny_loadPart' hl, wpAny_loadPart' hb;have hd : (List.range (min its.size its2.size)).drop i = [] := by simp; omega
  rw [hd] at fin;by_cases h1 : i < its.size
  . have e1 : its[((i : Nat) : Int).toNat]? = some its[i] := by simp [h1]
    have e2 : its2[((i : Nat) : Int).toNat]? = none := by simp; omega
    rw [e1, e2];wp_walk using wpAny_loadPart' hl, wpAny_loadPart' hb;exact fin
  . have e1 : its[((i : Nat) : Int).toNat]? = none := by simp; omega
    rw [e1];cases e2 : its2[((i : Nat) : Int).toNat]?
    . wp_walk using wpAny_loadPart' hl, wpAny_loadPart' hb;exact fin
    . wp_walk using wpAny_loadPart' hl, wpAny_loadPart' hb;exact fin
 | succ k ih =>
  intro i hk prog w A R s hyp;obtain ⟨hp, g, d, tk, os⟩ := s;obtain ⟨hl, hb, he, ho, fin⟩ := hyp;wp_walk using wpAny_loadPart' hl, wpAny_loadPart' hb;have h1 : i < its.size := by omega
  have h2 : i < its2.size := by omega
  have e1 : its[((i : Nat) : Int).toNat]? = some its[i] := by simp [h1]
  have e2 : its2[((i : Nat) : Int).toNat]? = some its2[i] := by simp [h2]
  have hm : i < min its.size its2.size := by omega
  have hd : (List.range (min its.size its2.size)).drop i = i :: (List.range (min its.size its2.size)).drop (i + 1) := by simp [List.drop_eq_getElem_cons, hm]
  have hc : ((i : Int) + 1) = ((i + 1 : Nat) : Int) := by push_cast; rfl
  rw [hd] at fin;rw [e1, e2];refine wpAny_bind (he i h1 h2 prog w _ _ ?_)
  cases hq : e i with
  | true =>
   have fin' : R (.ok (.ret (.bool (aF e r (decide (its.size ≥ its2.size)) ((List.range (min its.size its2.size)).drop (i + 1)))))) ⟨hp, g, d, tk, os⟩ := by simpa [aF, hq] using fin
   wp_walk;rw [hc];exact ⟨plainId_quiet plain_eq_loop _, codeAny_builtin entry_eq_loop (by
    rw [Around.under_plainId plain_eq_loop _];exact ih (i + 1) (by omega) prog w A R _ ⟨hl, hb, he, ho, fin'⟩)⟩
  | false =>
   have fin' : R (.ok (.ret (.bool (r i)))) ⟨hp, g, d, tk, os⟩ := by simpa [aF, hq] using fin
   wp_walk using wpAny_loadPart' hl, wpAny_loadPart' hb;rw [e1, e2];refine wpAny_bind (ho i h1 h2 hq prog w _ _ ?_);wp_walk;exact fin'
theorem Bs (l b : Addr) (its its2 : HX) (n n2 : Nat) (dd dd2 : HY) (sl sl2 : HU) (e r : Nat -> Bool) :
 Meets (Builtin.«list.__ge__» ⟨[.ref l, .ref b], []⟩)
  (fun A R s => s.heap.get? l = some { cls := .type "list", dict := dd, data := .seq its n, slots := sl } /\ s.heap.get? b = some { cls := .type "list", dict := dd2, data := .seq its2 n2, slots := sl2 } /\
   (∀ j (h1 : j < its.size) (h2 : j < its2.size), EqAt A.in1 s its[j] its2[j] (e j)) /\ (∀ j (h1 : j < its.size) (h2 : j < its2.size), e j = false -> cg .GtE A.in1 s its[j] its2[j] (r j)) /\
   R (.ok (.ret (.bool (aF e r (decide (its.size ≥ its2.size)) (List.range (min its.size its2.size)))))) s) := by
 intro prog w A R s hyp;obtain ⟨hp, g, d, tk, os⟩ := s;obtain ⟨hl, hb, he, ho, fin⟩ := hyp;have f3 := AutoSeq1.sub_list_list;wp_walk using wpAny_loadPart' hl, wpAny_loadPart' hb
 all_goals exact ⟨plainId_quiet plain_eq_loop _, codeAny_builtin entry_eq_loop (by
  rw [Around.under_plainId plain_eq_loop _];exact Ax l b its its2 n n2 dd dd2 sl sl2 e r _ 0 rfl prog w A R _ ⟨hl, hb, he, ho, by simpa using fin⟩)⟩
theorem wu {A : Around} {s : Shared} {l b : Addr} {its its2 : HX} {e r : Nat -> Bool} (hl : s.heap.IsList l its) (hb : s.heap.IsList b its2) (hu : A.units < cLine)
 (he : ∀ j (h1 : j < its.size) (h2 : j < its2.size), EqAt A.in1 s its[j] its2[j] (e j)) (ho : ∀ j (h1 : j < its.size) (h2 : j < its2.size), e j = false -> cg .GtE A.in1 s its[j] its2[j] (r j)) :
 cg .GtE A s (.ref l) (.ref b) (aF e r (decide (its.size ≥ its2.size)) (List.range (min its.size its2.size))) := fun prog w E Q h => by
 obtain ⟨⟨cls, dd, data, sl⟩, g1, hc, n, hd⟩ := id hl;obtain ⟨⟨cls2, dd2, data2, sl2⟩, g2, hc2, n2, hd2⟩ := id hb;simp only at hc hd hc2 hd2;subst hc hd hc2 hd2;exact richCompare_meets_room (op := .GtE) ⟨_, g1, rfl⟩ ⟨_, g2, rfl⟩ F.slot_list_ge F.entry_list_ge (F.args_list_ge_2 _ _) (Bs l b its its2 n n2 dd dd2 sl sl2 e r)
  ⟨g1, g2, he, ho, (fun x => nomatch x), h⟩ hu
theorem yD (l b : Addr) (its its2 : HX) (n n2 : Nat) (dd dd2 : HY) (sl sl2 : HU) (e r : Nat -> Bool) :
 Meets (Builtin.«tuple.__ge__» ⟨[.ref l, .ref b], []⟩)
  (fun A R s => s.heap.get? l = some { cls := .type "tuple", dict := dd, data := .seq its n, slots := sl } /\ s.heap.get? b = some { cls := .type "tuple", dict := dd2, data := .seq its2 n2, slots := sl2 } /\
   (∀ j (h1 : j < its.size) (h2 : j < its2.size), EqAt A.in1 s its[j] its2[j] (e j)) /\ (∀ j (h1 : j < its.size) (h2 : j < its2.size), e j = false -> cg .GtE A.in1 s its[j] its2[j] (r j)) /\
   R (.ok (.ret (.bool (aF e r (decide (its.size ≥ its2.size)) (List.range (min its.size its2.size)))))) s) :=
 .of_wp fun prog w A R s hyp => by
  obtain ⟨hp, g, d, tk, os⟩ := s;obtain ⟨hl, hb, he, ho, fin⟩ := hyp;have f2 := AutoSeq1.sub_tuple_tuple;have hZ : (its.toList.zip its2.toList).length = min its.size its2.size := by simp
  wp_walk using wpAny_loadPart' hl, wpAny_loadPart' hb, wpAny_forIn_list _ (fun rest c s' => c.1 = none /\ s' = ⟨hp, g, d, tk, os⟩ /\ ∃ i, rest = (its.toList.zip its2.toList).drop i /\
   R (.ok (.ret (.bool (aF e r (decide (its.size ≥ its2.size)) ((List.range (min its.size its2.size)).drop i))))) ⟨hp, g, d, tk, os⟩) _
  case turn =>
   rintro ⟨y, x⟩ rest c s' ⟨hc', rfl, i, hz, hR⟩;have hlt : i < (its.toList.zip its2.toList).length := by
    rcases Nat.lt_or_ge i (its.toList.zip its2.toList).length with q | q
    . exact q
    . rw [List.drop_of_length_le q] at hz; cases hz
   have hm : i < min its.size its2.size := by omega
   have h1 : i < its.size := by omega
   have h2 : i < its2.size := by omega
   rw [List.drop_eq_getElem_cons hlt] at hz;injection hz with hyx hrest;have hy : y = its[i] := by have t := congrArg Prod.fst hyx; simpa using t
   have hx : x = its2[i] := by have t := congrArg Prod.snd hyx; simpa using t
   subst hy hx;have hd : (List.range (min its.size its2.size)).drop i = i :: (List.range (min its.size its2.size)).drop (i + 1) := by simp [List.drop_eq_getElem_cons, hm]
   rw [hd] at hR;refine wpAny_bind (he i h1 h2 prog w _ _ ?_)
   cases hq : e i with
   | true =>
    have fin' : R (.ok (.ret (.bool (aF e r (decide (its.size ≥ its2.size)) ((List.range (min its.size its2.size)).drop (i + 1)))))) ⟨hp, g, d, tk, os⟩ := by simpa [aF, hq] using hR
    wp_walk;exact ⟨rfl, rfl, i + 1, hrest, fin'⟩
   | false =>
    have fin' : R (.ok (.ret (.bool (r i)))) ⟨hp, g, d, tk, os⟩ := by simpa [aF, hq] using hR
    rw [if_pos (show (!false) = true from rfl)];refine wpAny_bind (wpAny_rule (wpAny_bind (ho i h1 h2 hq prog w _ _ ?_)));wp_walk;exact ⟨_, rfl, fin'⟩
  case fin =>
   rintro ⟨c1, c2⟩ s' ⟨hc', rfl, i, hz, hR⟩;simp only at hc';subst hc';have hge : min its.size its2.size <= i := by
    rcases Nat.lt_or_ge i (its.toList.zip its2.toList).length with q | q
    . rw [List.drop_eq_getElem_cons q] at hz; cases hz
    . omega
   rw [List.drop_of_length_le (by simpa using hge)] at hR;wp_walk;exact ⟨_, rfl, by simpa [Builtin.Tuple.tupleCompareSizes, aF] using hR⟩
  case h =>
   exact ⟨rfl, rfl, 0, rfl, by simpa using fin⟩
theorem z7 {A : Around} {s : Shared} {l b : Addr} {its its2 : HX} {e r : Nat -> Bool} (hl : s.heap.IsTuple l its) (hb : s.heap.IsTuple b its2) (hu : A.units < cLine)
 (he : ∀ j (h1 : j < its.size) (h2 : j < its2.size), EqAt A.in1 s its[j] its2[j] (e j)) (ho : ∀ j (h1 : j < its.size) (h2 : j < its2.size), e j = false -> cg .GtE A.in1 s its[j] its2[j] (r j)) :
 cg .GtE A s (.ref l) (.ref b) (aF e r (decide (its.size ≥ its2.size)) (List.range (min its.size its2.size))) := fun prog w E Q h => by
 obtain ⟨⟨cls, dd, data, sl⟩, g1, hc, n, hd⟩ := id hl;obtain ⟨⟨cls2, dd2, data2, sl2⟩, g2, hc2, n2, hd2⟩ := id hb;simp only at hc hd hc2 hd2;subst hc hd hc2 hd2;exact richCompare_meets_room (op := .GtE) ⟨_, g1, rfl⟩ ⟨_, g2, rfl⟩ F.slot_tuple_ge F.entry_tuple_ge (F.args_tuple_ge_2 _ _) (yD l b its its2 n n2 dd dd2 sl sl2 e r)
  ⟨g1, g2, he, ho, (fun x => nomatch x), h⟩ hu
end Y
namespace Y
open PySem PySem.Spec PyProof.Rows L2 PySem.SeqAt
variable [b0]
inductive Od where
 | lt | le | ge
def Od.op : Od -> CmpOp
 | .lt => .Lt
 | .le => .LtE
 | .ge => .GtE
def Od.sz : Od -> Nat -> Nat -> Bool
 | .lt, m, n => decide (m < n)
 | .le, m, n => decide (m <= n)
 | .ge, m, n => decide (m ≥ n)
def Od.int : Od -> Int -> Int -> Bool
 | .lt, m, n => decide (m < n)
 | .le, m, n => decide (m <= n)
 | .ge, m, n => decide (n <= m)
def Od.str : Od -> Str -> Str -> Bool
 | .lt, a, b => decide (cl a < cl b)
 | .le, a, b => !decide (cl b < cl a)
 | .ge, a, b => !decide (cl a < cl b)
mutual
def aP (o : Od) : D -> D -> Bool
 | .int a, .int b => o.int a b
 | .str a, .str b => o.str a b
 | .lst a, .lst b => bC o a b
 | .tup a, .tup b => bC o a b
 | _, _ => false
def bC (o : Od) : List D -> List D -> Bool
 | [], bs => o.sz 0 bs.length
 | a :: as, [] => o.sz (as.length + 1) 0
 | a :: as, b :: bs => if aJ a b then bC o as bs else aP o a b
end
mutual
def bR : D -> D -> Bool
 | .int _, .int _ => true
 | .str _, .str _ => true
 | .lst a, .lst b => dH a b
 | .tup a, .tup b => dH a b
 | _, _ => false
def dH : List D -> List D -> Bool
 | [], _ => true
 | _ :: _, [] => true
 | a :: as, b :: bs => bR a b && dH as bs
end
theorem Od.As (o : Od) (m n : Nat) : o.sz (m + 1) (n + 1) = o.sz m n := by cases o <;> simp [Od.sz]
theorem rZ (e r : Nat -> Bool) (z : Bool) : ∀ l : List Nat, aF e r z (l.map Nat.succ) = aF (fun j => e (j + 1)) (fun j => r (j + 1)) z l
 | [] => rfl
 | j :: l => by
  rw [map_cons, aF, aF, rZ e r z l]
theorem fM (o : Od) : ∀ (ds es : List D), aF (fun j => aJ (ds.getD j .non) (es.getD j .non)) (fun j => aP o (ds.getD j .non) (es.getD j .non)) (o.sz ds.length es.length) (List.range (min ds.length es.length)) = bC o ds es
 | [], es => by simp [aF, bC]
 | a :: as, [] => by simp [aF, bC]
 | a :: as, b :: bs => by
  have ih := fM o as bs;have hm : min (a :: as).length (b :: bs).length = min as.length bs.length + 1 := by simp <;> omega
  rw [hm, List.range_succ_eq_map, aF, rZ, bC];simp only [List.getD_cons_zero, List.getD_cons_succ, length_cons, Od.As];rw [ih]
theorem lB : ∀ (ds es : List D), dH ds es = true -> ∀ j, j < ds.length -> j < es.length -> bR (ds.getD j .non) (es.getD j .non) = true
 | [], es, _, j, h, _ => by simp at h
 | a :: as, [], _, j, _, h => by simp at h
 | a :: as, b :: bs, hc, j, h1, h2 => by
  unfold dH at hc;rw [Bool.and_eq_true] at hc
  cases j with
  | zero => exact hc.1
  | succ j => exact lB as bs hc.2 j (by simpa using h1) (by simpa using h2)
section
variable {X : Cx} {pins : HZ} {σ : St} {H : Hp} {s : Shared} {Z Z' : aA}
theorem Dw (o : Od) {A : Around} (a b : Int) (t u : Tok) : cg o.op A s (.int a t) (.int b u) (o.int a b) := fun prog w E Q h => by
 cases o
 . exact PyProof.Rows.lt_int h
 . exact PyProof.Rows.le_int h
 . exact PyProof.Rows.ge_int h
theorem DB (o : Od) {A : Around} (a b : Str) (t u : Tok) : cg o.op A s (.str a t) (.str b u) (o.str a b) := fun prog w E Q h => by
 cases o
 . exact PyProof.Rows.lt_str h
 . exact PySem.P.le_str h
 . exact PySem.P.ge_str h
theorem Hy (o : Od) {A : Around} {l b : Addr} {its its2 : HX} {e r : Nat -> Bool} (hl : s.heap.IsList l its) (hb : s.heap.IsList b its2) (hu : A.units < cLine)
 (he : ∀ j (h1 : j < its.size) (h2 : j < its2.size), EqAt A.in1 s its[j] its2[j] (e j)) (ho : ∀ j (h1 : j < its.size) (h2 : j < its2.size), e j = false -> cg o.op A.in1 s its[j] its2[j] (r j)) :
 cg o.op A s (.ref l) (.ref b) (aF e r (o.sz its.size its2.size) (List.range (min its.size its2.size))) := by
 cases o
 . exact zY hl hb hu he ho
 . exact xk hl hb hu he ho
 . exact wu hl hb hu he ho
theorem HN (o : Od) {A : Around} {l b : Addr} {its its2 : HX} {e r : Nat -> Bool} (hl : s.heap.IsTuple l its) (hb : s.heap.IsTuple b its2) (hu : A.units < cLine)
 (he : ∀ j (h1 : j < its.size) (h2 : j < its2.size), EqAt A.in1 s its[j] its2[j] (e j)) (ho : ∀ j (h1 : j < its.size) (h2 : j < its2.size), e j = false -> cg o.op A.in1 s its[j] its2[j] (r j)) :
 cg o.op A s (.ref l) (.ref b) (aF e r (o.sz its.size its2.size) (List.range (min its.size its2.size))) := by
 cases o
 . exact Bj hl hb hu he ho
 . exact zN hl hb hu he ho
 . exact z7 hl hb hu he ho
theorem lG (o : Od) (I : Inv X pins σ H s) : ∀ (n : Nat) {A : Around} {d d' : D} {v v' : V} {u u' : Value}, In X.K H Z d v -> In X.K H Z' d' v' -> RelV v u -> RelV v' u' -> bR d d' = true -> d.dep <= n -> A.units + n < cLine -> cg o.op A s u u' (aP o d d') := by
 intro n
 induction n with
 | zero =>
  intro A d d' v v' u u' i i' r r' hc hd hu
  cases d with
  | non => cases d' <;> simp [bR] at hc
  | bl x => cases d' <;> simp [bR] at hc
  | dct x => cases d' <;> simp [bR] at hc
  | ktup x => cases d' <;> simp [bR] at hc
  | lst ds => unfold D.dep at hd; omega
  | tup ds => unfold D.dep at hd; omega
  | int x =>
   cases d' <;> simp [bR] at hc;cases au.mp i;cases au.mp i';obtain ⟨t, rfl⟩ := r;obtain ⟨t', rfl⟩ := r';simp only [aP];exact Dw o _ _ _ _
  | str x =>
   cases d' <;> simp [bR] at hc;cases in_str.mp i;cases in_str.mp i';obtain ⟨t, rfl⟩ := r;obtain ⟨t', rfl⟩ := r';simp only [aP];exact DB o _ _ _ _
 | succ n ih =>
  intro A d d' v v' u u' i i' r r' hc hd hu;have hu0 : A.units < cLine := by omega
  have hu1 : A.in1.units + n < cLine := by show A.units + 1 + n < cLine; omega
  have both : ∀ {ds es : List D} {xs ys : List V} {its its2 : HW}, bH ds <= n -> dH ds es = true -> aH X.K H Z ds xs -> aH X.K H Z' es ys -> Vals xs its -> Vals ys its2 -> ∀ j (h1 : j < its.toArray.size) (h2 : j < its2.toArray.size),
   EqAt A.in1 s its.toArray[j] its2.toArray[j] (aJ (ds.getD j .non) (es.getD j .non)) /\ cg o.op A.in1 s its.toArray[j] its2.toArray[j] (aP o (ds.getD j .non) (es.getD j .non)) := fun {ds es xs ys its its2} hdn hcs jx jy rx ry j h1 h2 => by
   have z1 := jx.length; have z2 := jy.length; have z3 := rx.length; have z4 := ry.length;simp at h1 h2;have k1 : j < ds.length := by omega
   have k2 : j < es.length := by omega
   obtain ⟨x, ex, ix⟩ := jx.get (i := j) (d := ds[j]) (by simp [k1]);obtain ⟨y, ey, iy⟩ := jy.get (i := j) (d := es[j]) (by simp [k2]);obtain ⟨w1, f1, q1⟩ := rx.get ex;obtain ⟨w2, f2, q2⟩ := ry.get ey;have g1 : its.toArray[j] = w1 := by
    have t := (List.getElem?_eq_some_iff.mp f1).2;simpa using t
   have g2 : its2.toArray[j] = w2 := by
    have t := (List.getElem?_eq_some_iff.mp f2).2;simpa using t
   have hcj := lB ds es hcs j k1 k2;have e1 : ds.getD j .non = ds[j] := by simp [k1]
   have e2 : es.getD j .non = es[j] := by simp [k2]
   rw [e1, e2] at hcj ⊢;rw [g1, g2];have hdj := Nat.le_trans (dJ (getElem_mem k1)) hdn;exact ⟨iR I n ix iy q1 q2 hdj hu1, ih ix iy q1 q2 hcj hdj hu1⟩
  cases d with
  | non => cases d' <;> simp [bR] at hc
  | bl x => cases d' <;> simp [bR] at hc
  | dct x => cases d' <;> simp [bR] at hc
  | ktup x => cases d' <;> simp [bR] at hc
  | int x => exact ih i i' r r' hc (by simp [D.dep]) (by omega)
  | str x => exact ih i i' r r' hc (by simp [D.dep]) (by omega)
  | lst ds =>
   have hdn : bH ds <= n := by unfold D.dep at hd; omega
   cases d' with
   | lst es =>
    have hcs : dH ds es = true := by simpa [bR] using hc
    obtain ⟨a, xs, rfl, l, j⟩ := ar.mp i;obtain ⟨a', ys, rfl, l', j'⟩ := ar.mp i';cases r;cases r';obtain ⟨its, rx, pl, _⟩ := I.list l.sq;obtain ⟨its2, ry, pl2, _⟩ := I.list l'.sq;have z1 := j.length; have z2 := j'.length; have z3 := rx.length; have z4 := ry.length;have key := Hy o (e := fun k => aJ (ds.getD k .non) (es.getD k .non)) (r := fun k => aP o (ds.getD k .non) (es.getD k .non)) pl.isList pl2.isList hu0 (fun k h1 h2 => (both hdn hcs j j' rx ry k h1 h2).1) (fun k h1 h2 _ => (both hdn hcs j j' rx ry k h1 h2).2);have e1 : its.toArray.size = ds.length := by simp; omega
    have e2 : its2.toArray.size = es.length := by simp; omega
    rw [e1, e2, fM] at key;simpa only [aP] using key
   | _ => simp [bR] at hc
  | tup ds =>
   have hdn : bH ds <= n := by unfold D.dep at hd; omega
   cases d' with
   | tup es =>
    have hcs : dH ds es = true := by simpa [bR] using hc
    obtain ⟨a, xs, rfl, l, j⟩ := aG i;obtain ⟨a', ys, rfl, l', j'⟩ := aG i';cases r;cases r';obtain ⟨its, rx, pl, _⟩ := I.tuple l;obtain ⟨its2, ry, pl2, _⟩ := I.tuple l';have z1 := j.length; have z2 := j'.length; have z3 := rx.length; have z4 := ry.length;have key := HN o (e := fun k => aJ (ds.getD k .non) (es.getD k .non)) (r := fun k => aP o (ds.getD k .non) (es.getD k .non)) pl pl2 hu0 (fun k h1 h2 => (both hdn hcs j j' rx ry k h1 h2).1) (fun k h1 h2 _ => (both hdn hcs j j' rx ry k h1 h2).2);have e1 : its.toArray.size = ds.length := by simp; omega
    have e2 : its2.toArray.size = es.length := by simp; omega
    rw [e1, e2, fM] at key;simpa only [aP] using key
   | _ => simp [bR] at hc
end
section
variable {X : Cx}
theorem ug (o : Od) : jC X (compareOp o.op) (fun x y H Q => ∃ d d' Z Z', In X.K H Z d x /\ In X.K H Z' d' y /\ bR d d' = true /\ X.A.units + d.dep < cLine /\ Q (.bl (aP o d d')) H) := by
 intro pins s σ H x y v u Q I rx ry h;obtain ⟨d, d', Z, Z', i, i', hc, hu, q⟩ := h;have key := lG o I d.dep i i' rx ry hc (Nat.le_refl _) hu X.prog X.w X.xe (EP X pins σ Q) ⟨.bl (aP o d d'), H, I, rfl, q⟩;cases o <;> exact key
variable {ρ : List (Option D)} {m1 m2 : Bool} {a b : Expr} {d d' : D} {pos : Pos}
theorem FD (ha : E X m1 ρ a d) (hb : E X m2 ρ b d') (hp : bR d d' = true) (hu : X.A.units + d.dep < cLine) : E X true ρ (.Compare a [.Lt] [b] pos) (.bl (aP .lt d d')) :=
 nB (ug .lt) ha hb (fun x y H Z Q _ i1 i2 k => ⟨d, d', Z, Z, i1, i2, hp, hu, k _ _ (aq.refl H) (aS.mpr rfl)⟩) (cy _)
theorem Cu (ha : E X m1 ρ a d) (hb : E X m2 ρ b d') (hp : bR d d' = true) (hu : X.A.units + d.dep < cLine) : T X ρ (.Compare a [.Lt] [b] pos) (aP .lt d d') :=
 iL (ug .lt) ha hb (fun x y H Z Q _ i1 i2 k => ⟨d, d', Z, Z, i1, i2, hp, hu, k _ (aq.refl H)⟩) (cy _)
theorem EW (ha : E X m1 ρ a d) (hb : E X m2 ρ b d') (hp : bR d d' = true) (hu : X.A.units + d.dep < cLine) : E X true ρ (.Compare a [.LtE] [b] pos) (.bl (aP .le d d')) :=
 nB (ug .le) ha hb (fun x y H Z Q _ i1 i2 k => ⟨d, d', Z, Z, i1, i2, hp, hu, k _ _ (aq.refl H) (aS.mpr rfl)⟩) (cy _)
end
end Y
namespace Y
open PySem PySem.Spec PyProof.Rows L2
structure SB (kd : SortKind) (a0 : Array Keyed) (st : SortSt) : Prop where
 pm : (arrOf st).Perm a0
 kd : kindOf st = kd
 ok : failedOf st = none
 pd : pendingOf st = #[]
section
variable {kd : SortKind} {a0 : Array Keyed} {κ : PyProof.Rows.KeyKind} {st : SortSt}
theorem SB.sz (h : SB kd a0 st) : (arrOf st).size = a0.size := h.pm.size_eq
theorem SB.arr (h : SB kd a0 st) {xs : Array Keyed} (p : xs.Perm (arrOf st)) : SB kd a0 (setArr st xs) := ⟨p.trans h.pm, h.kd, h.ok, h.pd⟩
abbrev ky (κ : PyProof.Rows.KeyKind) (st : SortSt) (i : Nat) : κ.α := KK κ (arrOf st) i
abbrev Up (κ : PyProof.Rows.KeyKind) (st : SortSt) (n : Nat) : Prop := SortedToK κ (arrOf st) n
abbrev Down (κ : PyProof.Rows.KeyKind) (st : SortSt) (n : Nat) : Prop := NonIncK κ (arrOf st) n
theorem Bo {xs : Array Keyed} {n : Nat} (h : SortedToK κ xs n) (h1 : n = 0 \/ κ.kle (KK κ xs (n - 1)) (KK κ xs n)) : SortedToK κ xs (n + 1) := fun i j le lt => by
 rcases Nat.lt_or_ge j n with a | a
 . exact h i j le a
 . obtain rfl : j = n := by omega
   rcases Nat.lt_or_ge i j with b | b
   . rcases h1 with z | z
     . omega
     . exact KeyOrd.kle_trans (h i (j - 1) (by omega) (by omega)) z
   . obtain rfl : i = j := by omega
     exact KeyOrd.kle_refl _
theorem fQ {xs : Array Keyed} {n : Nat} (h : NonIncK κ xs n) (h1 : n = 0 \/ κ.kle (KK κ xs n) (KK κ xs (n - 1))) : NonIncK κ xs (n + 1) := fun i j le lt => by
 rcases Nat.lt_or_ge j n with a | a
 . exact h i j le a
 . obtain rfl : j = n := by omega
   rcases Nat.lt_or_ge i j with b | b
   . rcases h1 with z | z
     . omega
     . exact KeyOrd.kle_trans z (h i (j - 1) (by omega) (by omega))
   . obtain rfl : i = j := by omega
     exact KeyOrd.kle_refl _
theorem DC {xs : Array Keyed} : SortedToK κ xs 1 := fun i j le lt => by
 obtain rfl : i = j := by omega
 exact KeyOrd.kle_refl _
theorem eV {xs ys : Array Keyed} {n : Nat} (h : NonIncK κ xs n) (e : ∀ k, KK κ ys k = KK κ xs k) : NonIncK κ ys n := fun i j le lt => by
 rw [e, e]; exact h i j le lt
variable {prog : Program} {w : World} {A : Around} {E : HR} {s : Shared}
def oO (κ : PyProof.Rows.KeyKind) (kd : SortKind) (a0 : Array Keyed) (prog : Program) (w : World) (A : Around) (E : HR) (s : Shared) : Prop :=
 ∀ (st : SortSt) (i j : Nat) (Q : Option Bool -> SortSt -> Prop), SB kd a0 st -> i < a0.size -> j < a0.size -> Q (some (κ.blt (ky κ st i) (ky κ st j))) st -> wpS (model prog w) A E s (ltAt' i j) Q st
theorem xI (hA : oO κ kd a0 prog w A E s) {a n : Nat} {Q : AscSt -> SortSt -> Prop} (hn : n <= a0.size) (ha : 1 <= a) (han : a <= n) (hB : SB kd a0 st) (hs : Up κ st a)
 (fin : ∀ m, a <= m -> m <= n -> Up κ st m -> (m = n \/ κ.klt (ky κ st m) (ky κ st (m - 1))) -> Q (none, m) st) : wpS (model prog w) A E s (ascLoop a n) Q st := by
 unfold ascLoop;refine wpS_forRange (I := fun m c t => (t = st /\ c = (none, m)) /\ Up κ st m) (fun m c t g1 g2 ⟨⟨e1, e2⟩, up⟩ => ?_) (fun c t ⟨⟨e1, e2⟩, up⟩ => ?_) ⟨⟨rfl, rfl⟩, hs⟩
 . subst e1 e2;dsimp only;refine wpS_bind (hA t m (m - 1) _ hB (by omega) (by omega) ?_)
   cases q : κ.blt (ky κ t m) (ky κ t (m - 1)) with
   | true => dsimp only; rw [if_pos rfl]; exact wpS_pure (fin m g1 (by omega) up (.inr q))
   | false => dsimp only; rw [if_neg Bool.false_ne_true]; exact wpS_pure ⟨⟨rfl, rfl⟩, Bo up (.inr q)⟩
 . subst e1 e2;have e : max a n = n := by omega
   rw [e] at up ⊢;exact fin n han (Nat.le_refl n) up (.inl rfl)
theorem sA (hA : oO κ kd a0 prog w A E s) {m n : Nat} {Q : Option Nat -> SortSt -> Prop} (hn : n <= a0.size) (h1 : 1 <= m) (hm : m <= n) (hB : SB kd a0 st) (hs : Down κ st m)
 (fin : ∀ k t, SB kd a0 t -> 1 <= k -> k <= n -> Up κ t k -> Q (some k) t) : wpS (model prog w) A E s (tail3 m n) Q st := by
 unfold tail3;have hz : m <= (arrOf st).size := by rw [hB.sz]; omega
 have hB2 := hB.arr (mirror_perm (arrOf st) 0 m ((m - 0) / 2));have up : Up κ (setArr st (mirror (arrOf st) 0 m ((m - 0) / 2))) m := fun i j le lt => by
  have e : ∀ k, k < m -> KK κ (mirror (arrOf st) 0 m ((m - 0) / 2)) k = KK κ (arrOf st) (0 + m - 1 - k) := fun k hk => by rw [KK_mirror hz, if_pos ⟨Nat.zero_le k, hk⟩]
  show κ.kle (KK κ (mirror (arrOf st) 0 m ((m - 0) / 2)) i) (KK κ (mirror (arrOf st) 0 m ((m - 0) / 2)) j);rw [e i (by omega), e j lt];exact hs _ _ (by omega) (by omega)
 exact wpS_bind (wpS_reverse (wpS_bind (xI hA hn h1 hm hB2 up fun k a b c _ => wpS_pure (fin k _ hB2 (by omega) b c))))
theorem yO (hA : oO κ kd a0 prog w A E s) {m n : Nat} {Q : DescSt -> SortSt -> Prop} (hn : n <= a0.size) (h1 : 1 <= m) (hm : m <= n) (hB : SB kd a0 st) (hs : Down κ st m)
 (fin : ∀ k q t, SB kd a0 t -> m <= k -> k <= n -> Down κ t k -> q + 1 <= k -> (∀ i, k - (q + 1) <= i -> i < k -> ky κ t i = ky κ t (k - 1)) -> Q (none, k, q) t) : wpS (model prog w) A E s (descLoop m n) Q st := by
 unfold descLoop;refine wpS_forRange (I := fun k c t => ∃ q, c = (none, k, q) /\ SB kd a0 t /\ Down κ t k /\ q + 1 <= k /\ ∀ i, k - (q + 1) <= i -> i < k -> ky κ t i = ky κ t (k - 1)) (fun k c t g1 g2 ⟨q, e, hb, dn, hq, same⟩ => ?_) (fun c t ⟨q, e, hb, dn, hq, same⟩ => ?_) ⟨0, rfl, hB, hs, by omega, fun i a b => by rw [show i = m - 1 by omega]⟩
 . subst e;dsimp only;have hz : k <= (arrOf t).size := by rw [hb.sz]; omega
   refine wpS_bind (hA t k (k - 1) _ hb (by omega) (by omega) ?_)
   cases lo : κ.blt (ky κ t k) (ky κ t (k - 1)) with
   | true =>
    dsimp only;rw [if_pos rfl];have dn2 : Down κ t (k + 1) := fQ dn (.inr (KeyOrd.kle_of_klt lo));by_cases q0 : q > 0
    . rw [if_pos q0];exact wpS_bind (wpS_reverse (wpS_pure ⟨0, rfl, hb.arr (mirror_perm _ _ _ _), eV dn2 (KK_mirror_equal hz same), by omega, fun i a b => by rw [show i = k + 1 - 1 by omega]⟩))
    . rw [if_neg q0];exact wpS_pure ⟨0, rfl, hb, dn2, by omega, fun i a b => by rw [show i = k + 1 - 1 by omega]⟩
   | false =>
    dsimp only;rw [if_neg Bool.false_ne_true];refine wpS_bind (hA t (k - 1) k _ hb (by omega) (by omega) ?_)
    cases hi : κ.blt (ky κ t (k - 1)) (ky κ t k) with
    | true => dsimp only; rw [if_pos rfl]; exact wpS_pure (fin k q t hb g1 (by omega) dn hq same)
    | false =>
     dsimp only;rw [if_neg Bool.false_ne_true];have eq : ky κ t k = ky κ t (k - 1) := KeyOrd.kle_antisymm hi lo;refine wpS_pure ⟨q + 1, rfl, hb, fQ dn (.inr (by show κ.kle (ky κ t k) (ky κ t (k - 1)); rw [eq]; exact KeyOrd.kle_refl _)), by omega, fun i a b => ?_⟩;have ek : k + 1 - 1 = k := by omega
     rw [ek];rcases Nat.lt_or_ge i k with z | z
     . rw [same i (by omega) z, eq]
     . rw [show i = k by omega]
 . subst e;have e : max m n = n := by omega
   rw [e] at dn hq same ⊢;exact fin n q t hb hm (Nat.le_refl n) dn hq same
theorem qH (hA : oO κ kd a0 prog w A E s) {m n : Nat} {Q : Option Nat -> SortSt -> Prop} (hn : n <= a0.size) (hm : m + 1 <= n) (hB : SB kd a0 st) (hs : Down κ st (m + 1))
 (fin : ∀ k t, SB kd a0 t -> 1 <= k -> k <= n -> Up κ t k -> Q (some k) t) : wpS (model prog w) A E s (descPart m n) Q st := by
 unfold descPart;refine wpS_bind (wpS_lift (wpAny_rule ⟨rfl, wpS_bind (yO hA hn (by omega) hm hB hs fun k q t hb a b dn hq same => ?_)⟩));dsimp only;have hz : k <= (arrOf t).size := by rw [hb.sz]; omega
 by_cases q0 : q > 0
 . rw [if_pos q0];exact wpS_bind (wpS_reverse (sA hA hn (by omega) b (hb.arr (mirror_perm _ _ _ _)) (eV dn (KK_mirror_equal hz same)) fin))
 . rw [if_neg q0];exact sA hA hn (by omega) b hb dn fin
theorem wm (hA : oO κ kd a0 prog w A E s) {n : Nat} {Q : Option Nat -> SortSt -> Prop} (hn : n <= a0.size) (h1 : 1 <= n) (hB : SB kd a0 st)
 (fin : ∀ k t, SB kd a0 t -> 1 <= k -> k <= n -> Up κ t k -> Q (some k) t) : wpS (model prog w) A E s (countRun' 0 n) Q st := by
 rw [countRun0_eq];refine wpS_bind (xI hA hn (Nat.le_refl 1) h1 hB DC fun m a b up why => ?_);dsimp only;by_cases all : m = n
 . rw [if_pos (by simpa using all)];exact wpS_pure (fin m st hB a b up)
 . rw [if_neg (by simpa using all)];have lo : κ.klt (ky κ st m) (ky κ st (m - 1)) := why.resolve_left all;by_cases m1 : m > 1
   . rw [if_pos m1];refine wpS_bind (hA st 0 (m - 1) _ hB (by omega) (by omega) ?_)
     cases rose : κ.blt (ky κ st 0) (ky κ st (m - 1)) with
     | true => dsimp only; rw [if_pos rfl]; exact wpS_pure (fin m st hB a b up)
     | false =>
      dsimp only;rw [if_neg Bool.false_ne_true];have hz : m <= (arrOf st).size := by rw [hB.sz]; omega
      have same : ∀ i, 0 <= i -> i < m -> KK κ (arrOf st) i = KK κ (arrOf st) (m - 1) := fun i _ im => KeyOrd.kle_antisymm (up i (m - 1) (by omega) (by omega)) (KeyOrd.kle_trans rose (up 0 i (by omega) im));have dn : Down κ st m := fun i j le lt => by rw [same i (by omega) (by omega), same j (by omega) lt]; exact KeyOrd.kle_refl _
      exact wpS_bind (wpS_reverse (qH hA hn (by omega) (hB.arr (mirror_perm _ _ _ _)) (eV (fQ dn (.inr (KeyOrd.kle_of_klt lo))) (KK_mirror_equal hz same)) fin))
   . rw [if_neg m1];obtain rfl : m = 1 := by omega
     exact qH hA hn (by omega) hB (fQ (fun i j le lt => by rw [show i = j by omega]; exact KeyOrd.kle_refl _) (.inr (KeyOrd.kle_of_klt lo))) fin
theorem BJ {xs : Array Keyed} {k l : Nat} (hk : k < xs.size) (hl : l <= k) (up : SortedToK κ xs k) (below : ∀ i, i < l -> κ.kle (KK κ xs i) (KK κ xs k)) (above : ∀ i, l <= i -> i < k -> κ.klt (KK κ xs k) (KK κ xs i)) : SortedToK κ (bubble xs k (k - l)) (k + 1) := by
 have e : ∀ i, KK κ (bubble xs k (k - l)) i = if i = l then KK κ xs k else if l < i /\ i <= k then KK κ xs (i - 1) else KK κ xs i := fun i => by
  rw [KK_bubble hk (by omega), show k - (k - l) = l by omega]
 intro i j le lt;rw [e, e];by_cases ji : j = l
 . rw [if_pos ji];by_cases ii : i = l
   . rw [if_pos ii]; exact KeyOrd.kle_refl _
   . rw [if_neg ii, if_neg (by omega)]; exact below i (by omega)
 . rw [if_neg ji];by_cases jl : l < j /\ j <= k
   . rw [if_pos jl];by_cases ii : i = l
     . rw [if_pos ii]; exact KeyOrd.kle_of_klt (above (j - 1) (by omega) (by omega))
     . rw [if_neg ii];by_cases il : l < i /\ i <= k
       . rw [if_pos il]; exact up _ _ (by omega) (by omega)
       . rw [if_neg il]; exact up _ _ (by omega) (by omega)
   . rw [if_neg jl, if_neg (by omega), if_neg (by omega)]; exact up _ _ le (by omega)
theorem BC (hA : oO κ kd a0 prog w A E s) {n ok : Nat} {Q : Bool -> SortSt -> Prop} (hn : n <= a0.size) (hok : ok <= n) (hB : SB kd a0 st) (up0 : Up κ st ok) (fin : ∀ t, SB kd a0 t -> Up κ t n -> Q true t) : wpS (model prog w) A E s (binarySort' 0 n ok) Q st := by
 rw [binarySort'_eq];simp only [Nat.zero_add];have seek : ∀ (t : SortSt) (k : Nat), SB kd a0 t -> k < a0.size -> Up κ t k -> ∀ (R : Option Bool × Nat × Nat -> SortSt -> Prop), (∀ l r, l <= k -> (∀ i, i < l -> κ.kle (ky κ t i) (ky κ t k)) -> (∀ i, l <= i -> i < k -> κ.klt (ky κ t k) (ky κ t i)) -> R (none, l, r) t) ->
  wpS (model prog w) A E s (forIn [0:k] ((none, 0, k) : Option Bool × Nat × Nat) fun _ c => if c.2.1 ≥ c.2.2 then pure (ForInStep.done (none, c.2.1, c.2.2)) else do
   let x <- ltAt' k ((c.2.1 + c.2.2) / 2)
   match x with
   | some less => if less = true then pure (ForInStep.yield (none, c.2.1, (c.2.1 + c.2.2) / 2)) else pure (ForInStep.yield (none, (c.2.1 + c.2.2) / 2 + 1, c.2.2))
   | _ => pure (ForInStep.done (some false, c.2.1, c.2.2))) R t := by
  intro t k hb hk up R put;refine wpS_forRange (I := fun x c t' => t' = t /\ ∃ l r, c = (none, l, r) /\ (l <= r /\ r <= k /\ r - l <= k - x) /\ (∀ i, i < l -> κ.kle (ky κ t i) (ky κ t k)) /\ ∀ i, r <= i -> i < k -> κ.klt (ky κ t k) (ky κ t i)) ?turn ?over ⟨rfl, 0, k, rfl, ⟨by omega, by omega, by omega⟩, fun i z => by omega, fun i z1 z2 => by omega⟩
  case turn =>
   rintro x c t' q1 q2 ⟨e1, l, r, e2, ⟨b1, b2, b3⟩, below, above⟩;subst e1 e2;dsimp only;by_cases over : l ≥ r
   . rw [if_pos over];obtain rfl : l = r := by omega
     exact wpS_pure (put l l b2 below above)
   . rw [if_neg over];refine wpS_bind (hA t' k ((l + r) / 2) _ hb hk (by omega) ?_)
     cases less : κ.blt (ky κ t' k) (ky κ t' ((l + r) / 2)) with
     | true =>
      dsimp only;rw [if_pos rfl];exact wpS_pure ⟨rfl, l, (l + r) / 2, rfl, ⟨by omega, by omega, by omega⟩, below, fun i z1 z2 => KeyOrd.klt_of_klt_of_kle less (up _ _ z1 z2)⟩
     | false =>
      dsimp only;rw [if_neg Bool.false_ne_true];exact wpS_pure ⟨rfl, (l + r) / 2 + 1, r, rfl, ⟨by omega, by omega, by omega⟩, fun i z => KeyOrd.kle_trans (up i ((l + r) / 2) (by omega) (by omega)) less, above⟩
  case over =>
   rintro c t' ⟨e1, l, r, e2, ⟨b1, b2, b3⟩, below, above⟩;subst e1 e2;obtain rfl : l = r := by omega
   exact put l l b2 below above
 refine wpS_bind (wpS_mono (wpS_forRange (I := fun k c t => c = (none, ()) /\ SB kd a0 t /\ Up κ t (min k n)) (Q := fun c t => c = (none, ()) /\ SB kd a0 t /\ Up κ t n) ?turn ?over ?start) ?last)
 case last =>
  rintro c t ⟨e, hb, up⟩;subst e;exact wpS_pure (fin t hb up)
 case start =>
  refine ⟨rfl, hB, fun i j le lt => ?_⟩;rcases Nat.eq_zero_or_pos ok with z | z
  . rw [show i = j by omega]; exact KeyOrd.kle_refl _
  . exact up0 i j le (by omega)
 case over =>
  rintro c t ⟨e, hb, up⟩;rw [show min (max (max ok 1) n) n = n by omega] at up;exact ⟨e, hb, up⟩
 case turn =>
  rintro k c t g1 g2 ⟨e, hb, up⟩;subst e;rw [show min k n = k by omega] at up;refine wpS_bind (seek t k hb (by omega) up _ fun l r lk below above => ?_);show wpS _ _ _ _ (do moveDown' k l; pure (ForInStep.yield (none, ()))) _ _;rw [moveDown'_eq];refine wpS_bind (wpS_modify (wpS_pure ⟨rfl, hb.arr (bubble_perm _ _ _), ?_⟩));rw [show min (k + 1) n = k + 1 by omega];exact BJ (by rw [hb.sz]; omega) lk up below above
theorem su (hA : oO κ kd a0 prog w A E s) {Q : Unit -> SortSt -> Prop} (h2 : 2 <= a0.size) (h64 : a0.size < 64) (hB : SB kd a0 st)
 (fin : ∀ t, (arrOf t).Perm a0 -> failedOf t = none -> Up κ t a0.size -> Q () t) : wpS (model prog w) A E s sortRuns' Q st := by
 rw [sortRuns'_eq];refine wpS_bind (wpS_get ?_);dsimp only;have hmr : minRun' a0.size a0.size 0 = a0.size := by
  match hq : a0.size, h2 with
  | f + 1, _ => rw [minRun'_succ, if_pos (by omega)]
 simp only [hB.sz, hmr];refine wpS_bind (wpS_mono (wpS_forRange (I := fun x c t => (x = 0 /\ c = (none, 0) /\ SB kd a0 t) \/ (0 < x /\ c = (none, a0.size) /\ (arrOf t).Perm a0 /\ failedOf t = none /\ pendingOf t = #[(0, a0.size, 0)] /\ Up κ t a0.size))
  (Q := fun c t => c = (none, a0.size) /\ (arrOf t).Perm a0 /\ failedOf t = none /\ pendingOf t = #[(0, a0.size, 0)] /\ Up κ t a0.size) ?turn ?over (.inl ⟨rfl, rfl, hB⟩)) ?last)
 case turn =>
  rintro x c t g1 g2 (⟨rfl, rfl, hb⟩ | ⟨x0, rfl, rest⟩)
  . dsimp only;rw [if_neg (by omega)];simp only [Nat.sub_zero, Nat.min_self, Nat.zero_add];have push : ∀ t' : SortSt, SB kd a0 t' -> Up κ t' a0.size -> (arrOf (setPending t' ((pendingOf t').push (0, a0.size, 0)))).Perm a0 /\ failedOf (setPending t' ((pendingOf t').push (0, a0.size, 0))) = none /\ pendingOf (setPending t' ((pendingOf t').push (0, a0.size, 0))) = #[(0, a0.size, 0)] /\ Up κ (setPending t' ((pendingOf t').push (0, a0.size, 0))) a0.size := fun t' b u =>
     ⟨b.pm, b.ok, by show (pendingOf t').push _ = _; rw [b.pd]; rfl, u⟩
    refine wpS_bind (wm hA (Nat.le_refl _) (by omega) hb fun m t2 hb2 m1 m2 sJ => ?_);dsimp only;by_cases few : m < a0.size
    . rw [if_pos few];refine wpS_bind (wpS_lift (wpAny_rule ⟨rfl, wpS_bind (BC hA (Nat.le_refl _) m2 hb2 sJ fun t3 hb3 up3 => ?_)⟩));simp only [Bool.not_true, Bool.false_eq_true, if_false];refine wpS_bind (wpS_get ?_);rw [show (pendingOf t3).back? = none by rw [hb3.pd]; rfl];dsimp only;exact wpS_bind (wpS_modify (wpS_pure (.inr ⟨by omega, rfl, push t3 hb3 up3⟩)))
    . rw [if_neg few];obtain rfl : m = a0.size := by omega
      refine wpS_bind (wpS_get ?_);rw [show (pendingOf t2).back? = none by rw [hb2.pd]; rfl];dsimp only;exact wpS_bind (wpS_modify (wpS_pure (.inr ⟨by omega, rfl, push t2 hb2 sJ⟩)))
  . dsimp only;rw [if_pos (Nat.le_refl _)];exact wpS_pure ⟨rfl, rest⟩
 case over =>
  rintro c t (⟨z, _⟩ | ⟨_, z⟩)
  . omega
  . exact z
 case last =>
  rintro c t ⟨e, p1, p2, p3, p4⟩;subst e;dsimp only;refine wpS_bind (wpS_mono (wpS_forRange (I := fun _ c t' => t' = t /\ c = (none, ())) (Q := fun c t' => t' = t /\ c = (none, ())) ?one (fun _ _ q => q) ⟨rfl, rfl⟩) ?two)
  case one =>
   rintro x c t' _ _ ⟨e1, e2⟩;subst e1 e2;refine wpS_bind (wpS_get ?_);rw [if_pos (by rw [p3]; exact Nat.le_refl 1)];exact wpS_pure ⟨rfl, rfl⟩
  case two =>
   rintro c t' ⟨e1, e2⟩;subst e1 e2;exact wpS_pure (fin _ p1 p2 p4)
end
end Y
namespace Y
open PySem PySem.Spec PyProof.Rows L2 PySem.SeqAt
variable [b0]
structure gk (P : D -> Prop) : Prop where
 ir : ∀ a, P a -> aP .lt a a = false
 tr : ∀ a b c, P a -> P b -> P c -> aP .lt a b = true -> aP .lt b c = true -> aP .lt a c = true
 tt : ∀ a b, P a -> P b -> aP .lt a b = false -> aP .lt b a = false -> a = b
 cm : ∀ a b, P a -> P b -> bR a b = true
 eq : ∀ a b, P a -> P b -> aJ a b = true -> a = b
def sX : (Nat -> D -> Prop) -> List D -> Prop
 | _, [] => True
 | P, d :: ds => P 0 d /\ sX (fun i => P (i + 1)) ds
theorem hV {P : D -> Prop} : ∀ {ds : List D}, (∀ d ∈ ds, P d) -> sX (fun _ => P) ds
 | [], _ => trivial
 | d :: ds, h => ⟨h d (by simp), hV fun x hx => h x (by simp [hx])⟩
theorem nX : ∀ {P : Nat -> D -> Prop}, (∀ i, gk (P i)) -> ∀ ds, sX P ds -> bC .lt ds ds = false
 | P, L, [], _ => by simp [bC, Od.sz]
 | P, L, d :: ds, h => by
  unfold bC;rw [bQ, if_pos rfl];exact nX (fun i => L (i + 1)) ds h.2
theorem pf : ∀ {P : Nat -> D -> Prop}, (∀ i, gk (P i)) -> ∀ ds es, sX P ds -> sX P es -> cI ds es = true -> ds = es
 | P, L, [], [], _, _, _ => rfl
 | P, L, [], e :: es, _, _, h => by simp [cI] at h
 | P, L, d :: ds, [], _, _, h => by simp [cI] at h
 | P, L, d :: ds, e :: es, h1, h2, h => by
  rw [cI, Bool.and_eq_true] at h;rw [(L 0).eq d e h1.1 h2.1 h.1, pf (fun i => L (i + 1)) ds es h1.2 h2.2 h.2]
theorem oF : ∀ {P : Nat -> D -> Prop}, (∀ i, gk (P i)) -> ∀ ds es, sX P ds -> sX P es -> dH ds es = true
 | P, L, [], es, _, _ => by simp [dH]
 | P, L, d :: ds, [], _, _ => by simp [dH]
 | P, L, d :: ds, e :: es, h1, h2 => by
  rw [dH, (L 0).cm d e h1.1 h2.1, oF (fun i => L (i + 1)) ds es h1.2 h2.2]; rfl
theorem nG : ∀ {P : Nat -> D -> Prop}, (∀ i, gk (P i)) -> ∀ ds es, sX P ds -> sX P es -> bC .lt ds es = false -> bC .lt es ds = false -> ds = es
 | P, L, [], [], _, _, _, _ => rfl
 | P, L, [], e :: es, _, _, h, _ => by simp [bC, Od.sz] at h
 | P, L, d :: ds, [], _, _, _, h => by simp [bC, Od.sz] at h
 | P, L, d :: ds, e :: es, h1, h2, ha, hb => by
  unfold bC at ha hb
  cases q : aJ d e with
  | true =>
   obtain rfl := (L 0).eq d e h1.1 h2.1 q;rw [bQ, if_pos rfl] at ha hb;rw [nG (fun i => L (i + 1)) ds es h1.2 h2.2 ha hb]
  | false =>
   have q2 : aJ e d = false := by
    cases z : aJ e d with
    | false => rfl
    | true => obtain rfl := (L 0).eq e d h2.1 h1.1 z; rw [bQ] at q; cases q
   rw [q] at ha; rw [q2] at hb;rw [if_neg Bool.false_ne_true] at ha hb;obtain rfl := (L 0).tt d e h1.1 h2.1 ha hb;rw [bQ] at q; cases q
theorem pJ : ∀ {P : Nat -> D -> Prop}, (∀ i, gk (P i)) -> ∀ ds es fs, sX P ds -> sX P es -> sX P fs -> bC .lt ds es = true -> bC .lt es fs = true -> bC .lt ds fs = true
 | P, L, ds, [], fs, _, _, _, h, _ => by cases ds <;> simp [bC, Od.sz] at h
 | P, L, ds, e :: es, [], _, _, _, _, h => by simp [bC, Od.sz] at h
 | P, L, [], e :: es, f :: fs, _, _, _, _, _ => by simp [bC, Od.sz]
 | P, L, d :: ds, e :: es, f :: fs, h1, h2, h3, ha, hb => by
  unfold bC at ha hb ⊢;have no : ∀ {x y : D}, P 0 x -> P 0 y -> aP .lt x y = true -> aJ x y = false := fun {x y} px py lt => by
   cases z : aJ x y with
   | false => rfl
   | true => obtain rfl := (L 0).eq x y px py z; rw [(L 0).ir x px] at lt; cases lt
  cases q : aJ d e with
  | true =>
   obtain rfl := (L 0).eq d e h1.1 h2.1 q;rw [q, if_pos rfl] at ha
   cases q2 : aJ d f with
   | true =>
    rw [q2, if_pos rfl] at hb;rw [if_pos rfl];exact pJ (fun i => L (i + 1)) ds es fs h1.2 h2.2 h3.2 ha hb
   | false => rw [q2] at hb; exact hb
  | false =>
   rw [q, if_neg Bool.false_ne_true] at ha
   cases q2 : aJ e f with
   | true =>
    obtain rfl := (L 0).eq e f h2.1 h3.1 q2;rw [q, if_neg Bool.false_ne_true];exact ha
   | false =>
    rw [q2, if_neg Bool.false_ne_true] at hb;have lt := (L 0).tr d e f h1.1 h2.1 h3.1 ha hb;rw [no h1.1 h3.1 lt, if_neg Bool.false_ne_true];exact lt
def isInt (d : D) : Prop := ∃ i, d = .int i
def isStr (d : D) : Prop := ∃ x, d = .str x
def CT (P : D -> Prop) (d : D) : Prop := ∃ ds, d = .lst ds /\ sX (fun _ => P) ds
def isTup (P : Nat -> D -> Prop) (d : D) : Prop := ∃ ds, d = .tup ds /\ sX P ds
def Hx (A B : D -> Prop) : Nat -> D -> Prop
 | 0 => A
 | _ + 1 => B
theorem jQ : gk isInt where
 ir := by rintro _ ⟨i, rfl⟩; simp [aP, Od.int]
 tr := by rintro _ _ _ ⟨i, rfl⟩ ⟨j, rfl⟩ ⟨k, rfl⟩ a b; simp [aP, Od.int] at *; omega
 tt := by rintro _ _ ⟨i, rfl⟩ ⟨j, rfl⟩ a b; simp [aP, Od.int] at *; omega
 cm := by rintro _ _ ⟨i, rfl⟩ ⟨j, rfl⟩; rfl
 eq := by rintro _ _ ⟨i, rfl⟩ ⟨j, rfl⟩ a; simpa [aJ] using a
theorem eU : gk isStr where
 ir := by
  rintro _ ⟨i, rfl⟩;have h : ¬ cl i < cl i := List.lt_irrefl _;simp [aP, Od.str, h]
 tr := by
  rintro _ _ _ ⟨i, rfl⟩ ⟨j, rfl⟩ ⟨k, rfl⟩ a b;simp only [aP, Od.str, decide_eq_true_eq] at *;exact List.lt_trans a b
 tt := by
  rintro _ _ ⟨i, rfl⟩ ⟨j, rfl⟩ a b;simp only [aP, Od.str, decide_eq_false_iff_not] at *;rw [xG (List.le_antisymm (List.not_lt.mp b) (List.not_lt.mp a))]
 cm := by rintro _ _ ⟨i, rfl⟩ ⟨j, rfl⟩; rfl
 eq := by rintro _ _ ⟨i, rfl⟩ ⟨j, rfl⟩ a; simpa [aJ] using a
theorem gh {P : D -> Prop} (L : gk P) : gk (CT P) where
 ir := by rintro _ ⟨i, rfl, h⟩; simp only [aP]; exact nX (fun _ => L) _ h
 tr := by rintro _ _ _ ⟨i, rfl, h1⟩ ⟨j, rfl, h2⟩ ⟨k, rfl, h3⟩ a b; simp only [aP] at *; exact pJ (fun _ => L) _ _ _ h1 h2 h3 a b
 tt := by rintro _ _ ⟨i, rfl, h1⟩ ⟨j, rfl, h2⟩ a b; simp only [aP] at *; rw [nG (fun _ => L) _ _ h1 h2 a b]
 cm := by rintro _ _ ⟨i, rfl, h1⟩ ⟨j, rfl, h2⟩; simp only [bR]; exact oF (fun _ => L) _ _ h1 h2
 eq := by rintro _ _ ⟨i, rfl, h1⟩ ⟨j, rfl, h2⟩ a; simp only [aJ] at a; rw [pf (fun _ => L) _ _ h1 h2 a]
theorem gY {P : Nat -> D -> Prop} (L : ∀ i, gk (P i)) : gk (isTup P) where
 ir := by rintro _ ⟨i, rfl, h⟩; simp only [aP]; exact nX L _ h
 tr := by rintro _ _ _ ⟨i, rfl, h1⟩ ⟨j, rfl, h2⟩ ⟨k, rfl, h3⟩ a b; simp only [aP] at *; exact pJ L _ _ _ h1 h2 h3 a b
 tt := by rintro _ _ ⟨i, rfl, h1⟩ ⟨j, rfl, h2⟩ a b; simp only [aP] at *; rw [nG L _ _ h1 h2 a b]
 cm := by rintro _ _ ⟨i, rfl, h1⟩ ⟨j, rfl, h2⟩; simp only [bR]; exact oF L _ _ h1 h2
 eq := by rintro _ _ ⟨i, rfl, h1⟩ ⟨j, rfl, h2⟩ a; simp only [aJ] at a; rw [pf L _ _ h1 h2 a]
theorem uN {A B : D -> Prop} (a : gk A) (b : gk B) : ∀ i, gk (Hx A B i)
 | 0 => a
 | _ + 1 => b
section
variable {X : Cx} {pins : HZ} {σ : St} {H : Hp} {s : Shared} {Z Z' : aA}
theorem DK (I : Inv X pins σ H s) : ∀ (n : Nat) {d d' : D} {v : V}, d.dep <= n -> In X.K H Z d v -> In X.K H Z' d' v -> d = d' := fun _ _ _ _ _ i i' => In.inj I i i'
def Tells (K : Frag) (H : Hp) (Z : aA) (u : Value) (d : D) : Prop := ∃ v, RelV v u /\ In K H Z d v
theorem Tells.one (I : Inv X pins σ H s) {u : Value} {d d' : D} (a : Tells X.K H Z u d) (b : Tells X.K H Z' u d') : d = d' := by
 obtain ⟨v, r, i⟩ := a;obtain ⟨v', r', i'⟩ := b;cases r.inj r';exact DK I d.dep (Nat.le_refl _) i i'
end
def AL (b : Bool) (A : Around) (s : Shared) (x y : Value) (r : Bool) : Prop :=
 ∀ (prog : Program) (w : World) (E : HR) (Q : Bool -> Shared -> Prop), Q r s -> wpAny (model prog w) A (oneLt' b x y) Q E s
def Bp (kd : SortKind) (A : Around) (s : Shared) (x y : Value) (r : Bool) : Prop :=
 ∀ (prog : Program) (w : World) (E : HR) (Q : Bool -> Shared -> Prop), Q r s -> wpAny (model prog w) A (keyLt' kd x y) Q E s
section
variable {X : Cx} {pins : HZ} {σ : St} {H : Hp} {s : Shared} {Z Z' : aA} {A : Around}
theorem oE {x y : Value} {r : Bool} (h : cg .Lt A s x y r) : AL false A s x y r := fun prog w E Q q => by
 rw [oneLt'_eq];simp only [Bool.false_eq_true, if_false];exact wpAny_bind (h prog w E _ (wpAny_truthy_bool q))
theorem wo {l b : Addr} {its its2 : HX} {e r : Nat -> Bool} (hl : s.heap.IsList l its) (hb : s.heap.IsList b its2) (hu : A.units < cLine)
 (he : ∀ j (h1 : j < its.size) (h2 : j < its2.size), EqAt A.in1 s its[j] its2[j] (e j)) (ho : ∀ j (h1 : j < its.size) (h2 : j < its2.size), e j = false -> cg .Lt A.in1 s its[j] its2[j] (r j)) :
 AL true A s (.ref l) (.ref b) (aF e r (decide (its.size < its2.size)) (List.range (min its.size its2.size))) := fun prog w E Q h => by
 obtain ⟨⟨cls, dd, data, sl⟩, g1, hc, n, hd⟩ := id hl;obtain ⟨⟨cls2, dd2, data2, sl2⟩, g2, hc2, n2, hd2⟩ := id hb;simp only at hc hd hc2 hd2;subst hc hd hc2 hd2;rw [oneLt'_eq];simp only [if_true];refine wpAny_bind (wpAny_cRoomFor hu ?_);refine wpAny_bind (wpAny_callSpecialIfBound?_slot (T := "list") ⟨_, g1, rfl⟩ F.slot_list_lt (call_meets F.slot_list_lt ⟨_, g1, rfl⟩ F.entry_list_lt (F.args_list_lt_2 _ _) (yz l b its its2 n n2 dd dd2 sl sl2 e r) ⟨g1, g2, he, ho, ?_⟩));exact wpAny_truthy_bool h
def cV : D -> Bool
 | .int _ => true
 | .str _ => true
 | .lst _ => true
 | _ => false
theorem xC (b : Bool) (I : Inv X pins σ H s) {d d' : D} {u u' : Value} (t : Tells X.K H Z u d) (t' : Tells X.K H Z' u' d') (hc : bR d d' = true) (hp : cV d = true) (hu : A.units + d.dep < cLine) : AL b A s u u' (aP .lt d d') := by
 obtain ⟨v, r, i⟩ := t;obtain ⟨v', r', i'⟩ := t'
 cases b with
 | false => exact oE (lG .lt I d.dep i i' r r' hc (Nat.le_refl _) hu)
 | true =>
  cases d with
  | int x =>
   cases d' <;> simp [bR] at hc;cases au.mp i;cases au.mp i';obtain ⟨t, rfl⟩ := r;obtain ⟨t', rfl⟩ := r';simp only [aP];exact fun prog w E Q q => oneLt_int q
  | str x =>
   cases d' <;> simp [bR] at hc;cases in_str.mp i;cases in_str.mp i';obtain ⟨t, rfl⟩ := r;obtain ⟨t', rfl⟩ := r';simp only [aP];exact fun prog w E Q q => oneLt_str q
  | lst ds =>
   cases d' with
   | lst es =>
    have hcs : dH ds es = true := by simpa [bR] using hc
    have hu' : A.units + (bH ds + 1) < cLine := by unfold D.dep at hu; exact hu
    have hu1 : A.in1.units + bH ds < cLine := by show A.units + 1 + bH ds < cLine; omega
    obtain ⟨a, xs, rfl, l, j⟩ := ar.mp i;obtain ⟨a', ys, rfl, l', j'⟩ := ar.mp i';cases r;cases r';obtain ⟨its, rx, pl, _⟩ := I.list l.sq;obtain ⟨its2, ry, pl2, _⟩ := I.list l'.sq;have z1 := j.length; have z2 := j'.length; have z3 := rx.length; have z4 := ry.length;have both : ∀ k (h1 : k < its.toArray.size) (h2 : k < its2.toArray.size), EqAt A.in1 s its.toArray[k] its2.toArray[k] (aJ (ds.getD k .non) (es.getD k .non)) /\ cg .Lt A.in1 s its.toArray[k] its2.toArray[k] (aP .lt (ds.getD k .non) (es.getD k .non)) := fun k h1 h2 => by
     simp at h1 h2;have k1 : k < ds.length := by omega
     have k2 : k < es.length := by omega
     obtain ⟨x, ex, ix⟩ := j.get (i := k) (d := ds[k]) (by simp [k1]);obtain ⟨y, ey, iy⟩ := j'.get (i := k) (d := es[k]) (by simp [k2]);obtain ⟨w1, f1, q1⟩ := rx.get ex;obtain ⟨w2, f2, q2⟩ := ry.get ey;have g1 : its.toArray[k] = w1 := by
      have t := (List.getElem?_eq_some_iff.mp f1).2;simpa using t
     have g2 : its2.toArray[k] = w2 := by
      have t := (List.getElem?_eq_some_iff.mp f2).2;simpa using t
     have hck := lB ds es hcs k k1 k2;have e1 : ds.getD k .non = ds[k] := by simp [k1]
     have e2 : es.getD k .non = es[k] := by simp [k2]
     rw [e1, e2] at hck ⊢;rw [g1, g2];have hdk := dJ (getElem_mem k1);exact ⟨iR I _ ix iy q1 q2 hdk hu1, lG .lt I _ ix iy q1 q2 hck hdk hu1⟩
    have key := wo (A := A) (e := fun k => aJ (ds.getD k .non) (es.getD k .non)) (r := fun k => aP .lt (ds.getD k .non) (es.getD k .non)) pl.isList pl2.isList (by omega) (fun k h1 h2 => (both k h1 h2).1) (fun k h1 h2 _ => (both k h1 h2).2);have e1 : its.toArray.size = ds.length := by simp; omega
    have e2 : its2.toArray.size = es.length := by simp; omega
    rw [e1, e2] at key;have key2 := fM .lt ds es;simp only [Od.sz] at key2;rw [key2] at key;simpa only [aP] using key
   | _ => simp [bR] at hc
  | _ => simp [cV] at hp
inductive wX (A : Around) (s : Shared) (b : Bool) : Nat -> List Value -> List Value -> List D -> List D -> Prop
 | nil {n : Nat} {us ws : HW} {ds es : List D} (h : us.zip ws = []) (g : us.length = ds.length) (g2 : ws.length = es.length) : wX A s b n us ws ds es
 | cons {n : Nat} {u w : Value} {us ws : HW} {d e : D} {ds es : List D} (h : EqAt A s u w (aJ d e)) (o : aJ d e = false -> AL (b && n == 0) A s u w (aP .lt d e)) (t : wX A s b (n + 1) us ws ds es) : wX A s b n (u :: us) (w :: ws) (d :: ds) (e :: es)
theorem wH {b : Bool} {x y : Addr} {us ws : HW} {ds es : List D} (hx : s.heap.IsTuple x us.toArray) (hy : s.heap.IsTuple y ws.toArray) (c : wX A s b 0 us ws ds es) (l1 : us.length = ds.length) (l2 : ws.length = es.length) : Bp (tuples' b) A s (.ref x) (.ref y) (bC .lt ds es) := by
 intro prog w E Q q;obtain ⟨o, h1, h2, n1, h3⟩ := hx;obtain ⟨o', h1', h2', n1', h3'⟩ := hy;show wpAny _ _ (do
  let xs <- Builtin.List.listItems (.ref x); let ys <- Builtin.List.listItems (.ref y)
  for ((p, q), i) in (xs.toList.zip ys.toList).zipIdx do
   if !(<- eqBool p q) then return <- oneLt' (b && i == 0) p q
  return decide (xs.size < ys.size)) _ _ _
 refine wpAny_bind (listItems_at h1 h3 ?_);refine wpAny_bind (listItems_at h1' h3' ?_);have walk : ∀ {n : Nat} {us' ws' : HW} {ds' es' : List D}, wX A s b n us' ws' ds' es' -> ∀ (R : Option Bool × PUnit -> Shared -> Prop),
  (∀ r, (r = none -> bC .lt ds' es' = decide (us'.length < ws'.length)) -> (∀ v, r = some v -> v = bC .lt ds' es') -> R (r, ⟨⟩) s) ->
  wpAny (model prog w) A (forIn ((us'.zip ws').zipIdx n) ((none, ⟨⟩) : Option Bool × PUnit) fun x c => do
   let r <- eqBool x.1.1 x.1.2
   if (!r) = true then do let z <- oneLt' (b && x.2 == 0) x.1.1 x.1.2; pure (ForInStep.done (some z, ⟨⟩)) else pure (ForInStep.yield (none, ⟨⟩))) R E s := by
  intro n us' ws' ds' es' c
  induction c with
  | nil h g g2 =>
   intro R k;rw [h];refine wpAny_pure (k none (fun z0 => ?_) (fun v e => nomatch e));rename_i us' ws' ds' es'
   cases us' with
   | nil =>
    cases ds' with
    | nil => simp [bC, Od.sz, g2]
    | cons _ _ => simp at g
   | cons _ _ =>
    cases ws' with
    | cons _ _ => simp at h
    | nil =>
     cases es' with
     | cons _ _ => simp at g2
     | nil =>
      cases ds' with
      | nil => simp [bC, Od.sz]
      | cons _ _ => simp [bC, Od.sz]
  | cons h o t ih =>
   intro R k;rename_i n' u w' us2 ws2 d e ds2 es2;simp only [List.zip_cons_cons, List.zipIdx_cons, List.forIn_cons];refine wpAny_bind (wpAny_bind (h prog w E _ ?_))
   cases hq : aJ d e with
   | true =>
    simp only [Bool.not_true, Bool.false_eq_true, if_false];refine wpAny_pure ?_;dsimp only;refine ih R fun r a1 a2 => k r (fun z => ?_) (fun v z => ?_)
    . rw [bC, hq, if_pos rfl, a1 z]; simp
    . rw [bC, hq, if_pos rfl]; exact a2 v z
   | false =>
    simp only [Bool.not_false, if_true];refine wpAny_bind (o hq prog w E _ (wpAny_pure ?_));dsimp only;refine wpAny_pure (k _ (fun z => nomatch z) fun v z => ?_);cases z;rw [bC, hq, if_neg Bool.false_ne_true]
 refine wpAny_bind (walk c _ fun r a1 a2 => ?_)
 cases r with
 | none =>
  dsimp only;refine wpAny_pure ?_;rw [a1 rfl] at q;simpa using q
 | some v =>
  dsimp only;refine wpAny_pure ?_;rw [a2 v rfl]; exact q
end
section
variable {X : Cx} {pins : HZ} {σ : St} {H : Hp} {s : Shared} {Z Z' : aA} {A : Around}
theorem wD (I : Inv X pins σ H s) {b : Bool} : ∀ {ds es : List D} {xs ys : List V} {us ws : HW} (n : Nat), aH X.K H Z ds xs -> aH X.K H Z' es ys -> Vals xs us -> Vals ys ws -> dH ds es = true -> (n = 0 -> b = true -> ∀ d r, ds = d :: r -> cV d = true) -> A.units + bH ds < cLine -> wX A s b n us ws ds es := by
 intro ds
 induction ds with
 | nil =>
  intro es xs ys us ws n j j' r r' _ _ _;have z1 := j.length; have z2 := j'.length; have z3 := r.length; have z4 := r'.length;have u0 : us = [] := List.length_eq_zero_iff.mp (by simp at z1; omega);subst u0;exact .nil rfl rfl (by omega)
 | cons d ds ih =>
  intro es xs ys us ws n j j' r r' hc hp hu
  cases es with
  | nil =>
   have z1 := j.length; have z2 := j'.length; have z3 := r.length; have z4 := r'.length;have u0 : ws = [] := List.length_eq_zero_iff.mp (by simp at z2; omega);subst u0;exact .nil (by simp) (by omega) rfl
  | cons e es =>
   obtain ⟨x, xs', rfl, i, j⟩ := ao.mp j;obtain ⟨y, ys', rfl, i', j'⟩ := ao.mp j'
   cases r with
   | cons q r =>
   cases r' with
   | cons q' r' =>
   rw [dH, Bool.and_eq_true] at hc;have hm : A.units + max d.dep (bH ds) < cLine := by unfold bH at hu; exact hu
   refine .cons (iR I _ i i' q q' (Nat.le_refl _) (by omega)) (fun _ => ?_) (ih (n + 1) j j' r r' hc.2 (fun z => by omega) (by omega))
   cases n with
   | succ n =>
    have e : (b && n + 1 == 0) = false := by cases b <;> simp
    rw [e];exact oE (lG .lt I _ i i' q q' hc.1 (Nat.le_refl _) (by omega))
   | zero =>
    cases b with
    | false => exact oE (lG .lt I _ i i' q q' hc.1 (Nat.le_refl _) (by omega))
    | true => exact xC true I ⟨_, q, i⟩ ⟨_, q', i'⟩ hc.1 (hp rfl rfl d ds rfl) (by omega)
theorem Ei {b : Bool} (I : Inv X pins σ H s) {ds es : List D} {u u' : Value} (t : Tells X.K H Z u (.tup ds)) (t' : Tells X.K H Z' u' (.tup es)) (hc : bR (.tup ds) (.tup es) = true) (hp : b = true -> ∀ d r, ds = d :: r -> cV d = true) (hu : A.units + bH ds < cLine) : Bp (tuples' b) A s u u' (aP .lt (.tup ds) (.tup es)) := by
 obtain ⟨v, r, i⟩ := t;obtain ⟨v', r', i'⟩ := t';obtain ⟨a, xs, rfl, l, j⟩ := aG i;obtain ⟨a', ys, rfl, l', j'⟩ := aG i';cases r;cases r';obtain ⟨its, rx, pl, _⟩ := I.tuple l;obtain ⟨its2, ry, pl2, _⟩ := I.tuple l';have z1 := j.length; have z2 := j'.length; have z3 := rx.length; have z4 := ry.length;simp only [aP];exact wH pl pl2 (wD I 0 j j' rx ry (by simpa [bR] using hc) (fun _ => hp) hu) (by omega) (by omega)
theorem yN (I : Inv X pins σ H s) {d d' : D} {u u' : Value} (t : Tells X.K H Z u d) (t' : Tells X.K H Z' u' d') (hc : bR d d' = true) (hp : cV d = true) (hu : A.units + d.dep < cLine) : Bp oneType' A s u u' (aP .lt d d') := fun prog w E Q q => by
 rw [keyLt'_oneType];exact xC true I t t' hc hp hu prog w E Q q
def GC : D -> String
 | .int _ => "int"
 | .str _ => "str"
 | .lst _ => "list"
 | _ => "tuple"
theorem FU (I : Inv X pins σ H s) {d : D} {u : Value} (t : Tells X.K H Z u d) (hp : cV d = true \/ ∃ ds, d = .tup ds) : s.TypeIs u (GC d) := by
  obtain ⟨v, r, i⟩ := t
  cases d with
  | dct x => rcases hp with h | ⟨_, h⟩
             . exact absurd h (by simp [cV])
             . cases h
  | ktup x => rcases hp with h | ⟨_, h⟩
              . exact absurd h (by simp [cV])
              . cases h
  | int x => cases au.mp i; obtain ⟨t, rfl⟩ := r; exact typeIs_int s x t
  | str x => cases in_str.mp i; obtain ⟨t, rfl⟩ := r; exact typeIs_str s x t
  | lst ds =>
    obtain ⟨a, xs, rfl, l, j⟩ := ar.mp i;cases r;obtain ⟨its, rx, pl, _⟩ := I.list l.sq;obtain ⟨o, h1, h2, n1, h3⟩ := pl.isList;exact ⟨o, h1, h2⟩
  | tup ds =>
    obtain ⟨a, xs, rfl, l, j⟩ := aG i;cases r;obtain ⟨its, rx, pl, _⟩ := I.tuple l;obtain ⟨o, h1, h2, n1, h3⟩ := pl;exact ⟨o, h1, h2⟩
  | non => simp [cV] at hp
  | bl _ => simp [cV] at hp
variable {M : Model} {E : HR}
theorem jM {α β : Type} {f : α -> Sem β} {P : β -> Prop} : ∀ (l : List α) {Q : List β -> Shared -> Prop}, (∀ x ∈ l, ∃ y, P y /\ ∀ Q' : β -> Shared -> Prop, Q' y s -> wpAny M A (f x) Q' E s) -> (∀ ys : List β, ys.length = l.length -> (∀ y ∈ ys, P y) -> Q ys s) -> wpAny M A (l.mapM f) Q E s
 | [], Q, h, k => by rw [List.mapM_nil]; exact wpAny_pure (k [] rfl (by simp))
 | x :: l, Q, h, k => by
  obtain ⟨y, p, w⟩ := h x (by simp);rw [List.mapM_cons];refine wpAny_bind (w _ (wpAny_bind (jM l (fun z hz => h z (by simp [hz])) fun ys e ps => wpAny_pure (k (y :: ys) (by simp [e]) fun z hz => ?_))));rcases mem_cons.mp hz with rfl | hz
  . exact p
  . exact ps z hz
theorem kL {T : String} {vs : HW} {Q : Option Value -> Shared -> Prop} (hT : (Value.type T == Value.type T) = true) (h : ∀ v ∈ vs, s.TypeIs v T) (h0 : vs ≠ []) (q : Q (some (.type T)) s) : wpAny M A (oneTypeOnly' vs.toArray) Q E s := by
 rw [oneTypeOnly'_eq, List.mapM_toArray];refine wpAny_bind ?_;rw [map_eq_pure_bind];refine wpAny_bind (jM (P := fun y => y = Value.type T) vs (fun v hv => ⟨_, rfl, fun Q' z => wpAny_typeOf (h v hv) z⟩) fun ys e ps => wpAny_pure ?_)
 cases ys with
 | nil => exact absurd (List.length_eq_zero_iff.mp e.symm) h0
 | cons y ys =>
  obtain rfl := ps y (by simp);have all : (Value.type T :: ys).toArray.all (fun x => x == Value.type T) = true := by
   simp only [List.all_toArray, List.all_eq_true];intro z hz;rw [ps z hz]; exact hT
  have e0 : (Value.type T :: ys).toArray[0]? = some (Value.type T) := by simp
  rw [e0];dsimp only;rw [all, if_pos rfl];exact wpAny_pure q
theorem xX {T : String} {us : HW} {Q : SortKind -> Shared -> Prop} (hT : (Value.type T == Value.type T) = true) (hn : (Value.type T != Value.type "tuple") = true) (h0 : us ≠ [])
 (h : ∀ u ∈ us, ∃ a x its, u = .ref a /\ s.heap.IsTuple a (x :: its).toArray /\ s.TypeIs x T) (q : Q (tuples' true) s) : wpAny M A (keyKind' us.toArray) Q E s := by
 rw [keyKind'_eq, List.mapM_toArray];refine wpAny_bind ?_;rw [map_eq_pure_bind];refine wpAny_bind (jM (P := fun y => ∃ x, y = some x /\ s.TypeIs x T) us (fun u hu => ?_) fun ys e ps => wpAny_pure ?_)
 . obtain ⟨a, x, its, rfl, ⟨o, h1, h2, n1, h3⟩, tx⟩ := h u hu;refine ⟨some x, ⟨x, rfl, tx⟩, fun Q' z => ?_⟩;show wpAny _ _ (do
    if (<- typeOf (.ref a)) != .type "tuple" then return none
    return (<- Builtin.List.listItems (.ref a))[0]?) _ _ _
   refine wpAny_bind (wpAny_typeOf (T := "tuple") ⟨o, h1, h2⟩ ?_);have e : (Value.type "tuple" != Value.type "tuple") = false := by rfl
   rw [e, if_neg Bool.false_ne_true];refine wpAny_bind (listItems_at h1 h3 (wpAny_pure ?_));simpa using z
 . have all : ys.toArray.all (fun x => x.isSome) = true := by
    simp only [List.all_toArray, List.all_eq_true];intro z hz;obtain ⟨x, rfl, _⟩ := ps z hz; rfl
   rw [all, if_pos rfl];refine wpAny_bind (wpAny_rule ?_);have e2 : ys.toArray.filterMap id = (ys.filterMap id).toArray := by simp
   rw [e2];refine wpAny_bind (kL (T := T) hT (fun v hv => ?_) ?_ ?_)
   . obtain ⟨y, hy, e⟩ := List.mem_filterMap.mp hv;obtain ⟨x, rfl, tx⟩ := ps y hy;cases e;exact tx
   . cases ys with
     | nil => exact absurd (List.length_eq_zero_iff.mp e.symm) h0
     | cons y ys => obtain ⟨x, rfl, _⟩ := ps y (by simp); simp
   . simp only [Option.any_some, hn];exact wpAny_pure q
theorem yQ {T : String} {us : HW} {Q : SortKind -> Shared -> Prop} (hT : (Value.type T == Value.type T) = true) (hn : (Value.type T != Value.type "tuple") = true) (h0 : us ≠ [])
 (h : ∀ u ∈ us, s.TypeIs u T) (q : Q oneType' s) : wpAny M A (keyKind' us.toArray) Q E s := by
 rw [keyKind'_eq, List.mapM_toArray];refine wpAny_bind ?_;rw [map_eq_pure_bind];refine wpAny_bind (jM (P := fun y => y = (none : Option Value)) us (fun u hu => ⟨none, rfl, fun Q' z => ?_⟩) fun ys e ps => wpAny_pure ?_)
 . show wpAny _ _ (do
    if (<- typeOf u) != .type "tuple" then return none
    return (<- Builtin.List.listItems u)[0]?) _ _ _
   refine wpAny_bind (wpAny_typeOf (h u hu) ?_);rw [hn, if_pos rfl];exact wpAny_pure z
 . cases ys with
   | nil => exact absurd (List.length_eq_zero_iff.mp e.symm) h0
   | cons y ys =>
    obtain rfl := ps y (by simp);rw [if_neg (by simp), if_neg (by simp)];refine wpAny_bind (kL hT h h0 ?_);exact wpAny_pure q
end
inductive cL (P : D -> Prop) : SortKind -> Prop
 | one (T : String) (hT : T = "int" \/ T = "str" \/ T = "list") (h : ∀ d, P d -> cV d = true /\ GC d = T) : cL P oneType'
 | tup (T : String) (hT : T = "int" \/ T = "str" \/ T = "list") (h : ∀ d, P d -> ∃ x r, d = .tup (x :: r) /\ cV x = true /\ GC x = T) : cL P (tuples' true)
theorem uY {T : String} (hT : T = "int" \/ T = "str" \/ T = "list") : (Value.type T == Value.type T) = true /\ (Value.type T != Value.type "tuple") = true := by
 rcases hT with rfl | rfl | rfl <;> exact ⟨rfl, by decide⟩
section
variable {X : Cx} {pins : HZ} {σ : St} {H : Hp} {s : Shared} {Z Z' : aA} {A : Around} {P : D -> Prop} {kd : SortKind} {M : Model} {E : HR}
theorem nO (k : cL P kd) (I : Inv X pins σ H s) {us : HW} {Q : SortKind -> Shared -> Prop} (h : ∀ u ∈ us, ∃ d, P d /\ Tells X.K H Z u d) (h0 : us ≠ []) (q : Q kd s) : wpAny M A (keyKind' us.toArray) Q E s := by
 cases k with
 | one T hT hp =>
  refine yQ (uY hT).1 (uY hT).2 h0 (fun u hu => ?_) q;obtain ⟨d, pd, t⟩ := h u hu;rw [<- (hp d pd).2];exact FU I t (.inl (hp d pd).1)
 | tup T hT hp =>
  refine xX (uY hT).1 (uY hT).2 h0 (fun u hu => ?_) q;obtain ⟨d, pd, v, r, i⟩ := h u hu;obtain ⟨x, ds, rfl, px, tx⟩ := hp d pd;obtain ⟨a, xs, rfl, l, j⟩ := aG i;cases r;obtain ⟨y, ys, rfl, iy, j⟩ := ao.mp j;obtain ⟨its, rx, pl, _⟩ := I.tuple l
  cases rx with
  | cons q rx => exact ⟨a, _, _, rfl, pl, tx ▸ FU I ⟨_, q, iy⟩ (.inl px)⟩
theorem Bt (k : cL P kd) (L : gk P) (I : Inv X pins σ H s) {u u' : Value} {d d' : D} (t : Tells X.K H Z u d) (t' : Tells X.K H Z' u' d') (p : P d) (p' : P d') (hu : A.units + d.dep < cLine) : Bp kd A s u u' (aP .lt d d') := by
 have hc := L.cm d d' p p'
 cases k with
 | one T hT hp => exact yN I t t' hc (hp d p).1 hu
 | tup T hT hp =>
  obtain ⟨x, ds, rfl, px, tx⟩ := hp d p;obtain ⟨x', ds', rfl, px', tx'⟩ := hp d' p';refine Ei I t t' hc (fun _ y r e => by cases e; exact px) ?_;unfold D.dep at hu;omega
open Classical in
noncomputable def tK (K : Frag) (H : Hp) (Z : aA) (P : D -> Prop) (L : gk P) (d0 : {d // P d}) : PyProof.Rows.KeyKind where
 α := {d // P d}
 blt a b := aP .lt a.1 b.1
 irrefl a := L.ir a.1 a.2
 trans a b c := L.tr a.1 b.1 c.1 a.2 b.2 c.2
 negTrans a b c h := by
  cases q : aP .lt a.1 b.1 with
  | true => exact .inl rfl
  | false =>
   refine .inr ?_
   cases q2 : aP .lt b.1 a.1 with
   | true => exact L.tr b.1 a.1 c.1 b.2 a.2 c.2 q2 h
   | false => rw [<- L.tt a.1 b.1 a.2 b.2 q q2]; exact h
 total a b h1 h2 := Subtype.ext (L.tt a.1 b.1 a.2 b.2 h1 h2)
 keyOf u := if h : ∃ d : {d // P d}, Tells K H Z u d.1 then some (Classical.choose h) else none
 dflt := d0
theorem pb (I : Inv X pins σ H s) (L : gk P) {d0 : {d // P d}} {u : Value} {d : D} (p : P d) (t : Tells X.K H Z u d) : (tK X.K H Z P L d0).keyOf u = some ⟨d, p⟩ := by
 have h : ∃ d : {d // P d}, Tells X.K H Z u d.1 := ⟨⟨d, p⟩, t⟩
 unfold tK;dsimp only;rw [dif_pos h];exact congrArg some (Subtype.ext (Tells.one I (Classical.choose_spec h) t))
theorem oT (k : cL P kd) (L : gk P) (I : Inv X pins σ H s) {d0 : {d // P d}} {a0 : Array Keyed} {w : World} {prog : Program} (h : ∀ p ∈ a0.toList, ∃ d, P d /\ Tells X.K H Z p.1 d /\ A.units + d.dep < cLine) : oO (tK X.K H Z P L d0) kd a0 prog w A E s := by
 intro st i j Q hB hi hj q;rw [ltAt'_eq];refine wpS_bind (wpS_get ?_);show wpS _ _ _ _ (do let x <- elem' (arrOf st) i; let y <- elem' (arrOf st) j; lt' x y) Q st;have hi' : i < (arrOf st).size := by rw [hB.sz]; exact hi
 have hj' : j < (arrOf st).size := by rw [hB.sz]; exact hj
 have mem : ∀ n (hn : n < (arrOf st).size), (arrOf st)[n] ∈ a0.toList := fun n hn => (Array.perm_iff_toList_perm.mp hB.pm).mem_iff.mp (by simp);obtain ⟨d, p, t, hu⟩ := h _ (mem i hi');obtain ⟨d', p', t', _⟩ := h _ (mem j hj');have e1 : ky (tK X.K H Z P L d0) st i = ⟨d, p⟩ := by
  show KK _ (arrOf st) i = _;unfold KK;rw [getElem?_pos (arrOf st) i hi'];show ((tK X.K H Z P L d0).keyOf (arrOf st)[i].1).getD _ = _;rw [pb I L p t]; rfl
 have e2 : ky (tK X.K H Z P L d0) st j = ⟨d', p'⟩ := by
  show KK _ (arrOf st) j = _;unfold KK;rw [getElem?_pos (arrOf st) j hj'];show ((tK X.K H Z P L d0).keyOf (arrOf st)[j].1).getD _ = _;rw [pb I L p' t']; rfl
 rw [e1, e2] at q;rw [elem'_eq, elem'_eq, getElem?_pos (arrOf st) i hi', getElem?_pos (arrOf st) j hj'];refine wpS_bind (wpS_pure (wpS_bind (wpS_pure ?_)));rw [lt'_eq];refine wpS_bind (wpS_get ?_);rw [hB.kd];refine wpS_bind (wpS_lift (wpAny_attempt (Bt k L I t t' p p' hu prog w _ _ ⟨rfl, ?_⟩)));exact wpS_pure q
theorem AW (I : Inv X pins σ H s) (L : gk P) {d0 : {d // P d}} {a0 xs : Array Keyed} (pm : xs.Perm a0) (up : SortedToK (tK X.K H Z P L d0) xs a0.size) {kf : Keyed -> D} (h : ∀ p ∈ a0.toList, P (kf p) /\ Tells X.K H Z p.1 (kf p)) :
 xs.toList.Pairwise fun p q => aP .lt (kf q) (kf p) = false := by
 rw [List.pairwise_iff_getElem];intro i j hi hj hij;have hi' : i < xs.size := by simpa using hi
 have hj' : j < xs.size := by simpa using hj
 have mem : ∀ n (hn : n < xs.size), xs[n] ∈ a0.toList := fun n hn => (Array.perm_iff_toList_perm.mp pm).mem_iff.mp (by simp);have e : ∀ n (hn : n < xs.size), KK (tK X.K H Z P L d0) xs n = ⟨kf xs[n], (h _ (mem n hn)).1⟩ := fun n hn => by
  unfold KK;rw [getElem?_pos xs n hn];show ((tK X.K H Z P L d0).keyOf xs[n].1).getD _ = _;rw [pb I L (h _ (mem n hn)).1 (h _ (mem n hn)).2]; rfl
 have key := up i j (by omega) (by rw [<- pm.size_eq]; exact hj');rw [e i hi', e j hj'] at key;have key2 : aP .lt (kf xs[j]) (kf xs[i]) = false := key;simpa using key2
variable {prog : Program} {w : World} {κ : PyProof.Rows.KeyKind}
theorem jE {a : Addr} {us : HW} {n : Nat} {R : Fin -> Shared -> Prop} (ho : s.heap.get? a = some (seqObj "list" us.toArray n)) (h64 : us.length < 64)
 (hk : ∀ (h' : Heap) (Q : SortKind -> Shared -> Prop), (∀ b o, b ≠ a -> s.heap.get? b = some o -> h'.get? b = some o) -> us ≠ [] -> Q kd { s with heap := h' } -> wpAny (model prog w) A (keyKind' us.toArray) Q E { s with heap := h' })
 (hA : ∀ h' : Heap, (∀ b o, b ≠ a -> s.heap.get? b = some o -> h'.get? b = some o) -> oO κ kd (pairsOf us) prog w A E { s with heap := h' })
 (h : ∀ t : Array Keyed, t.Perm (pairsOf us) -> SortedToK κ t (pairsOf us).size -> R (.done (.ret .none)) { s with heap := sortedHeap s.heap a us (t.map (·.2)) }) :
 wpAny (model prog w) A (Builtin.«list.sort» ⟨[.ref a], []⟩) R E s := by
 rw [list_sort_plain];have la : a < s.heap.objs.size := lt_size ho;obtain ⟨m, ho1⟩ : ∃ m, (s.heap.update a (Obj.mapSeq fun _ => #[])).get? a = some (seqObj "list" #[] m) := ⟨_, get?_update_seq ho (fun _ => #[])⟩
 refine wpAny_bind (listItems_at ho rfl (wpAny_bind (listUpdate_at ho rfl (wpAny_bind (seqEpoch_at ho1 rfl (wpAny_bind (wpAny_newTuple (wpAny_bind (wpAny_newList (wpAny_holding ?_))))))))));have keeps : ∀ b o, b ≠ a -> s.heap.get? b = some o -> (((s.heap.update a (Obj.mapSeq fun _ => #[])).push (seqObj "tuple" us.toArray 0)).push (seqObj "list" #[] 0)).get? b = some o := fun b o ne e => by
  have lb : b < s.heap.objs.size := lt_size e;rw [Heap.get?_push_ne _ _ _ (by rw [size_push', Heap.size_update]; exact Nat.ne_of_lt (Nat.lt_succ_of_lt lb)), Heap.get?_push_ne _ _ _ (by rw [Heap.size_update]; exact Nat.ne_of_lt lb), Heap.get?_update_ne _ _ _ _ ne];exact e
 have hoE : (((s.heap.update a (Obj.mapSeq fun _ => #[])).push (seqObj "tuple" us.toArray 0)).push (seqObj "list" #[] 0)).get? a = some (seqObj "list" #[] m) := by
  rw [Heap.get?_push_ne _ _ _ (by rw [size_push', Heap.size_update]; exact Nat.ne_of_lt (Nat.lt_succ_of_lt la)), Heap.get?_push_ne _ _ _ (by rw [Heap.size_update]; exact Nat.ne_of_lt la)];exact ho1
 show wpAny (model prog w) A _ R E { s with heap := ((s.heap.update a (Obj.mapSeq fun _ => #[])).push (seqObj "tuple" us.toArray 0)).push (seqObj "list" #[] 0) };dsimp only;have fits : ∀ t : Array Keyed, t.Perm (pairsOf us) -> (t.map (·.2)).size <= sizeLine + 1 := fun t pm => by
  rw [Array.size_map, pm.size_eq, pairsOf_size, sizeLine_eq]; omega
 by_cases few : us.toArray.size < 2
 . rw [if_pos few, if_pos few];refine wpAny_bind (wpAny_pure ?_);rw [StateT.run_pure];refine wpAny_bind (wpAny_pure ?_);dsimp only;refine wpAny_bind (seqEpoch_at hoE rfl (wpAny_bind (listUpdate_at hoE rfl ?_ (hsz2 := fits _ (Array.Perm.refl _)))));simp only [bne_self_eq_false, Bool.false_eq_true, if_false];refine wpAny_pure (h _ (Array.Perm.refl _) fun i j le lt => ?_);rw [pairsOf_size] at lt;simp at few;rw [show i = j by omega];exact KeyOrd.kle_refl _
 . rw [if_neg few, if_neg few];have l2 : 2 <= (pairsOf us).size := by rw [pairsOf_size]; simp at few; omega
   refine wpAny_bind (hk _ _ keeps (by rintro rfl; simp at few) ?_);refine wpAny_bind (wpAny_mono (su (κ := κ) (kd := kd) (a0 := pairsOf us) (st := SortSt.mk' kd (us.toArray.zip us.toArray) #[] 7 none) (Q := fun _ t => (arrOf t).Perm (pairsOf us) /\ failedOf t = none /\ SortedToK κ (arrOf t) (pairsOf us).size)
    (hA (((s.heap.update a (Obj.mapSeq fun _ => #[])).push (seqObj "tuple" us.toArray 0)).push (seqObj "list" #[] 0)) keeps) l2 (by rw [pairsOf_size]; exact h64) ⟨Array.Perm.refl _, rfl, rfl, rfl⟩ fun t a1 a2 a3 => ⟨a1, a2, a3⟩) ?_ fun _ _ e => e)
   rintro ⟨⟨⟩, t⟩ s' ⟨rfl, pm, ok, up⟩;dsimp only;refine wpAny_bind (seqEpoch_at hoE rfl (wpAny_bind (listUpdate_at hoE rfl ?_ (hsz2 := fits _ pm))));rw [ok];simp only [bne_self_eq_false, Bool.false_eq_true, if_false];exact wpAny_pure (h _ pm up)
end
def g6 (f : D -> D) (ds : List D) : List D := ds.mergeSort fun x y => !aP .lt (f y) (f x)
theorem fe (f : D -> D) (ds : List D) : (g6 f ds).Perm ds := List.mergeSort_perm _ _
theorem rq {α β : Type} {R : α -> β -> Prop} {l l' : List α} (p : l'.Perm l) : ∀ {r : List β}, Paired R l r -> ∃ r', r'.Perm r /\ Paired R l' r' := by
 induction p with
 | nil => intro r h; cases h; exact ⟨[], .refl _, .nil⟩
 | cons x p ih =>
  intro r h
  cases h with
  | cons a t =>
   obtain ⟨r', p', h'⟩ := ih t;exact ⟨_ :: r', p'.cons _, .cons a h'⟩
 | swap x y l =>
  intro r h
  cases h with
  | cons a t => cases t with
   | cons b t => exact ⟨_ :: _ :: _, .swap _ _ _, .cons b (.cons a t)⟩
 | trans p q ih1 ih2 =>
  intro r h;obtain ⟨r1, p1, h1⟩ := ih2 h;obtain ⟨r2, p2, h2⟩ := ih1 h1;exact ⟨r2, p2.trans p1, h2⟩
theorem kg {α β γ δ : Type} {R : α -> β -> Prop} {S : γ -> δ -> Prop} {f : α -> γ} {g : β -> δ} : ∀ {l : List α} {r : List β}, Paired R l r -> (∀ a b, a ∈ l -> b ∈ r -> R a b -> S (f a) (g b)) -> Paired S (l.map f) (r.map g)
 | _, _, .nil, _ => .nil
 | _, _, .cons a t, h => .cons (h _ _ (by simp) (by simp) a) (kg t fun x y hx hy z => h x y (by simp [hx]) (by simp [hy]) z)
theorem mL {α : Type} : ∀ {l r : List α}, Paired (fun a b => a = b) l r -> l = r
 | _, _, .nil => rfl
 | _, _, .cons a t => by rw [a, mL t]
theorem eK {K : Frag} {H : Hp} {Z : aA} : ∀ {prs : List (V × D)}, (∀ q ∈ prs, In K H Z q.2 q.1) -> aH K H Z (prs.map (·.2)) (prs.map (·.1))
 | [], _ => aD.mpr rfl
 | q :: prs, h => ao.mpr ⟨_, _, rfl, h q (by simp), eK fun x hx => h x (by simp [hx])⟩
section
variable {X : Cx} {pins : HZ} {σ : St} {H : Hp} {s : Shared} {Z Z' : aA} {A : Around} {P : D -> Prop} {kd : SortKind} {M : Model} {E : HR} {f : D -> D}
theorem kG (I : Inv X pins σ H s) (L : gk P) {d0 : {d // P d}} {prs : List (V × D)} {a0 t : Array Keyed} (pr : Paired (fun (p : Keyed) (q : V × D) => RelV q.1 p.2 /\ Tells X.K H Z p.1 (f q.2)) a0.toList prs) (hP : ∀ q ∈ prs, P (f q.2))
 (pm : t.Perm a0) (up : SortedToK (tK X.K H Z P L d0) t a0.size) : ∃ prs' : List (V × D), prs'.Perm prs /\ Vals (prs'.map (·.1)) (t.map (·.2)).toList /\ (prs'.map (·.2)).Pairwise fun x y => aP .lt (f y) (f x) = false := by
 have pl := Array.perm_iff_toList_perm.mp pm;obtain ⟨prs', pp, pr'⟩ := rq pl pr;have ex : ∀ p ∈ a0.toList, ∃ q, q ∈ prs /\ Tells X.K H Z p.1 (f q.2) := by
  intro p hp;have : ∀ {l : List Keyed} {r : List (V × D)}, Paired (fun (p : Keyed) (q : V × D) => RelV q.1 p.2 /\ Tells X.K H Z p.1 (f q.2)) l r -> p ∈ l -> ∃ q, q ∈ r /\ Tells X.K H Z p.1 (f q.2) := by
   intro l r h
   induction h with
   | nil => intro z; simp at z
   | cons a t ih =>
    intro z;rcases mem_cons.mp z with rfl | z
    . exact ⟨_, by simp, a.2⟩
    . obtain ⟨q, hq, tq⟩ := ih z;exact ⟨q, by simp [hq], tq⟩
  exact this pr hp
 have hkf : ∃ kf : Keyed -> D, ∀ p ∈ a0.toList, P (kf p) /\ Tells X.K H Z p.1 (kf p) := by
  refine ⟨fun p => open Classical in if h : ∃ d, P d /\ Tells X.K H Z p.1 d then Classical.choose h else .non, fun p hp => ?_⟩;obtain ⟨q, hq, tq⟩ := ex p hp;have h : ∃ d, P d /\ Tells X.K H Z p.1 d := ⟨_, hP q hq, tq⟩
  dsimp only;rw [dif_pos h];exact Classical.choose_spec h
 obtain ⟨kf, hkf⟩ := hkf;have pw := AW I L pm up hkf;refine ⟨prs', pp, ?_, ?_⟩
 . rw [Array.toList_map];have : ∀ {l : List Keyed} {r : List (V × D)}, Paired (fun (p : Keyed) (q : V × D) => RelV q.1 p.2 /\ Tells X.K H Z p.1 (f q.2)) l r -> Vals (r.map (·.1)) (l.map (·.2)) := by
    intro l r h
    induction h with
    | nil => exact .nil
    | cons a t ih => exact .cons a.1 ih
   exact this pr'
 . have e : t.toList.map kf = prs'.map fun q => f q.2 :=
    mL (kg pr' fun p q hp hq z => Tells.one I (hkf p (pl.mem_iff.mp hp)).2 z.2)
   have pw2 : (t.toList.map kf).Pairwise fun x y => aP .lt y x = false := by rw [List.pairwise_map]; exact pw
   rw [e, List.pairwise_map] at pw2;rw [List.pairwise_map];exact pw2
theorem g8 (L : gk P) {ds ds' : List D} (hP : ∀ d ∈ ds, P (f d)) (inj : ∀ a ∈ ds, ∀ b ∈ ds, f a = f b -> a = b) (pm : ds'.Perm ds) (pw : ds'.Pairwise fun x y => aP .lt (f y) (f x) = false) : ds' = g6 f ds := by
 have P' : ∀ d ∈ ds', P (f d) := fun d hd => hP d (pm.mem_iff.mp hd);have neg : ∀ x y z, P (f x) -> P (f y) -> P (f z) -> aP .lt (f y) (f x) = false -> aP .lt (f z) (f y) = false -> aP .lt (f z) (f x) = false := fun x y z px py pz a b => by
  cases q : aP .lt (f z) (f x) with
  | false => rfl
  | true =>
   cases q2 : aP .lt (f x) (f y) with
   | true => rw [L.tr _ _ _ pz px py q q2] at b; cases b
   | false => rw [L.tt _ _ px py q2 a] at q; rw [q] at b; cases b
 have hs : (g6 f ds).Pairwise fun x y => aP .lt (f y) (f x) = false := by
  let ds2 : List {d // P (f d)} := ds.attach.map fun d => ⟨d.1, hP d.1 d.2⟩
  have e : ds = ds2.map (·.1) := by simp [ds2]
  have e2 : g6 f ds = (ds2.mergeSort fun x y => !aP .lt (f y.1) (f x.1)).map (·.1) := by
   unfold g6;rw [e];exact (List.map_mergeSort (f := fun z : {d // P (f d)} => z.1) (r := fun x y => !aP .lt (f y.1) (f x.1)) (s := fun x y => !aP .lt (f y) (f x)) (fun a _ b _ => rfl)).symm
  rw [e2, List.pairwise_map];have := List.pairwise_mergeSort (le := fun (x y : {d // P (f d)}) => !aP .lt (f y.1) (f x.1)) (fun a b c h1 h2 => by
   simp only [Bool.not_eq_true'] at *;exact neg a.1 b.1 c.1 a.2 b.2 c.2 h1 h2) (fun a b => by
   cases q : aP .lt (f b.1) (f a.1) with
   | false => simp
   | true =>
    have z : aP .lt (f a.1) (f b.1) = false := by
     cases q2 : aP .lt (f a.1) (f b.1) with
     | false => rfl
     | true => have w := L.tr _ _ _ a.2 b.2 a.2 q2 q; rw [L.ir _ a.2] at w; cases w
    simp [z]) ds2
  exact this.imp fun h => by simpa using h
 refine List.Perm.eq_of_pairwise (le := fun x y => aP .lt (f y) (f x) = false) ?_ pw hs (pm.trans (fe f ds).symm);intro a b ha hb h1 h2;have hb' : b ∈ ds := (fe f ds).mem_iff.mp hb;exact inj a (pm.mem_iff.mp ha) b hb' (L.tt _ _ (P' a ha) (hP b hb') h2 h1)
end
section
variable {X : Cx}
theorem gH {K : Frag} {H : Hp} {Z : aA} : ∀ {ds : List D} {ys : List V} {its : HW}, Vals ys its -> aH K H Z ds ys -> Paired (fun (p : Keyed) (q : V × D) => RelV q.1 p.2 /\ Tells K H Z p.1 (id q.2)) (its.zip its) (ys.zip ds)
 | [], ys, its, r, j => by cases aD.mp j; cases r; exact .nil
 | d :: ds, ys, its, r, j => by
  obtain ⟨v, vs, rfl, i, j⟩ := ao.mp j
  cases r with
  | cons a r => exact .cons ⟨a, v, a, i⟩ (gH r j)
theorem qI : jg X (.builtin "sorted") (fun xs H Q => ∃ p ys ds Z P kd, xs = [.ref p] /\ dM X.K H p ys /\ aH X.K H Z ds ys /\ gk P /\ cL P kd /\ (∀ d ∈ ds, P d /\ X.A.units + 2 + d.dep < cLine) /\ ds.length < 64 /\ ∀ l, H l = none -> ∀ prs : List (V × D), prs.Perm (ys.zip ds) -> prs.map (·.2) = g6 id ds -> Q (.ref l) (upd H l (.lst (prs.map (·.1))))) := by
 intro pins s σ H xs us Q I r h;obtain ⟨p, ys, ds, Z, P, kd, rfl, hq, j, L, kk, hP, h64, q⟩ := h;obtain ⟨u, rfl, rx⟩ := vals1 r;cases rx;obtain ⟨its, rv, pl, hz⟩ := I.list hq;have z1 := j.length; have z2 := rv.length;have el : ∀ u ∈ its, ∃ d, P d /\ Tells X.K H Z u d /\ X.A.units + 2 + d.dep < cLine := fun u hu => by
  obtain ⟨n, hn, e⟩ := List.mem_iff_getElem.mp hu;have hd : n < ds.length := by omega
  obtain ⟨v, ev, iv⟩ := j.get (i := n) (d := ds[n]) (by simp [hd]);obtain ⟨u', eu, ru⟩ := rv.get ev;have e2 : u' = u := by
   have t := (List.getElem?_eq_some_iff.mp eu).2;rw [<- t]; exact e
  exact ⟨ds[n], (hP _ (getElem_mem hd)).1, ⟨v, e2 ▸ ru, iv⟩, (hP _ (getElem_mem hd)).2⟩
 have hI : ∀ (h' : Heap) (t' : Nat), (∀ b o, s.heap.get? b = some o -> h'.get? b = some o) -> Inv X pins σ H { s with heap := h', toks := t' } := fun h' t' k => I.kept k;refine Calls.call_function_entry kind_sorted plain_sorted entry_sorted (args_sorted1 _) ?_;unfold Builtin.«sorted»;refine wpAny_bind (m := checkCount "sorted" 1 1 _) (wpAny_pure ?_);refine wpAny_bind (collect_list pl.isList ?_ (by omega));refine wpAny_bind (wpAny_newList ?_);have hsz : ((s.heap.push (seqObj "list" #[] 0)).update s.heap.objs.size (Obj.mapSeq (· ++ its.toArray))).objs.size = s.heap.objs.size + 1 := by
  rw [Heap.size_update, size_push']
 have hoL : (((s.heap.push (seqObj "list" #[] 0)).update s.heap.objs.size (Obj.mapSeq (· ++ its.toArray))).push (seqObj "list" its.toArray 0)).get? (s.heap.objs.size + 1) = some (seqObj "list" its.toArray 0) := by
  rw [<- hsz]; exact get?_push_size _ rfl
 have kp : ∀ b o, s.heap.get? b = some o -> (((s.heap.push (seqObj "list" #[] 0)).update s.heap.objs.size (Obj.mapSeq (· ++ its.toArray))).push (seqObj "list" its.toArray 0)).get? b = some o := fun b o e => by
  have lb := lt_size e;rw [Heap.get?_push_ne _ _ _ (by rw [hsz]; exact Nat.ne_of_lt (Nat.lt_succ_of_lt lb)), Heap.get?_update_ne _ _ _ _ (Nat.ne_of_lt lb), Heap.get?_push_ne _ _ _ (Nat.ne_of_lt lb)];exact e
 show wpAny _ _ _ _ _ { s with heap := ((s.heap.push (seqObj "list" #[] 0)).update s.heap.objs.size (Obj.mapSeq (· ++ its.toArray))).push (seqObj "list" its.toArray 0) };rw [hsz];have nn : ∀ b o, s.heap.get? b = some o -> b ≠ s.heap.objs.size + 1 := fun b o e => Nat.ne_of_lt (Nat.lt_succ_of_lt (lt_size e));have cost : ∀ d : D, X.A.units + 2 + d.dep < cLine -> X.A.in1.in1.units + d.dep < cLine := fun d h => h;have lay : ∀ (prs : List (V × D)) (out : HX), prs.Perm (ys.zip ds) -> Vals (prs.map (·.1)) out.toList -> prs.map (·.2) = g6 id ds -> EP X pins σ Q (.ref (s.heap.objs.size + 1)) { s with heap := sortedAll s.heap its out } := fun prs out pp vv e => by
  obtain ⟨m, ho⟩ := sortedAll_at s.heap its out;have hl : (prs.map (·.1)).length <= sizeLine := by
   rw [length_map, pp.length_eq, List.length_zip]; omega
  exact ⟨.ref (s.heap.objs.size + 1), _, I.laid (t' := s.toks) (fun _ _ => sortedAll_old) (Nat.le_succ _) (show bB X.prog X.w _ _ _ (.lst (prs.map (·.1))) from ⟨hl, out.toList, m, vv, by simpa using ho⟩), rfl, q _ (I.hok.fresh (Nat.le_succ _)) prs pp e⟩
 have pr := gH rv j;rw [<- pairsOf_toList] at pr;by_cases emp : its = []
 . subst emp;have y0 : ys = [] := List.length_eq_zero_iff.mp (z2.trans rfl);have d0 : ds = [] := List.length_eq_zero_iff.mp (z1.trans (z2.trans rfl));subst y0 d0;refine wpAny_bind (wpAny_holding (wpAny_call_entry slot_list_sort ⟨_, hoL, rfl⟩ entry_list_sort (jE (kd := kd) (κ := strKind) hoL (by simp) (fun s' Q' _ ne _ => absurd rfl ne) (fun s' _ st i jj Q' hB hi => absurd hi (by simp [pairsOf])) fun t pm _ => ⟨_, rfl, ?_⟩) (args_list_sort _)));have t0 : t = #[] := by
    have e := pm.size_eq;simp [pairsOf] at e;exact e
   have o0 : (t.map fun (x : Keyed) => x.2).toList = [] := by rw [t0]; simp
   have v0 : Vals (([] : List (V × D)).map (·.1)) (t.map fun (x : Keyed) => x.2).toList := by rw [o0]; exact .nil
   have s0 : ([] : List (V × D)).map (·.2) = g6 id [] := by simp [g6]
   exact wpAny_pure ⟨_, rfl, lay [] (t.map fun (x : Keyed) => x.2) (.refl _) v0 s0⟩
 . obtain ⟨u0, hu0⟩ := List.exists_mem_of_ne_nil its emp;obtain ⟨dd, pd, _, _⟩ := el u0 hu0;refine wpAny_bind (wpAny_holding (wpAny_call_entry slot_list_sort ⟨_, hoL, rfl⟩ entry_list_sort (jE (kd := kd) (κ := tK X.K H Z P L ⟨dd, pd⟩) hoL (by omega) (fun h' Q' kp' ne q' => ?_) (fun h' kp' => ?_) fun t pm up => ⟨_, rfl, ?_⟩) (args_list_sort _)))
   . exact nO (s := { s with heap := h' }) kk (hI h' s.toks fun b o e => kp' b o (nn b o e) (kp b o e)) (fun u hu => let ⟨d, a, b, _⟩ := el u hu; ⟨d, a, b⟩) ne q'
   . refine oT (s := { s with heap := h' }) kk L (hI h' s.toks fun b o e => kp' b o (nn b o e) (kp b o e)) (fun p hp => ?_);rw [pairsOf_toList] at hp;obtain ⟨d, a, b, c⟩ := el p.1 (List.of_mem_zip hp).1;exact ⟨d, a, b, cost d c⟩
   . obtain ⟨prs, pp, vv, pw⟩ := kG I L pr (fun q hq => (hP _ (List.of_mem_zip hq).2).1) pm up;have e : prs.map (·.2) = g6 id ds := g8 L (f := id) (fun d hd => (hP d hd).1) (fun a _ b _ e => e) (by
      have e2 : (ys.zip ds).map (·.2) = ds := by rw [List.map_snd_zip]; omega
      rw [<- e2]; exact pp.map _) pw
     exact wpAny_pure ⟨_, rfl, lay prs _ pp vv e⟩
theorem jJ {K : Frag} {H : Hp} {Z : aA} : ∀ {ds : List D} {ys : List V}, aH K H Z ds ys -> ∀ q ∈ ys.zip ds, In K H Z q.2 q.1
 | [], ys, j, q, hq => by simp at hq
 | d :: ds, ys, j, q, hq => by
  obtain ⟨v, vs, rfl, i, j⟩ := ao.mp j;rcases mem_cons.mp hq with rfl | hq
  . exact i
  . exact jJ j q hq
variable {ρ : List (Option D)} {m m1 : Bool} {a : Expr} {ds : List D} {p pos : Pos} {P : D -> Prop} {kd : SortKind}
theorem lD {ds es : List D} (p : es.Perm ds) (h : aV ds = true) : aV es = true := by
 have mem : ∀ {l : List D}, aV l = true ↔ ∀ d ∈ l, d.flat = true := by
  intro l
  induction l with
  | nil => simp [aV]
  | cons x l ih => simp [aV, ih]
 exact mem.mpr fun d hd => mem.mp h d (p.mem_iff.mp hd)
theorem v9 (ha : E X m1 ρ a (.lst ds)) (L : gk P) (kk : cL P kd) (hP : ∀ d ∈ ds, P d /\ X.A.units + 2 + d.dep < cLine) (h64 : ds.length < 64) (hm : X.mg "sorted" = none) (hmm : m = true -> m1 = true \/ aV ds = true := by intro h; first | exact .inl h | cases h)
 (hg : Gl X "sorted" := by rfl) (hs : starEach [a] X.env = [(false, eval a X.env)] := by rfl) : E X m ρ (.Call (.Name "sorted" p) [a] [] pos) (.lst (g6 id ds)) :=
 PE.mono (fg qI hg hm boot_sorted (aM ha bh (by rw [hs]; rfl)) (by decide) (by decide) (by rw [hs]; rfl) rfl) fun σ H Q z0 => aO z0 fun Z oz en k => ⟨Z, oz, en, fun x H1 s1 i1 => by
  obtain ⟨l, xs, rfl, at', j⟩ := ar.mp i1;refine ⟨l, xs, ds, _, P, kd, rfl, at'.sq, j, L, kk, hP, h64, fun q hq prs pp e => k (.ref q) _ (s1.trans (az hq)) (ar.mpr ⟨q, _, rfl, .inl ⟨ax, ?_⟩, ?_⟩)⟩
  . cases m
    . exact oz q (s1.free hq)
    . exact s1.free hq
  . have j0 := eK fun z hz => jJ j z (pp.mem_iff.mp hz);rw [e] at j0;have jc := j0.same (az (o := .lst (prs.map (·.1))) hq);cases m
    . cases m1
      . exact jc
      . exact jc.up oz
    . rcases hmm rfl with h | h
      . subst h; exact jc
      . exact jc.df (lD (fe _ _) h)⟩
end
theorem rL (a fa : Addr) : Builtin.«list.sort» ⟨[.ref a], [(("key" : Str), .ref fa)]⟩ = (do
 let items <- Builtin.List.listItems (.ref a)
 Builtin.List.listUpdate (.ref a) fun _ => #[]
 let before <- seqEpoch a
 let held <- newTuple items.toList
 let store <- newList []
 holding [held, store] do
  rule "list.sort.key"
  for x in items do
   match <- (call (.ref fa) [x]).attempt with
   | .ok k => Builtin.List.listUpdate store (·.push k)
   | .error e =>
    rule "list.sort.key-raised"
    let made <- Builtin.List.listItems store
    Builtin.List.listUpdate store fun _ => #[]
    letGo made.toList.reverse [e]
    Builtin.List.listUpdate (.ref a) (fun _ => items); throw e
  let keys <- Builtin.List.listItems store
  let kind <- if items.size < 2 then pure general' else keyKind' keys
  let ((), st) <- (if items.size < 2 then pure () else sortRuns').run (SortSt.mk' kind (keys.zip items) #[] 7 none)
  Builtin.List.listUpdate store (fun _ => #[])
  letGo ((arrOf st).map (·.1)).toList (failedOf st).toList
  let touched := (<- seqEpoch a) != before
  Builtin.List.listUpdate (.ref a) (fun _ => (arrOf st).map (·.2))
  if let some e := failedOf st then rule "list.sort.comparison-raised"; throw e
  if touched then rule "list.sort.modified"; raiseError "ValueError" "list modified during sort"
  ret .none) := rfl
structure sU (X : Cx) (A : Around) (σ : St) (fa : Addr) (f : D -> D) (P0 : D -> Prop) (Good : Hp -> aA -> Prop) : Prop where
 zone : ∀ {H : Hp} {Z Z' : aA}, (∀ a o, H a = some o -> Z.S a -> Z'.S a) -> (Z.m = false -> Z'.m = false) -> Good H Z -> Good H Z'
 same : ∀ {H H' : Hp} {Z : aA}, aq H H' -> Good H Z -> Good H' Z
 write : ∀ {H : Hp} {Z : aA} {l : Addr} {xs ys : List V}, H l = some (.lst xs) -> ¬ Z.S l -> Good H Z -> Good (upd H l (.lst ys)) Z
 run : ∀ (E : HR) (pins : HZ) (s : Shared) (H : Hp) (Z : aA) (u : Value) (d : D) (Q : HR), Inv X pins σ H s -> Z.Open H -> Good H Z -> Tells X.K H Z u d -> P0 d ->
  (∀ k H' s', Inv X pins σ H' s' -> aq H H' -> Tells X.K H' Z k (f d) -> Q k s') -> wpAny (model X.prog X.w) A (call (.ref fa) [u]) Q E s
theorem TabsOk.G3 {H : Hp} {a : Addr} {φ : Heap -> Prop} {o : HO} (t : TabsOk H) (ha : H a = some (.ext φ)) (no : ∀ qn : Str, (fun h : Heap => h.CodeRec (.ref a) qn) ≠ φ) : TabsOk (L2.upd H a o) := fun P hP => by
 obtain ⟨ps, e, tr, k⟩ := t P hP;refine ⟨ps, by rw [ag (dB e ha (by intro z; cases z))]; exact e, tr, fun pos cv q => ?_⟩;obtain ⟨c, rfl, hc⟩ := k pos cv q;have : c ≠ a := fun z => by
  subst z;rw [ha] at hc;have z2 := Option.some.inj hc;unfold lN at z2;injection z2 with z3;exact no P.2 z3.symm
 exact ⟨c, rfl, by rw [ag this]; exact hc⟩
theorem nA {K : Frag} {H : Hp} {Z : aA} {f : D -> D} : ∀ {ds : List D} {xs : List V} {us : HW} {kvs : List V} {ks : HW}, xs.length = ds.length -> Vals xs us -> aH K H Z (ds.map f) kvs -> Vals kvs ks ->
 Paired (fun (p : Keyed) (q : V × D) => RelV q.1 p.2 /\ Tells K H Z p.1 (f q.2)) (ks.zip us) (xs.zip ds)
 | [], xs, us, kvs, ks, hl, r, j, r2 => by
  cases aD.mp j;cases r2
  cases r with
  | nil => exact .nil
  | cons _ _ => simp at hl
 | d :: ds, xs, us, kvs, ks, hl, r, j, r2 => by
  obtain ⟨v, vs, rfl, i, j⟩ := ao.mp j
  cases r2 with
  | cons a r2 =>
   cases r with
   | nil => simp at hl
   | cons b r => exact .cons ⟨b, v, a, i⟩ (nA (by simpa using hl) r j r2)
section
variable {X : Cx} {pins : HZ} {σ : St} {H : Hp} {s : Shared} {Z : aA} {A : Around} {P P0 : D -> Prop} {kd : SortKind} {E : HR} {f : D -> D} {fa a : Addr} {Good : Hp -> aA -> Prop}
theorem xU (kk : sU X A σ fa f P0 Good) (L : gk P) (kn : cL P kd) {ds : List D} {xs : List V} {us : HW} (hP : ∀ d ∈ ds, P0 d /\ P (f d) /\ A.units + (f d).dep < cLine) (inj : ∀ x ∈ ds, ∀ y ∈ ds, f x = f y -> x = y)
 (I : Inv X pins σ H s) (oz : Z.Open H) (g : Good H Z) (ix : aH X.K H Z ds xs) (vx : Vals xs us) (h64 : us.length < 64) {h1 : Heap} {t1 n : Nat} (k1 : ∀ b o, s.heap.get? b = some o -> h1.get? b = some o) (la : s.heap.objs.size <= a)
 (ho : h1.get? a = some (seqObj "list" us.toArray n)) {R : Fin -> Shared -> Prop}
 (fin : ∀ H' s' (prs : List (V × D)), Inv X pins σ H' s' -> aq H H' -> H a = none -> H' a = some (.lst (prs.map (·.1))) -> prs.Perm (xs.zip ds) -> prs.map (·.2) = g6 f ds -> R (.done (.ret .none)) s') :
 wpAny (model X.prog X.w) A (Builtin.«list.sort» ⟨[.ref a], [(("key" : Str), .ref fa)]⟩) R E { s with heap := h1, toks := t1 } := by
 rw [rL];have z1 := ix.length; have z2 := vx.length;have la' : a < h1.objs.size := lt_size ho;obtain ⟨m, ho1⟩ : ∃ m, (h1.update a (Obj.mapSeq fun _ => #[])).get? a = some (seqObj "list" #[] m) := ⟨_, get?_update_seq ho (fun _ => #[])⟩
 refine wpAny_bind (listItems_at (s := { s with heap := h1, toks := t1 }) ho rfl ?_);refine wpAny_bind (listUpdate_at (s := { s with heap := h1, toks := t1 }) ho rfl ?_ (by simp only [size_toArray, sizeLine_eq]; omega) (by simp));refine wpAny_bind (seqEpoch_at (s := { s with heap := h1.update a (Obj.mapSeq fun _ => #[]), toks := t1 }) ho1 rfl ?_);refine wpAny_bind (wpAny_newTuple ?_);have k3 : ∀ b o, s.heap.get? b = some o -> ((h1.update a (Obj.mapSeq fun _ => #[])).push (seqObj "tuple" us.toArray 0)).get? b = some o := fun b o e => by
  have lb := lt_size e;have ne : b ≠ a := Nat.ne_of_lt (Nat.lt_of_lt_of_le lb la);have lb1 := lt_size (k1 b o e);rw [Heap.get?_push_ne _ _ _ (by rw [Heap.size_update]; exact Nat.ne_of_lt lb1), Heap.get?_update_ne _ _ _ _ ne];exact k1 b o e
 have ho3 : ((h1.update a (Obj.mapSeq fun _ => #[])).push (seqObj "tuple" us.toArray 0)).get? a = some (seqObj "list" #[] m) := by
  rw [Heap.get?_push_ne _ _ _ (by rw [Heap.size_update]; exact Nat.ne_of_lt la')];exact ho1
 show wpAny (model X.prog X.w) A _ R E { s with heap := (h1.update a (Obj.mapSeq fun _ => #[])).push (seqObj "tuple" us.toArray 0), toks := t1 };generalize ((h1.update a (Obj.mapSeq fun _ => #[])).push (seqObj "tuple" us.toArray 0)) = h3 at k3 ho3 ⊢;have Ha0 : H a = none := I.hok.fresh la;have Ia : Inv X pins σ (upd H a (.ext fun h => h.get? a = some (seqObj "list" #[] m))) { s with heap := h3, toks := t1 } := I.laid k3 la ⟨ho3, ⟨_, ho3⟩, fun g1 g2 z k => k _ z⟩;refine wpAny_bind (wpAny_newList ?_);have Iq := Ia.FO (ys := []) (its := []) (t' := t1) .nil (by simp);have q0 := Ia.fresh;show wpAny (model X.prog X.w) A _ R E { s with heap := h3.push (seqObj "list" #[] 0), toks := t1 };have Hq0 : H h3.objs.size = none := by
  have z := q0;by_cases e : h3.objs.size = a
  . rw [e]; exact Ha0
  . change upd H a _ h3.objs.size = none at z;rw [ag e] at z; exact z
 have neq : a ≠ h3.objs.size := Nat.ne_of_lt (lt_size ho3);generalize hQ : h3.objs.size = q at q0 Hq0 neq ⊢;have Iq' : Inv X pins σ (upd (upd H a (.ext fun h => h.get? a = some (seqObj "list" #[] m))) q (.lst [])) { s with heap := h3.push (seqObj "list" #[] 0), toks := t1 } := by rw [<- hQ]; exact Iq
 clear Iq
 -- what every state in the loop bears
 have openQ : ∀ {H' : Hp} {kvs : List V}, aq H H' -> H' q = some (.lst kvs) -> aA.Open ⟨Z.m, fun b => Z.S b /\ b ≠ q⟩ H' := fun {H' kvs} k hq => ⟨fun b e => ⟨oz.op b (k.free e), fun z => by rw [z, hq] at e; cases e⟩, k.tabs oz.tb⟩
 have carryQ : ∀ {H' : Hp}, aq H H' -> Carry X.K H Z H' ⟨Z.m, fun b => Z.S b /\ b ≠ q⟩ := fun {H'} k =>
  Carry.of k (fun b ys e z => ⟨z, fun w => by rw [w, Hq0] at e; cases e⟩) fun z => z
 refine wpAny_holding (wpAny_bind (wpAny_rule ?_));refine wpAny_bind (wpAny_forIn_array' _ (fun rest _ st => ∃ (H' : Hp) (kvs : List V), Inv X pins σ H' st /\ (aq H H' /\ H' a = some (.ext fun h => h.get? a = some (seqObj "list" #[] m))) /\ H' q = some (.lst kvs) /\
  Good H' ⟨Z.m, fun b => Z.S b /\ b ≠ q⟩ /\ kvs.length <= us.length /\ rest = us.drop kvs.length /\ aH X.K H' ⟨Z.m, fun b => Z.S b /\ b ≠ q⟩ ((ds.take kvs.length).map f) kvs) _ ?turn ?over _ _ ?start)
 case start =>
  have sm0 : aq H (upd (upd H a (.ext fun h => h.get? a = some (seqObj "list" #[] m))) q (.lst [])) := (az Ha0).trans (az q0);exact ⟨_, [], Iq', ⟨sm0, by rw [ag neq, ax]⟩, ax, kk.same sm0 (kk.zone (Z := Z) (fun b o e z => ⟨z, fun w => by rw [w, Hq0] at e; cases e⟩) (fun z => z) g), Nat.zero_le _, by simp, aD.mpr rfl⟩
 case turn =>
  rintro x rest _ st ⟨H', kvs, I', ⟨kp, hae⟩, hq, gd, hle, hr, jn⟩;have hlt : kvs.length < us.length := by
   have := congrArg List.length hr;simp at this; omega
  have hx : us[kvs.length] = x /\ us.drop (kvs.length + 1) = rest := by
   rw [List.drop_eq_getElem_cons hlt] at hr;injection hr with e1 e2;exact ⟨e1.symm, e2.symm⟩
  have hd : kvs.length < ds.length := by omega
  obtain ⟨v, ev, iv⟩ := ix.get (i := kvs.length) (d := ds[kvs.length]) (by simp [hd]);obtain ⟨u', eu, ru⟩ := vx.get ev;have e2 : u' = x := by
   have t := (List.getElem?_eq_some_iff.mp eu).2;rw [<- t]; exact hx.1
  subst e2;refine wpAny_bind (wpAny_attempt (kk.run _ pins st H' _ u' ds[kvs.length] _ I' (openQ kp hq) gd ⟨v, ru, iv.carry (carryQ kp)⟩ (hP _ (getElem_mem hd)).1 fun k H2 s2 I2 sm ⟨kv, rk, ik⟩ => ?_));dsimp only;have hq2 : H2 q = some (.lst kvs) := sm.at hq;obtain ⟨zl, its, n2, rv, ll, ho2⟩ := I2.zM hq2;refine wpAny_bind (listUpdate_at ho2 rfl (wpAny_pure ?_) (by simp only [size_toArray, sizeLine_eq]; omega) (by simp only [Array.size_push, size_toArray, sizeLine_eq]; omega));dsimp only;refine ⟨upd H2 q (.lst (kvs ++ [kv])), kvs ++ [kv], I2.AN (t' := s2.toks) (its' := its ++ [k]) hq2 ho2 (by simp) (rv.append (.cons rk .nil)) (by simp only [List.length_append, length_cons, List.length_nil, sizeLine_eq]; omega), ⟨(kp.trans sm).write Hq0 hq2, by rw [ag neq]; exact sm.at hae⟩, ax, ?_, by simp; omega, by simp [hx.2], ?_⟩
  . exact kk.write hq2 (fun z => z.2 rfl) (kk.same sm gd)
  . have e3 : (ds.take (kvs ++ [kv]).length).map f = (ds.take kvs.length).map f ++ [f ds[kvs.length]] := by
     rw [List.length_append, length_cons, List.length_nil, take_add_one, map_append];simp [hd]
    rw [e3];have cw : Carry X.K H2 ⟨Z.m, fun b => Z.S b /\ b ≠ q⟩ (upd H2 q (.lst (kvs ++ [kv]))) ⟨Z.m, fun b => Z.S b /\ b ≠ q⟩ := Carry.write hq2 (fun z => z.2 rfl);exact ((jn.same sm).carry cw).append (aH.one (ik.carry cw))
 case over =>
  rintro _ st ⟨H', kvs, I', ⟨kp, hae⟩, hq, gd, hle, hr, jn⟩;have hlen : kvs.length = us.length := by
   have := congrArg List.length hr;simp at this; omega
  have jn' : aH X.K H' ⟨Z.m, fun b => Z.S b /\ b ≠ q⟩ (ds.map f) kvs := by
   rw [hlen, show us.length = ds.length by omega, take_length] at jn; exact jn
  obtain ⟨zl, ks, n2, rv, ll, ho2⟩ := I'.zM hq;refine wpAny_bind (listItems_at ho2 rfl ?_);have pr := nA (K := X.K) (by omega) vx jn' rv;have hsz : ks.toArray.size = us.toArray.size := by simp; omega
  -- behind the sort
  have tail : ∀ (tt : SortSt) (prs : List (V × D)), failedOf tt = none -> prs.Perm (xs.zip ds) -> Vals (prs.map (·.1)) ((arrOf tt).map (·.2)).toList -> prs.map (·.2) = g6 f ds ->
   wpAny (model X.prog X.w) A (do
    Builtin.List.listUpdate (.ref q) (fun _ => #[])
    letGo ((arrOf tt).map (·.1)).toList (failedOf tt).toList
    let touched := (<- seqEpoch a) != m
    Builtin.List.listUpdate (.ref a) (fun _ => (arrOf tt).map (·.2))
    if let some e := failedOf tt then rule "list.sort.comparison-raised"; throw e
    if touched then rule "list.sort.modified"; raiseError "ValueError" "list modified during sort"
    ret .none) R E st := by
   intro tt prs ok pp vv e;refine wpAny_bind (listUpdate_at ho2 rfl ?_ (by simp only [size_toArray, sizeLine_eq]; omega) (by simp));have I5 := I'.AN (t' := st.toks) (its' := []) (ys := []) (f := fun _ => #[]) hq ho2 (by simp) .nil (by simp);have ha5 : upd H' q (.lst []) a = some (.ext fun h => h.get? a = some (seqObj "list" #[] m)) := by rw [ag neq]; exact hae
   have ho5 : ({ st with heap := st.heap.update q (Obj.mapSeq fun _ => #[]), toks := st.toks } : Shared).heap.get? a = some (seqObj "list" #[] m) := (I5.hok a _ ha5).1;refine wpAny_bind (wpAny_letGo ?_);refine wpAny_bind (seqEpoch_at (s := { st with heap := st.heap.update q (Obj.mapSeq fun _ => #[]), toks := st.toks }) ho5 rfl ?_);have nout : ((arrOf tt).map (·.2)).size <= sizeLine := by
    have z := vv.length;have z3 := pp.length_eq;rw [List.length_zip] at z3;rw [length_map] at z;rw [<- Array.length_toList, <- z, z3, sizeLine_eq]; omega
   refine wpAny_bind (listUpdate_at (s := { st with heap := st.heap.update q (Obj.mapSeq fun _ => #[]), toks := st.toks }) ho5 rfl ?_ (by simp) (Nat.le_succ_of_le nout));rw [ok];simp only [bne_self_eq_false, Bool.false_eq_true, if_false];obtain ⟨e6, qo⟩ : ∃ e6, ((st.heap.update q (Obj.mapSeq fun _ => #[])).update a (Obj.mapSeq fun _ => (arrOf tt).map (·.2))).get? a = some (seqObj "list" ((arrOf tt).map (·.2)) e6) := ⟨_, get?_update_seq ho5 (fun _ => (arrOf tt).map (·.2))⟩
   have I6 : Inv X pins σ (upd (upd H' q (.lst [])) a (.lst (prs.map (·.1)))) { st with heap := (st.heap.update q (Obj.mapSeq fun _ => #[])).update a (Obj.mapSeq fun _ => (arrOf tt).map (·.2)), toks := st.toks } := by
    refine I5.write (x := a) (e := a) (by rw [ha5]; exact trivial) (.inl rfl) (fun b u nb hb => (Heap.get?_update_other _ _ (Ne.symm nb)).trans hb) ⟨_, qo⟩ ?_;refine ⟨?_, ((arrOf tt).map (·.2)).toList, e6, vv, by rw [Array.toArray_toList]; exact qo⟩;rw [vv.length, Array.length_toList]; exact nout
   have sm5 : aq H (upd H' q (.lst [])) := kp.write Hq0 hq;have sm6 : aq H (upd (upd H' q (.lst [])) a (.lst (prs.map (·.1)))) := ⟨fun b o eb n => by rw [ag (av eb Ha0)]; exact sm5.get b o eb n, fun b qs eb => by rw [ag (av eb Ha0)]; exact sm5.tbl b qs eb, fun t => (sm5.tabs t).G3 ha5 fun qn z => by
    have z2 := (I5.hok a _ ha5).1;rw [<- z] at z2;obtain ⟨c3, o3, vs3, t3, e3, g3, d3, _⟩ := z2;cases e3;rw [ho5] at g3;cases g3;cases d3⟩
   exact wpAny_pure (fin _ _ prs I6 sm6 Ha0 ax pp e)
  by_cases few : us.toArray.size < 2
  . rw [if_pos few, if_pos few];refine wpAny_bind (wpAny_pure ?_);dsimp only;rw [StateT.run_pure];refine wpAny_bind (wpAny_pure ?_);dsimp only;refine tail (SortSt.mk' general' (ks.toArray.zip us.toArray) #[] 7 none) (xs.zip ds) rfl (.refl _) ?_ ?_
    . have e1 : ((ks.toArray.zip us.toArray).map (·.2)).toList = us := by
       simp only [List.zip_toArray, List.map_toArray];exact List.map_snd_zip (by omega)
      have e2 : (xs.zip ds).map (·.1) = xs := List.map_fst_zip (by omega);rw [e2];show Vals xs ((ks.toArray.zip us.toArray).map (·.2)).toList;rw [e1]; exact vx
    . have e2 : (xs.zip ds).map (·.2) = ds := List.map_snd_zip (by omega);rw [e2];simp at few
      match ds, z1 with
      | [], _ => simp [g6]
      | [d], _ => simp [g6]
      | d :: d2 :: r, z => simp at z; omega
  . rw [if_neg few, if_neg few];have l2 : 2 <= us.length := by simp at few; omega
    have el : ∀ u ∈ ks, ∃ d, P d /\ Tells X.K H' ⟨Z.m, fun b => Z.S b /\ b ≠ q⟩ u d /\ A.units + d.dep < cLine := fun u hu => by
     obtain ⟨i, hi, e⟩ := List.mem_iff_getElem.mp hu;have hd : i < ds.length := by omega
     obtain ⟨v, ev, iv⟩ := jn'.get (i := i) (d := f ds[i]) (by simp [hd]);obtain ⟨u', eu, ru⟩ := rv.get ev;have e2 : u' = u := by
      have t := (List.getElem?_eq_some_iff.mp eu).2;rw [<- t]; exact e
     exact ⟨_, (hP _ (getElem_mem hd)).2.1, ⟨v, e2 ▸ ru, iv⟩, (hP _ (getElem_mem hd)).2.2⟩
    have kn0 : ks ≠ [] := fun z => by rw [z] at ll; simp only [List.length_nil] at ll; omega
    refine wpAny_bind (nO kn I' (fun u hu => let ⟨d, p1, p2, _⟩ := el u hu; ⟨d, p1, p2⟩) kn0 ?_);have hd0 : 0 < ds.length := by omega
    have esz : (ks.toArray.zip us.toArray).size = us.length := by simp; omega
    have elist : (ks.toArray.zip us.toArray).toList = ks.zip us := by simp
    refine wpAny_bind (wpAny_mono (su (κ := tK X.K H' ⟨Z.m, fun b => Z.S b /\ b ≠ q⟩ P L ⟨f ds[0], (hP _ (getElem_mem hd0)).2.1⟩) (kd := kd) (a0 := ks.toArray.zip us.toArray) (st := SortSt.mk' kd (ks.toArray.zip us.toArray) #[] 7 none)
     (Q := fun _ t => (arrOf t).Perm (ks.toArray.zip us.toArray) /\ failedOf t = none /\ SortedToK (tK X.K H' ⟨Z.m, fun b => Z.S b /\ b ≠ q⟩ P L ⟨f ds[0], (hP _ (getElem_mem hd0)).2.1⟩) (arrOf t) (ks.toArray.zip us.toArray).size)
     (oT kn L I' fun p hp => el p.1 (by rw [elist] at hp; exact (List.of_mem_zip hp).1)) (by rw [esz]; exact l2) (by rw [esz]; exact h64) ⟨Array.Perm.refl _, rfl, rfl, rfl⟩ fun t a1 a2 a3 => ⟨a1, a2, a3⟩) ?_ fun _ _ e => e)
    rintro ⟨⟨⟩, t⟩ s' ⟨rfl, pm, ok, up⟩;dsimp only;rw [<- elist] at pr;obtain ⟨prs, pp, vv, pw⟩ := kG I' L pr (fun z hz => (hP _ (List.of_mem_zip hz).2).2.1) pm up;refine tail t prs ok pp vv (g8 L (f := f) (fun d hd => (hP d hd).2.1) inj ?_ pw);have e2 : (xs.zip ds).map (·.2) = ds := List.map_snd_zip (by omega);have pp2 := pp.map (·.2);rw [e2] at pp2;exact pp2
end
theorem wt {pos : Pos} {a b : Int} {c cv : Value} (l : HW) (h : TriplesOk l) (e : codeAmong pos (l ++ [rawInt a, rawInt b, c]) = some cv) : codeAmong pos l = some cv \/ cv = c := by
 fun_induction TriplesOk l with
 | case1 =>
  simp only [List.nil_append, codeAmong, rawInt] at e;split at e
  . exact .inr (Option.some.inj e).symm
  . cases e
 | case2 a' t b' u x rest ih =>
  simp only [cons_append, codeAmong] at e ⊢;split at e
  . rename_i hc; rw [if_pos hc]; exact .inl e
  . rename_i hc; rw [if_neg hc]; exact ih h e
 | case3 l h1 h2 => exact h.elim
section
variable {X : Cx} {pins : HZ} {σ : St} {H : Hp} {s : Shared} {P c f : Addr} {ps more : HX} {h' : Heap} {t' : Nat}
theorem AD (I : Inv X pins σ H s) (hP : H P = some (.tbl ps)) (k : ∀ b o, b ≠ P -> s.heap.get? b = some o -> h'.get? b = some o) (htb : h'.get? P = some { cls := .none, data := .fields (ps ++ more) }) {u v : HO} (hc : s.heap.objs.size <= c) (hf : s.heap.objs.size <= f) (cf : c ≠ f)
 (oc : bB X.prog X.w (upd (upd (upd H P (.tbl (ps ++ more))) c u) f v) h' c u) (of : bB X.prog X.w (upd (upd (upd H P (.tbl (ps ++ more))) c u) f v) h' f v) :
 Inv X pins σ (upd (upd (upd H P (.tbl (ps ++ more))) c u) f v) { s with heap := h', toks := t' } := by
 have Hc : H c = none := I.hok.fresh hc;have Hf : H f = none := I.hok.fresh hf;have Pc : P ≠ c := av hP Hc;have Pf : P ≠ f := av hP Hf;have get : ∀ {b : Addr} {o : HO}, H b = some o -> b ≠ P -> upd (upd (upd H P (.tbl (ps ++ more))) c u) f v b = some o := fun {b o} e n => by
  rw [ag (av e Hf), ag (av e Hc), ag n]; exact e
 have getP : upd (upd (upd H P (.tbl (ps ++ more))) c u) f v P = some (.tbl (ps ++ more)) := by rw [ag Pf, ag Pc, ax]
 refine I.un ⟨fun b o e n hb _ => ?_, fun b o e n hb _ => ?_, fun b o e n _ => ?_, fun b o e _ => ?_, fun b xs e => ?_, fun b o u' e => ?_, fun b qs e => ?_⟩ fun b o e => ?_
 . exact k b o (fun z => by rw [z, hP] at n; cases n) e
 . exact ⟨o.slots, k b o (fun z => by rw [z, hP] at n; cases n) e⟩
 . have lb := lt_size e;have n1 : b ≠ P := fun z => by rw [z, hP] at n; cases n
   rw [ag (Nat.ne_of_lt (Nat.lt_of_lt_of_le lb hf)), ag (Nat.ne_of_lt (Nat.lt_of_lt_of_le lb hc)), ag n1]; exact n
 . by_cases z : b = P
   . exact ⟨_, by rw [z]; exact htb⟩
   . exact ⟨o, k b o z e⟩
 . exact get e (dB e hP (by intro z; cases z))
 . exact get e (dB e hP (by intro z; cases z))
 . by_cases z : b = P
   . rw [z, hP] at e;cases e;exact ⟨more, by rw [z]; exact getP⟩
   . exact ⟨#[], by rw [get e z]; simp⟩
 . by_cases z1 : b = f
   . subst z1; rw [ax] at e; cases e; exact of
   . rw [ag z1] at e;by_cases z2 : b = c
     . subst z2; rw [ax] at e; cases e; exact oc
     . rw [ag z2] at e;by_cases z3 : b = P
       . subst z3; rw [ax] at e; cases e; exact htb
       . rw [ag z3] at e;refine (I.hok b o e).lT (fun b' v' hb' q => k b' v' ?_ q) (fun b' q => get q (dB q hP (by intro z; cases z))) fun b' xs q => get q (dB q hP (by intro z; cases z));rcases hb' with z | z
         . rw [z]; exact z3
         . exact dB z hP (by intro z; cases z)
theorem xr {qn : Str} {pos : Pos} {v : HO} (t : TabsOk H) (hT : (P, qn) ∈ b0.T) (one : ∀ q ∈ b0.T, q.1 = P -> q.2 = qn) (hP : H P = some (.tbl ps)) (hn : codeAmong pos ps.toList = none) (Hc : H c = none) (Hf : H f = none) (cf : c ≠ f) :
 TabsOk (upd (upd (upd H P (.tbl (ps ++ #[rawInt pos.line, rawInt pos.col, .ref c]))) c (lN c qn)) f v) := fun Q hQ => by
 obtain ⟨qs, e, tr, kq⟩ := t Q hQ;have ne : ∀ {b : Addr} {o : HO}, H b = some o -> b ≠ P -> upd (upd (upd H P (.tbl (ps ++ #[rawInt pos.line, rawInt pos.col, .ref c]))) c (lN c qn)) f v b = some o := fun {b o} e n => by
  rw [ag (av e Hf), ag (av e Hc), ag n]; exact e
 by_cases z : Q.1 = P
 . have qe := one Q hQ z;rw [z, hP] at e;cases e;refine ⟨ps ++ #[rawInt pos.line, rawInt pos.col, .ref c], by rw [z, ag (av hP Hf), ag (av hP Hc), ax], ?_, fun pos' cv q => ?_⟩
   . rw [Array.toList_append]; exact TriplesOk_snoc _ _ _ _ tr
   . rw [Array.toList_append] at q;rcases wt _ tr q with q | q
     . obtain ⟨c', rfl, hc'⟩ := kq pos' cv q;exact ⟨c', rfl, ne hc' (dB hc' hP (by intro z; cases z))⟩
     . exact ⟨c, q, by rw [ag cf, ax, qe]⟩
 . refine ⟨qs, ne e z, tr, fun pos' cv q => ?_⟩;obtain ⟨c', rfl, hc'⟩ := kq pos' cv q;exact ⟨c', rfl, ne hc' (dB hc' hP (by intro z; cases z))⟩
def Cj (mg : HV) (base : Heap) : Prop := ∃ bm o, mg "__builtins__" = some (.ref bm) /\ base.get? bm = some o /\ bm ≠ builtinsNs /\ bm ≠ mainGlobals /\ o.cls = .type "module" /\ o.dict = some builtinsNs /\ o.data = .plain
structure qM (X : Cx) (c P : Addr) (qn : Str) : Prop where
 code : X.env.code = .ref c
 hd : codeHdIn X.K c P = true
 tab : (P, qn) ∈ b0.T
 one : ∀ q ∈ b0.T, q.1 = P -> q.2 = qn
 qual : X.env.qual ++ ("<lambda>" : Str) = qn
 bm : Cj X.mg X.base
 gP : mainGlobals ≠ P
variable {A : Around} {E : HR} {params : Arguments} {body : Expr} {scope : Scope} {lpos : Pos} {clos : List (Str × Addr)} {qn : Str}
abbrev tO (f : Addr) (qn : Str) (params : Arguments) (body : Expr) (scope : Scope) (clos : List (Str × Addr)) (pm : Value) (c : Addr) (ctv : Value) : HO := .ext fun h => h.get? f = some (kla_obj "<lambda>" qn params body scope clos pm c ctv)
theorem rO (LC : qM X c P qn) (I : Inv X pins σ H s) (t : TabsOk H) (hdef : defaultsOf params X.env = ([], [])) (hcl : closureFor scope X.env = pure clos) {Q : HR}
 (h : ∀ f c' pm ctv H' s', Inv X pins σ H' s' -> aq H H' -> H f = none -> H' f = some (tO f qn params body scope clos pm c' ctv) -> H' c' = some (lN c' qn) -> Q (.ref f) s') :
 wpAny (model X.prog X.w) A (eval (.Lambda params body scope lpos) X.env) Q E s := by
 obtain ⟨ps, hP, tr, kq⟩ := t _ LC.tab;dsimp only at hP kq;have hPo : s.heap.get? P = some { cls := .none, data := .fields ps } := I.hok P _ hP;have hg : s.heap.Ns mainGlobals X.mg := I.ok.mod.glob.keeps I.bk;have C : PySem.W.CodeHd s.heap c P := PySem.W.codeHd_of_K I.Be LC.hd;obtain ⟨bm, ob, b1, b2, b3, b4, b6, b7, b8⟩ := LC.bm;have b5 : bm ≠ P := fun z => by
  have e := I.bk _ _ b2;rw [z, hPo] at e;cases e;cases b6
 have hB : s.heap.BuiltinsAt X.mg P := ⟨bm, ob, b1, b3, b4, b5, I.bk _ _ b2, b6, b7, b8⟩
 refine PySem.W.kla_eval hdef ?_;rw [LC.qual]
 cases hq : codeAmong lpos ps.toList with
 | none =>
  refine PySem.W.kla_makeFunction hcl I.ok.glob hg LC.code C hPo tr hq LC.gP hB fun c' ctv h' tk hx hge hlt hrec htb => ?_;have hle : s.heap.objs.size <= h'.objs.size := Nat.le_trans hge (Nat.le_of_lt hlt);have cf : c' ≠ h'.objs.size := Nat.ne_of_lt hlt;have Hc : H c' = none := I.hok.fresh hge;have Hf : H h'.objs.size = none := I.hok.fresh hle;have Pc : P ≠ c' := av hP Hc;have Pf : P ≠ h'.objs.size := av hP Hf;obtain ⟨c2, oc, vs, tq, e2, hoc, hdc⟩ := id hrec;cases e2;have I2 := AD (t' := tk) (u := lN c' qn) (v := tO h'.objs.size qn params body scope clos ((X.mg "__name__").getD .none) c' ctv) (h' := h'.push (kla_obj "<lambda>" qn params body scope clos ((X.mg "__name__").getD .none) c' ctv)) (f := h'.objs.size) I hP
   (fun b o nb e => get?_push_of_some _ (hx b o nb e)) (get?_push_of_some _ htb) hge hle cf
   ⟨hrec.push _, ⟨_, get?_push_of_some _ hoc⟩, fun g1 g2 z k => by
    obtain ⟨c3, o3, vs3, t3, e3, h3, r3⟩ := z;cases e3;exact ⟨c', o3, vs3, t3, rfl, k _ h3, r3⟩⟩
   ⟨get?_push_size _ rfl, ⟨_, get?_push_size _ rfl⟩, fun g1 g2 z k => k _ z⟩
  refine h h'.objs.size c' _ ctv _ _ I2 ⟨fun b o e n => ?_, fun b qs e => ?_, fun t => xr t LC.tab LC.one hP hq Hc Hf cf⟩ Hf ax (by rw [ag cf, ax])
  . have nP : b ≠ P := fun z => by rw [z, hP] at e; cases e; cases n
    rw [ag (av e Hf), ag (av e Hc), ag nP]; exact e
  . by_cases z : b = P
    . exact ⟨_, by rw [z, ag Pf, ag Pc, ax]⟩
    . exact ⟨qs, by rw [ag (av e Hf), ag (av e Hc), ag z]; exact e⟩
 | some cv =>
  obtain ⟨c', rfl, hc'⟩ := kq lpos cv hq;refine PySem.W.kla_makeFunctionHit hcl I.ok.glob hg LC.code C hPo tr hq hB fun ctv h' tk hk hsz => ?_;have Hf : H h'.objs.size = none := I.hok.fresh hsz;have I2 : Inv X pins σ (upd H h'.objs.size (tO h'.objs.size qn params body scope clos ((X.mg "__name__").getD .none) c' ctv)) { s with heap := h'.push (kla_obj "<lambda>" qn params body scope clos ((X.mg "__name__").getD .none) c' ctv), toks := tk } :=
   I.laid (fun b o e => get?_push_of_some _ (hk b o e)) hsz ⟨get?_push_size _ rfl, ⟨_, get?_push_size _ rfl⟩, fun g1 g2 z k => k _ z⟩
  exact h h'.objs.size c' _ ctv _ _ I2 (az Hf) Hf ax ((az Hf).at hc')
end
def dN (X : Cx) (A : Around) (N : Ie) (qn : Str) (scope : Scope) (clos : List (Str × Addr)) (f c : Addr) (s : Shared) (H : Hp) (R : Ic) : Cx where
 prog := X.prog
 w := X.w
 K := X.K
 mg := X.mg
 base := X.base
 A := A.deeper (envX qn scope s.heap.objs.size f (.ref c) clos)
 N := N
 s₀ := s
 H₀ := H
 env := envX qn scope s.heap.objs.size f (.ref c) clos
 outer := X.stack
 stack := envX qn scope s.heap.objs.size f (.ref c) clos :: X.stack
 ex := []
 calm := true
 fn := fun _ => false
 pn := []
 xe := fun e s' => wpAny (model X.prog X.w) (A.deeper (envX qn scope s.heap.objs.size f (.ref c) clos)) (leaving (envX qn scope s.heap.objs.size f (.ref c) clos) e) (fun _ s'' => R (.error e) s'') (fun e' s'' => R (.error e') s'') s'
structure rU (X : Cx) (scope : Scope) (clos : List (Str × Addr)) (p : Str) (caps : List (Str × Nat)) : Prop where
 kind : scope.kind = .function
 co : scope.isCoroutine = false
 gen : scope.isGenerator = false
 nocell : ∀ x ∈ scope.names, x.2 ≠ .cell
 par : scope.names.lookup p = some .local
 cap : ∀ q ∈ caps, X.N[q.2]? = some q.1 /\ X.env.kindOf q.1 = some .cell /\ clos.lookup q.1 = X.env.cells.lookup q.1 /\ scope.names.lookup q.1 = some .free
 sub : ∀ x c, clos.lookup x = some c -> X.env.cells.lookup x = some c
 has : ∀ x, scope.names.lookup x = some .free -> ∃ c, clos.lookup x = some c
section
variable {X : Cx} {pins : HZ} {σ : St} {H : Hp} {s : Shared} {f c : Addr} {A : Around} {scope : Scope} {clos : List (Str × Addr)} {p qn : Str} {caps : List (Str × Nat)}
theorem pG (I : Inv X pins σ H s) (L : rU X scope clos p caps) (hd : A.handled = none) (e0 : lQ X.prog X.w X.K X.mg X.base A X.stack s H) {u : Value} {v : V} (r : RelV v u) {h1 : Heap} {tk : Nat} {R : Ic}
 (hns : h1.Ns s.heap.objs.size fun x => [(p, u)].reverse.lookup x) (hk : ∀ b o, s.heap.get? b = some o -> h1.get? b = some o) :
 Inv (dN X A (p :: caps.map (·.1)) qn scope clos f c s H R) [] ([some v] ++ bF (caps.map (·.2)) σ) H { s with heap := h1, toks := tk } := by
 have noA : ∀ b : Addr, b ∉ (dN X A (p :: caps.map (·.1)) qn scope clos f c s H R).ex := fun b z => absurd (show b ∈ ([] : List Addr) from z) (by simp);refine ⟨⟨e0.mod, L.kind, rfl, rfl, Nat.le_refl _, fun y z c' h1 h2 => ?_, fun y hy => ?_, fun y c' z _ => ?_, fun _ => hd, Around.frames_deeper e0.frames, .inr ⟨rfl, rfl⟩, fun b z => absurd z (noA b), e0.bs, e0.bsz, fun b _ _ => noA b, fun b z => absurd z (noA b), e0.fJ, e0.frf⟩,
  rfl, e0.bare, Un.kept hk, ⟨_, hns, fun i y v' h1 h2 h3 => ?_⟩, fun y c' h => ?_, e0.hok.fresh (Nat.le_refl _), fun y c' h => ?_, fun p hp => absurd (show p ∈ ([] : HZ) from hp) (by simp), e0.hok.kept hk, ?_⟩
 . exact I.ok.inj y z c' (L.sub y c' h1) (L.sub z c' h2)
 . have hy : scope.names.lookup y = some .cell \/ scope.names.lookup y = some .free := hy;rcases hy with hy | hy
   . exact absurd rfl (L.nocell _ (PySem.mem_of_lookup hy))
   . exact L.has y hy
 . exact absurd (show false = true from z) (by simp)
 . cases i with
   | zero =>
    have e1 : p = y := by simpa [dN] using h1
    have e2 : v = v' := by simpa using h2
    subst e1 e2;exact ⟨u, r, .inl ⟨L.par, by simp⟩⟩
   | succ i =>
    have e1 : (caps.map (·.1))[i]? = some y := by simpa [dN] using h1
    have e2 : (bF (caps.map (·.2)) σ)[i]? = some (some v') := by simpa using h2
    rw [getElem?_map] at e1
    cases eq : caps[i]? with
    | none => rw [eq] at e1; cases e1
    | some q =>
     rw [eq] at e1;have e3 : q.1 = y := by simpa using e1
     subst e3;obtain ⟨c1, c2, c3, c4⟩ := L.cap q (mem_of_getElem? eq);unfold bF at e2;rw [getElem?_map, getElem?_map, eq] at e2;have e4 : (σ[q.2]?).join = some v' := by simpa using e2
     have e5 : σ[q.2]? = some (some v') := by
      cases z : σ[q.2]? with
      | none => rw [z] at e4; cases e4
      | some w => rw [z] at e4; exact congrArg some e4
     obtain ⟨m0, hn0, hl0⟩ := I.loc;obtain ⟨u', r', lk⟩ := hl0 q.2 q.1 v' c1 e5 (.inr (.inl c2));refine ⟨u', r', .inr ⟨.inr c4, ?_⟩⟩;rcases lk with ⟨k1, _⟩ | ⟨_, c', lc, o, ho, hdo⟩
     . rw [c2] at k1; cases k1
     . exact ⟨c', c3.trans lc, o, hk _ _ ho, hdo⟩
 . obtain ⟨v, o, ho, hd⟩ := I.cell y c' (L.sub y c' h);exact ⟨v, o, hk _ _ ho, hd⟩
 . exact I.freeC y c' (L.sub y c' h)
 . simp [bF, dN]
def Cp (K : Frag) (σ : St) (ρ : List (Option D)) (f c : Addr) (qn : Str) (params : Arguments) (body : Expr) (scope : Scope) (clos : List (Str × Addr)) (pm ctv : Value) (H : Hp) (Z : aA) : Prop :=
 H f = some (tO f qn params body scope clos pm c ctv) /\ H c = some (lN c qn) /\ bM K H Z σ ρ
variable {ρ : List (Option D)} {params : Arguments} {body : Expr} {pm ctv : Value} {g : D -> D} {P0 : D -> Prop} {m : Bool}
theorem zB (L : rU X scope clos p caps) (hd : A.handled = none) (hA : A.frames = X.A.frames) (hroom : A.depth < recursionLimit)
 (hb : ∀ u, bindArgs (PySem.W.kla_fn "<lambda>" qn params body scope clos pm (.ref c) ctv) ⟨[u], []⟩ = pure [(p, u)])
 (hbody : ∀ (s : Shared) (H : Hp) (R : Ic) (d : D), P0 d -> E (dN X A (p :: caps.map (·.1)) qn scope clos f c s H R) m ([some d] ++ dh (caps.map (·.2)) ρ) body (g d)) :
 sU X A σ f g P0 (Cp X.K σ ρ f c qn params body scope clos pm ctv) where
 zone := fun {H Z Z'} hS hm ⟨a, b, en⟩ => ⟨a, b, fun i d e => let ⟨v, x, y⟩ := en i d e; ⟨v, x, y.carry (.of (aq.refl H) (fun a xs e z => hS a _ e z) hm)⟩⟩
 same := fun {H H' Z} sm ⟨a, b, en⟩ => ⟨sm.at a, sm.at b, en.same sm⟩
 write := fun {H Z l xs ys} hl n ⟨a, b, en⟩ => ⟨by rw [ag (dB a hl (by intro z; cases z))]; exact a, by rw [ag (dB b hl (by intro z; cases z))]; exact b, fun i d e => let ⟨v, x, y⟩ := en i d e; ⟨v, x, y.carry (.write hl n)⟩⟩
 run := fun E' pins s H Z u d Q I oz ⟨ga, gb, en⟩ ⟨v, r, iv⟩ p0 k => by
  have hfo : s.heap.get? f = some (kla_obj "<lambda>" qn params body scope clos pm c ctv) := (I.hok f _ ga).1;have hrec : s.heap.CodeRec (.ref c) qn := (I.hok c _ gb).1;have e0 : lQ X.prog X.w X.K X.mg X.base A X.stack s H := ⟨hA.trans I.fb.frames, I.fb.mod, I.fb.bs, I.fb.bsz, I.fb.fJ, I.fb.frf, I.fb.hok, I.fb.bare⟩
  refine wpAny_call (PySem.W.kla_callFunE hroom hfo rfl L.co L.gen rfl hrec ?_);rw [hb u];refine wpAny_pure (wpAny_newFunctionEnv L.nocell (fun x hx => ?_) (fun h1 hns hsb => ⟨I.nolimit.fresh _ hsb, ?_⟩) L.kind)
  . have : x = (p, u) := by simpa using hx
    rw [this]; exact L.par
  . show codeAny _ _ (.expr body (envX qn scope s.heap.objs.size f (.ref c) clos)) _ _;have hk1 : ∀ b o, s.heap.get? b = some o -> h1.get? b = some o := fun b o e => hsb.extBut b o (Nat.ne_of_lt (lt_size e)) (get?_push_of_some _ e);refine PySem.W.kla_codeExpr ?_;have J := pG (f := f) (c := c) (qn := qn) (R := fun r s' => match r with | .ok (.ret v) => Q v s' | .ok _ => False | .error e => E' e s') (tk := s.toks + 1) I L hd e0 r hns hk1;have en2 : bM X.K H Z ([some v] ++ bF (caps.map (·.2)) σ) ([some d] ++ dh (caps.map (·.2)) ρ) := gI en rfl fun i d' e => by
     match i, e with
     | 0, e => cases e; exact ⟨v, rfl, iv⟩
    have run := hbody s H (fun r s' => match r with | .ok (.ret v) => Q v s' | .ok _ => False | .error e => E' e s') d p0 [] _ _ H (fun v' H' => aq H H' /\ In X.K H' (out m Z H) (g d) v') J ⟨Z, oz, en2, fun v' H' sm i => ⟨sm, i⟩⟩;refine wpAny_mono run (fun w s' ⟨v', H', J', rw', sm, iw⟩ => ?_) fun _ _ z => z;obtain ⟨v2, H2, I2, r2, sm2, iw2⟩ := I.after (Q := fun v' H' => aq H H' /\ In X.K H' (out m Z H) (g d) v') (u := w) (s' := s') ⟨v', H', J'.os, J'.bare, J'.base, J'.hok, rw', sm, iw⟩;exact k w H2 s' I2 sm2 ⟨v2, r2, iw2.plain oz⟩
end
theorem oA (a f : Value) : argsOk "sorted" ⟨[a], [(("key" : Str), f)]⟩ := by unfold argsOk; kernel_rfl
theorem ui (a f : Value) : argsOk "list.sort" ⟨[a], [(("key" : Str), f)]⟩ := by unfold argsOk; kernel_rfl
section
variable {X : Cx} {ρ : List (Option D)} {m m1 mb : Bool} {a : Expr} {ds : List D} {p pos lpos kp : Pos} {P P0 : D -> Prop} {kd : SortKind} {c Pt : Addr} {qn pn : Str} {params : Arguments} {body : Expr} {scope : Scope} {clos : List (Str × Addr)} {caps : List (Str × Nat)} {g : D -> D}
theorem vT (ha : E X m1 ρ a (.lst ds)) (LC : qM X c Pt qn) (LO : rU X scope clos pn caps) (hcl : closureFor scope X.env = pure clos)
 (hbody : ∀ (f c' : Addr) (s : Shared) (H : Hp) (R : Ic) (d : D), P0 d -> E (dN X X.A.in1.in1 (pn :: caps.map (·.1)) qn scope clos f c' s H R) mb ([some d] ++ dh (caps.map (·.2)) ρ) body (g d))
 (hb : ∀ (c' : Addr) (pm ctv u : Value), bindArgs (PySem.W.kla_fn "<lambda>" qn params body scope clos pm (.ref c') ctv) ⟨[u], []⟩ = pure [(pn, u)])
 (L : gk P) (kk : cL P kd) (hP : ∀ d ∈ ds, P0 d /\ P (g d) /\ X.A.units + 2 + (g d).dep < cLine) (inj : ∀ x ∈ ds, ∀ y ∈ ds, g x = g y -> x = y) (h64 : ds.length < 64) (hh : X.A.handled = none) (hroom : X.A.depth < recursionLimit) (hm : X.mg "sorted" = none)
 (hmm : m = true -> m1 = true \/ aV ds = true := by intro h; first | exact .inl h | cases h) (hdef : defaultsOf params X.env = ([], []) := by rfl)
 (hg : Gl X "sorted" := by rfl) (hs : starEach [a] X.env = [(false, eval a X.env)] := by rfl) : E X m ρ (.Call (.Name "sorted" p) [a] [⟨some "key", .Lambda params body scope lpos, kp⟩] pos) (.lst (g6 g ds)) := by
 intro pins s σ H Q I ⟨Z, oz, en, k⟩;refine wpAny_Call_Name_kw (fh I hg hm boot_sorted ?_ (by decide) (by decide));have PAa := aM ha bh (by rw [hs]; rfl);refine callWith_kw (ck (PAa pos pins s σ H (fun vs H1 => aq H H1 /\ ∃ x, vs = [x] /\ In X.K H1 (out m1 Z H) (.lst ds) x) I ⟨Z, oz, en, fun x H1 s1 i1 => ⟨s1, x, rfl, i1⟩⟩) fun us s1 ⟨vs, H1, I1, r1, sm1, x, e, i1⟩ => ?_) (by rw [hs]; rfl) (by rw [hs]; rfl) rfl rfl;subst e;obtain ⟨l, xs, rfl, at', j⟩ := ar.mp i1;obtain ⟨u, rfl, rx⟩ := vals1 r1;cases rx;refine kws_cons (rO LC I1 (sm1.tabs oz.tb) hdef hcl fun f c' pm ctv H2 s2 I2 sm2 Hf hf hc' => ?_);refine kws_nil ?_;show wpAny _ _ (call (.builtin "sorted") [.ref l] [(("key" : Str), .ref f)]) _ _ _;have sm12 := sm1.trans sm2;obtain ⟨its, rv, pl, hz⟩ := I2.list (sm2.seq at'.sq);have z1 := j.length; have z2 := rv.length;refine call_function_entry_kw kind_sorted plain_sorted entry_sorted (oA _ _) ?_;unfold Builtin.«sorted»;refine wpAny_bind (m := checkCount "sorted" 1 1 _) (wpAny_pure ?_);refine wpAny_bind (collect_list pl.isList ?_ (by omega));refine wpAny_bind (wpAny_newList ?_);have hsz : ((s2.heap.push (seqObj "list" #[] 0)).update s2.heap.objs.size (Obj.mapSeq (· ++ its.toArray))).objs.size = s2.heap.objs.size + 1 := by
  rw [Heap.size_update, size_push']
 have hoL : (((s2.heap.push (seqObj "list" #[] 0)).update s2.heap.objs.size (Obj.mapSeq (· ++ its.toArray))).push (seqObj "list" its.toArray 0)).get? (s2.heap.objs.size + 1) = some (seqObj "list" its.toArray 0) := by
  rw [<- hsz]; exact get?_push_size _ rfl
 have kp : ∀ b o, s2.heap.get? b = some o -> (((s2.heap.push (seqObj "list" #[] 0)).update s2.heap.objs.size (Obj.mapSeq (· ++ its.toArray))).push (seqObj "list" its.toArray 0)).get? b = some o := fun b o e => by
  have lb := lt_size e;rw [Heap.get?_push_ne _ _ _ (by rw [hsz]; exact Nat.ne_of_lt (Nat.lt_succ_of_lt lb)), Heap.get?_update_ne _ _ _ _ (Nat.ne_of_lt lb), Heap.get?_push_ne _ _ _ (Nat.ne_of_lt lb)];exact e
 show wpAny _ _ _ _ _ { s2 with heap := ((s2.heap.push (seqObj "list" #[] 0)).update s2.heap.objs.size (Obj.mapSeq (· ++ its.toArray))).push (seqObj "list" its.toArray 0), toks := s2.toks };rw [hsz];have KK : sU X X.A.in1.in1 σ f g P0 (Cp X.K σ ρ f c' qn params body scope clos pm ctv) := zB LO hh rfl hroom (hb c' pm ctv) (hbody f c');have jz : aH X.K H2 Z ds xs := by
  have j2 := j.same sm2;cases m1
  . exact j2
  . exact j2.up oz
 refine wpAny_bind (wpAny_holding (wpAny_call_entry_kw slot_list_sort ⟨_, hoL, rfl⟩ entry_list_sort (xU (s := s2) (t1 := s2.toks) KK L kk (fun d hd => hP d hd) inj I2 (oz.same sm12) ⟨hf, hc', en.same sm12⟩ jz rv (by omega) kp (Nat.le_succ _) hoL fun H3 s3 prs I3 sm3 Ha hl3 pp e3 => ⟨_, rfl, ?_⟩) (ui _ _)));refine wpAny_pure ⟨_, rfl, .ref (s2.heap.objs.size + 1), H3, I3, rfl, k _ H3 (sm12.trans sm3) (ar.mpr ⟨_, _, rfl, .inl ⟨hl3, ?_⟩, ?_⟩)⟩
 . cases m
   . exact oz.op _ (sm12.free Ha)
   . exact sm12.free Ha
 . have j0 := eK fun z hz => jJ j z (pp.mem_iff.mp hz);rw [e3] at j0;have jc := (j0.same sm2).same sm3;cases m
   . cases m1
     . exact jc
     . exact jc.up oz
   . rcases hmm rfl with h | h
     . subst h; exact jc
     . exact jc.df (lD (fe _ _) h)
end
end Y
namespace Y
open PySem PySem.Spec PyProof.Rows L2
variable [b0]
theorem DN {k : Nat} {A : Around} {ds : List D} (r : bt k A) (h : bH ds <= 100) : A.units + 1 + bH ds < cLine := by have := r.un; omega
theorem CU {k : Nat} {A : Around} (r : bt k A) : A.units + 1 < cLine := by have := r.un; omega
def Hk : D -> Option V
 | .int i => some (.int i)
 | .bl b => some (.bl b)
 | .str x => some (.str x)
 | .non => some .non
 | _ => none
section
variable {K : Frag} {H : Hp} {Z Z' : aA}
theorem yk {k : Key} {v : V} (h : In K H Z (kD k) v) : v = kV k := by
 cases k with
 | inl i => exact au.mp h
 | inr x => exact in_str.mp h
theorem sT : ∀ {ks : List Key} {vs : List V}, aH K H Z (ks.map kD) vs -> vs = ks.map kV
 | [], _, h => aD.mp h
 | k :: ks, _, h => by
  obtain ⟨v, r, rfl, a, j⟩ := ao.mp h;rw [yk a, sT j]; rfl
theorem Fp {d : D} {v w : V} (h : In K H Z d v) (e : Hk d = some w) : v = w := by
 cases d with
 | non => cases e; exact bg.mp h
 | bl b => cases e; exact aS.mp h
 | int b => cases e; exact au.mp h
 | str b => cases e; exact in_str.mp h
 | lst b => cases e
 | tup b => cases e
 | dct b => cases e
 | ktup b => cases e
def DO.at (o : DO) (d : D) (r : Option V) : Prop := match o with
 | .k kvs => ∃ k, d = kD k /\ r = dq kvs k
 | .t kvs => ∃ ks, d = .tup (ks.map kD) /\ r = dq kvs ks
def DO.put (o : DO) (d : D) (v : V) (o' : DO) : Prop := match o with
 | .k kvs => ∃ k, d = kD k /\ kvs.length < sizeLine /\ o' = .k (putK kvs k v)
 | .t kvs => ∃ ks, d = .tup (ks.map kD) /\ kvs.length < sizeLine /\ o' = .t (putK kvs ks v)
theorem DO.Gx {kvs : List (List Key × V)} {k : List Key} {d : D} {r : Option V} (h : d = .tup (k.map kD)) (hr : r = dq kvs k) : (DO.t kvs).at d r := ⟨k, h, hr⟩
theorem DO.EX {kvs : List (List Key × V)} {k : List Key} {d : D} {v : V} {o' : DO} (h : d = .tup (k.map kD)) (hl : kvs.length < sizeLine) (e : o' = .t (putK kvs k v)) : (DO.t kvs).put d v o' := ⟨k, h, hl, e⟩
theorem G1 {o : DO} {d : D} {r : Option V} {x y : V} (hx : In K H Z (.dct o) x) (hy : In K H Z' d y) (h : o.at d r) : ∃ a, x = .ref a /\ sO H a y r := by
 obtain ⟨a, rfl, e, _⟩ := bq.mp hx;refine ⟨a, rfl, ?_⟩
 cases o with
 | k kvs =>
  obtain ⟨k, rfl, rfl⟩ := h;rw [yk hy];exact .k e
 | t kvs =>
  obtain ⟨ks, rfl, rfl⟩ := h;obtain ⟨b, xs, rfl, eb, j⟩ := bO.mp hy;rw [sT j] at eb;exact .t e eb
theorem dput {o o' : DO} {d : D} {v y : V} {a : Addr} (e : H a = some o.ho) (hy : In K H Z' d y) (h : o.put d v o') : sV H a y v (upd H a o'.ho) := by
 cases o with
 | k kvs =>
  obtain ⟨k, rfl, hl, rfl⟩ := h;rw [yk hy];exact .k e hl
 | t kvs =>
  obtain ⟨ks, rfl, hl, rfl⟩ := h;obtain ⟨b, xs, rfl, eb, j⟩ := bO.mp hy;rw [sT j] at eb;exact .t e eb hl
end
section
variable {X : Cx} {ρ : List (Option D)} {m m1 m2 m3 : Bool} {a b c o e f : Expr} {d dk : D} {pos ap cp : Pos} {D0 : DO} {r : Option V}
theorem AM : E X true ρ (.Dict [] [] pos) (.dct (.t [])) := PE.mono zg fun σ H Q z0 => aO z0 fun Z oz en k => fun p hp => k (.ref p) _ (az hp) (bq.mpr ⟨p, rfl, ax, hp⟩)
theorem z5 (ha : E X m1 ρ a dk) (hb : E X m2 ρ b (.dct D0)) (hk : D0.at dk r) (hu : X.A.units + 1 < cLine) (hm : behindInMarks .NotIn b = false := by rfl) : T X ρ (.Compare a [.NotIn] [b] pos) (!r.isSome) :=
 PT.mono (Er (wy hu ha hb) hm) fun σ H Q z0 => aO z0 fun Z oz en k => ⟨Z, oz, en, fun y H1 s1 i1 => ⟨Z, oz.same s1, en.same s1, fun x H2 s2 i2 => by
  obtain ⟨a, rfl, g⟩ := G1 (i2.plain (oz.same s1)) ((i1.plain oz).same s2) hk;exact ⟨a, r, rfl, g, !r.isSome, rfl, k H2 (s1.trans s2)⟩⟩⟩
end
section
variable {X : Cx} {F : Fn} {ρ : cR} {Q : jv} {rest : List Stmt} {e key : Expr} {pos p sp : Pos} {m1 m2 : Bool}
theorem Ay (i : Nat) {x : Str} {o : DO} (he : E X true (view true false ρ) e (.dct o)) (hr : SD X F rest (ρ.set i (some (.od o))) Q) (hN : X.N.Nodup) (hi : X.N[i]? = some x := by rfl)
 (hx : Loc X.env.scope x := by first | exact Or.inl rfl | exact Or.inr rfl) (hρ : i < ρ.length := by exact of_decide_eq_true rfl) (hs : swapsWith e (some (.Name x p)) pos.line X.env = pure false := by rfl) (hf : X.fn x = true \/ X.env.scope.names.lookup x = some .local := by first | exact .inl rfl | exact .inr rfl) :
 SD X F (.Assign [.Name x p] e pos :: rest) ρ Q :=
 cH (PS.mono (lJ hN hi hx he hs hf) fun Q' σ H z0 => fc z0 fun hv hρ' A hl S f => ⟨_, aU S true false, S.env hl true false, fun v H1 s1 i1 => by
  obtain ⟨l, rfl, e1, e2⟩ := bq.mp i1;refine f.nx _ H1 ⟨_, bD A i [l], by simp [hl], ?_, rfl⟩;rw [<- bG (by omega), <- bG hρ];exact S.put (by rw [List.length_append]; omega) (by rw [List.length_append]; omega) s1 kC (fun a ha => by
   have : a = l := by simpa using ha
   subst this;exact ⟨e2, .d o, e1⟩) ⟨l, rfl, rfl, e1⟩⟩) hr
theorem aZ.od {K : Frag} {H : Hp} {σ hv : St} {hρ : cR} {A : Nat -> List Addr} {i : Nat} {o : DO} (S : aZ K F H (σ ++ hv) (ρ ++ hρ) A) (hl : σ.length = ρ.length) (h : ρ[i]? = some (some (.od o))) :
 ∃ l, σ[i]? = some (some (.ref l)) /\ A i = [l] /\ H l = some o.ho := by
 have hi : i < ρ.length := (List.getElem?_eq_some_iff.mp h).1;obtain ⟨v, a, l, e1, rfl, e2⟩ := S.at' i _ (by rw [getElem?_append_left hi]; exact h);rw [getElem?_append_left (by omega)] at a;exact ⟨l, a, e1, e2⟩
theorem D8 {K : Frag} {hv : St} {hρ : cR} {σ : St} {H : Hp} {A : Nat -> List Addr} {i : Nat} {l : Addr} {o o' : DO} (hl : σ.length = ρ.length) (S : aZ K F H (σ ++ hv) (ρ ++ hρ) A) (h : σ[i]? = some (some (.ref l))) (hA : A i = [l]) (hx : H l = some o.ho) :
 mr K F hv hρ (fun r => r = ρ.set i (some (.od o'))) σ (upd H l o'.ho) := by
 have hi : i < σ.length := (List.getElem?_eq_some_iff.mp h).1;refine ⟨_, bD A i [l], by simp [hl], ?_, rfl⟩;have key := S.re (i := i) (v := .ref l) (sl := .od o') (l := [l]) (H2 := upd H l o'.ho) (by rw [List.length_append]; omega) (by rw [List.length_append]; omega) (S.same.nZ (xs := .d o) (S.new i l (by rw [hA]; simp)) hx) (fun b u e _ hb => ?_) kC (fun a ha => ?_) ⟨l, rfl, rfl, ax⟩
 . rw [fj (by rw [getElem?_append_left hi]; exact h), bG (by omega)] at key;exact key
 . rw [hA] at hb;have : b ≠ l := by simpa using hb
   rw [ag this]; exact e
 . have : a = l := by simpa using ha
   subst this;exact ⟨.inl (by rw [hA]; simp), .d o', ax⟩
theorem B5 (i : Nat) {x : Str} {o o' : DO} {dk dv : D} {v : V} (h : ρ[i]? = some (some (.od o)) := by rfl) (hk : E X m1 (view true false ρ) key dk) (he : E X m2 (view true false ρ) e dv) (hv : Hk dv = some v) (hp : o.put dk v o') (hu : X.A.units + 1 < cLine)
 (hr : SD X F rest (ρ.set i (some (.od o'))) Q) (hN : X.N[i]? = some x := by rfl) (hvis : zw X.env.scope x := by first | exact Or.inl rfl | exact Or.inr (Or.inl rfl) | exact Or.inr (Or.inr rfl)) (hd : (x == ("__debug__" : Str)) = false := by decide) (hcd : (x == ("__classdict__" : Str)) = false := by decide)
 (hs : swapsWith e (some (.Subscript (.Name x p) key sp)) pos.line X.env = pure false := by rfl) : SD X F (.Assign [.Subscript (.Name x p) key sp] e pos :: rest) ρ Q := by
 refine cH (PS.mono (Bb hu (fv hN hvis hd hcd) hk he hs) fun Q' σ H ⟨hv', hρ, A, hl, S, f⟩ => ?_) hr;obtain ⟨l, e1, e2, e3⟩ := S.od hl h;refine ⟨_, aU S true false, S.env hl true false, fun w H1 s1 i1 => ?_⟩;refine ⟨.ref l, e1, _, (aU S true false).same s1, (S.env hl true false).same s1, fun y H2 s2 i2 => ?_⟩;have s12 := s1.trans s2;have hw := Fp i1 hv;subst hw;exact ⟨l, _, rfl, dput (s12.at e3 o.nt) i2 hp, f.nx _ _ (D8 hl (S.grow s12) e1 e2 (s12.at e3 o.nt))⟩
end
end Y
namespace Y
def bl (x : Nat) : Nat := if x = 0 then 0 else x.log2 + 1
end Y
namespace Y
open PySem PySem.Spec PyProof.Rows L2
variable [b0]
def sJ {α : Type} (z : α) (p : D -> D -> α) : D -> α
 | .tup [a, b] => p a b
 | _ => z
section
variable {X : Cx} {ρ : List (Option D)} {m m1 : Bool} {ds : List D} {pos : Pos}
def E2 (K : Frag) (js : Ih) (ρ : List (Option D)) (ds : List D) (p : D -> D -> Bool) (i : Nat) : TT := fun σ H Q => ∃ a b, ds[i]? = some (.tup [a, b]) /\ vR K ([some a, some b] ++ dh js ρ) (p a b) σ H Q
def Fo (K : Frag) (js : Ih) (ρ : List (Option D)) (ds : List D) (p : D -> D -> Bool) (f : D -> D -> D) (me : Bool) (i : Nat) : TE := fun σ H Q => ∃ a b, ds[i]? = some (.tup [a, b]) /\ p a b = true /\ tE K me ([some a, some b] ++ dh js ρ) (f a b) σ H Q
theorem jh {js : Ih} {me : Bool} (p : D -> D -> Bool) (f : D -> D -> D) (hpair : ∀ d ∈ ds, ∃ a b, d = .tup [a, b]) (hz : ds.length <= sizeLine) (hm : m = true -> me = true \/ ∀ d ∈ ds, (sJ .non f d).flat = true) (σ : St) (H : Hp) (Q : VK) (h : tE X.K m ρ (.lst ((ds.filter (sJ false p)).map (sJ .non f))) σ H Q) :
 vm (Gz X.K m1 ρ ds) 2 js (Cd X.K 2 (lC (dZ 0) (lC (dZ 1) A0))) (E2 X.K js ρ ds p) (Fo X.K js ρ ds p f me) σ H Q := by
 obtain ⟨Z, oz, en, k⟩ := h;refine ⟨Z, oz, en, fun J H1 vs cW s1 i1 Y l hl => ?_⟩;have hlH : H l = none := s1.free hl;have noL : ∀ {ds : List D} {vs : List V} {Z' : aA} {Ha Hb : Hp}, Ha l = none -> aq Ha Hb -> aH X.K Ha Z' ds vs -> aH X.K Hb ⟨Z'.m, fun a => Z'.S a /\ a ≠ l⟩ ds vs := fun {ds vs Z' Ha Hb} ha sa h => aH.carry (Z' := ⟨Z'.m, fun a => Z'.S a /\ a ≠ l⟩) (Carry.of sa (fun a zs e z => ⟨z, av e ha⟩) fun m => m) h;have noL1 : ∀ {d : D} {v : V} {Z' : aA} {Ha Hb : Hp}, Ha l = none -> aq Ha Hb -> In X.K Ha Z' d v -> In X.K Hb ⟨Z'.m, fun a => Z'.S a /\ a ≠ l⟩ d v := fun {d v Z' Ha Hb} ha sa h => In.carry (Z' := ⟨Z'.m, fun a => Z'.S a /\ a ≠ l⟩) (Carry.of sa (fun a zs e z => ⟨z, av e ha⟩) fun m => m) h;refine ⟨fun i n xs H' => n = ds.length - i /\ i <= ds.length /\ aq H1 H' /\ H' l = some (.lst xs) /\ xs.length <= i /\ aH X.K H' ⟨(out m Z H).m, fun a => (out m Z H).S a /\ a ≠ l⟩ (((ds.take i).filter (sJ false p)).map (sJ .non f)) xs, ⟨ds.length, by simp, Nat.zero_le _, az hl, ax, Nat.zero_le _, by simp; exact aD.mpr rfl⟩, ?_⟩;rintro i n xs H' ow how ⟨rfl, hi', s1', hl', hxi, jx⟩;refine ⟨hl', ?_⟩;have srcsZ : aH X.K H1 Z cW vs := by
  cases m1
  . exact i1
  . exact i1.up oz
 let Zl : aA := ⟨Z.m, fun a => Z.S a /\ a ≠ l⟩
 have opl : ∀ {Ha : Hp} {o : HO}, aq H Ha -> Ha l = some o -> Zl.Open Ha := fun sa e => ⟨fun a ha => ⟨oz.op a (sa.free ha), by rintro rfl; rw [e] at ha; cases ha⟩, sa.tabs oz.tb⟩
 by_cases hlt : i < ds.length
 . have hd0 : ds[i]? = some ds[i] := by simp [hlt]
   obtain ⟨da, db, hab⟩ := hpair ds[i] (getElem_mem hlt);have hd : ds[i]? = some (.tup [da, db]) := by rw [hd0, hab]
   obtain ⟨go, yl⟩ := Y.go Zl H' (opl (s1.trans s1') hl') (noL hl s1' srcsZ) i _ hd;refine .inr ⟨go, fun y H2 hy => ?_⟩;obtain ⟨s2, iy⟩ := yl y H2 hy;have hl2 : H2 l = some (.lst xs) := s2.at hl';have sH2 : aq H H2 := (s1.trans s1').trans s2;obtain ⟨w1, w2, rfl⟩ : ∃ w1 w2, ow = [w1, w2] := by
    match ow, how with
    | [w1, w2], _ => exact ⟨w1, w2, rfl⟩
   obtain ⟨ta, txs, rfl, tt, tj⟩ := aG iy;obtain ⟨v1, r1, rfl, iv1, tj1⟩ := ao.mp tj;obtain ⟨v2, r2, rfl, iv2, tj2⟩ := ao.mp tj1;cases aD.mp tj2;have en2 : bM X.K H2 Zl ([some v1, some v2] ++ bF js σ) ([some da, some db] ++ dh js ρ) := gI (fun i d e => let ⟨v, a, b⟩ := en i d e; ⟨v, a, noL1 hlH sH2 b⟩) rfl fun i d e => by
    match i, e with
    | 0, e => cases e; exact ⟨v1, rfl, iv1⟩
    | 1, e => cases e; exact ⟨v2, rfl, iv2⟩
   refine ⟨ta, _, rfl, tt, rfl, v1, _, rfl, v2, _, rfl, rfl, ⟨[some v1, some v2], rfl, rfl⟩, da, db, hd, Zl, opl sH2 hl2, en2, fun H3 s3 => ?_⟩;have hl3 : H3 l = some (.lst xs) := s3.at hl2;have st : (ds.take (i + 1)).filter (sJ false p) = (ds.take i).filter (sJ false p) ++ (if p da db then [D.tup [da, db]] else []) := take_succ_filter (sJ false p) ds i _ hd
   cases hp : p da db with
   | false =>
    refine lW ?_;refine ⟨ds.length - (i + 1), by omega, rfl, hlt, (s1'.trans s2).trans s3, hl3, by omega, ?_⟩;rw [st, hp];simp only [Bool.false_eq_true, if_false, append_nil];exact jx.same (s2.trans s3)
   | true =>
    refine lO ?_;refine ⟨da, db, hd, hp, Zl, opl (sH2.trans s3) hl3, en2.same s3, fun v H4 s4 iv => ?_⟩;have hl4 : H4 l = some (.lst xs) := s4.at hl3;refine ⟨hl4, by omega, ds.length - (i + 1), by omega, rfl, hlt, ((s1'.trans s2).trans (s3.trans s4)).write hl hl4, ax, by rw [List.length_append]; simp; omega, ?_⟩
    . rw [st, hp];simp only [if_true, map_append, map_cons, map_nil];have n : ¬ (⟨(out m Z H).m, fun a => (out m Z H).S a /\ a ≠ l⟩ : aA).S l := fun z => z.2 rfl;refine aH.append ((jx.same (s2.trans (s3.trans s4))).carry (.write hl4 n)) (aH.one ?_);refine In.carry (.write hl4 n) ?_;show In X.K H4 _ (f da db) v
      cases m with
      | false => exact iv.plain (opl (sH2.trans s3) hl3)
      | true =>
       rcases hm rfl with h | h
       . subst h;exact In.carry (Z := nw H3) (Z' := ⟨true, fun a => H a = none /\ a ≠ l⟩) ⟨fun a zs e z => ⟨e, (sH2.trans s3).free z, by rintro rfl; have z : H3 a = none := z; rw [hl3] at z; cases z⟩, fun m => FC m, fun _ _ e => e⟩ iv
       . have := h _ (mem_of_getElem? hd);exact iv.df this
 . have e : i = ds.length := by omega
   subst e;refine .inl ⟨Y.stop Zl H' (opl (s1.trans s1') hl') (noL hl s1' srcsZ), k (.ref l) H' (s1.trans s1') (ar.mpr ⟨l, xs, rfl, .inl ⟨hl', ?_⟩, ?_⟩)⟩
   . cases m
     . exact oz l hlH
     . exact hlH
   . rw [take_length] at jx;exact aH.carry (Z := ⟨(out m Z H).m, fun a => (out m Z H).S a /\ a ≠ l⟩) (Z' := out m Z H) (Carry.of (aq.refl H') (fun a zs e z => And.left z) fun m => m) jx
theorem yc {elt iter : Expr} {x y : Str} {px py pt : Pos} {kt : Nat} {ifs : List Expr} {scope : Scope} {me : Bool} (caps : Ie) (js : Ih) (p : D -> D -> Bool) (f : D -> D -> D) (hi : IT X (.Tuple [.Name x px, .Name y py] kt pt) m1 ρ iter ds)
 (hpair : ∀ d ∈ ds, ∃ a b, d = .tup [a, b])
 (ht : ∀ C s H fp a b, D.tup [a, b] ∈ ds -> Fz (bp X ([x, y] ++ caps) scope C s H fp) ([some a, some b] ++ dh js ρ) ifs (p a b)) (he : ∀ C s H fp a b, D.tup [a, b] ∈ ds -> p a b = true -> E (bp X ([x, y] ++ caps) scope C s H fp) me ([some a, some b] ++ dh js ρ) elt (f a b))
 (hz : ds.length <= sizeLine) (hm : m = true -> me = true \/ ∀ d ∈ ds, (sJ .non f d).flat = true := by intro h; first | exact .inl h | cases h) (hc : X.calm = true := by rfl)
 (B : bN X scope [x, y] caps js := by exact ⟨rfl, by decide, by decide, by decide, by decide, by decide, by repeat (first | exact trivial | refine ⟨⟨rfl, by first | exact .inl rfl | exact .inr rfl⟩, ?_⟩), by decide⟩)
 (hs : ∀ x, foldedSetIterable iter X.env x = pure x := by intro _; rfl) (hes : ∀ env : Env, (assignEach [.Name x px, .Name y py] env).map (·.2) = [assign (.Name x px) env, assign (.Name y py) env] := by intro _; rfl) (hes2 : ∀ env : Env, (assignEach [.Name y py] env).map (·.2) = [assign (.Name y py) env] := by intro _; rfl)
 (hen : ∀ env : Env, (assignEach [.Name x px, .Name y py] env).length = 2 := by intro _; rfl) (hst : ∀ env : Env, (assignEach [.Name x px, .Name y py] env).findIdx? (·.1) = none := by intro _; rfl) : EC X m ρ (.ListComp elt [⟨.Tuple [.Name x px, .Name y py] kt pt, iter, ifs, 0⟩] scope pos) (.lst ((ds.filter (sJ false p)).map (sJ .non f))) := by
 have hg1 : ∀ C s H fp, PG (bp X ([x, y] ++ caps) scope C s H fp) (.Name x px) (dZ 0) := fun C s H fp => fU (i := 0) B.nd rfl (.inl (lookup_relabel_local (B.own x (by simp)))) (.inr (lookup_relabel_local (B.own x (by simp))));have hg2 : ∀ C s H fp, PG (bp X ([x, y] ++ caps) scope C s H fp) (.Name y py) (dZ 1) := fun C s H fp => fU (i := 1) B.nd rfl (.inl (lookup_relabel_local (B.own y (by simp)))) (.inr (lookup_relabel_local (B.own y (by simp))));have hg : ∀ C s H fp, PG (bp X ([x, y] ++ caps) scope C s H fp) (.Tuple [.Name x px, .Name y py] kt pt) (Cd X.K 2 (lC (dZ 0) (lC (dZ 1) A0))) := fun C s H fp =>
  zF (X := bp X ([x, y] ++ caps) scope C s H fp) hc (g9 (hg1 C s H fp) (g9 (hg2 C s H fp) uQ (by rw [hes2]; rfl)) (by rw [hes, hes2])) (hen _) (hst _)
 have ht' : ∀ C s H fp i, Cs (bp X ([x, y] ++ caps) scope C s H fp) ifs (E2 X.K js ρ ds p i) := fun C s H fp i pins s' σ H' Q I h => by
  obtain ⟨a, b, hd, h⟩ := h;exact ht C s H fp a b (mem_of_getElem? hd) pins s' σ H' Q I h
 have he' : ∀ C s H fp i, PE (bp X ([x, y] ++ caps) scope C s H fp) elt (Fo X.K js ρ ds p f me i) := fun C s H fp i pins s' σ H' Q I h => by
  obtain ⟨a, b, hd, hp, h⟩ := h;exact he C s H fp a b (mem_of_getElem? hd) hp pins s' σ H' Q I h
 refine ⟨PE.mono (uL (own := [x, y]) (caps := caps) hc B hi hg ht' he' hs) fun σ H Q h => jh p f hpair hz hm σ H Q h, fun y' k spos py' hN hk hy hsw hf => ?_⟩;exact PS.CA (vp (own := [x, y]) (caps := caps) hN hk hy hc B hi hg ht' he' hsw hf hs) fun Q σ H h => jh p f hpair hz hm σ H _ h
end
section
variable {X : Cx} {F : Fn} {ρ : cR} {Q : jv} {rest body : List Stmt} {e : Expr} {pos p : Pos}
theorem tZ (i : Nat) {x : Str} {ap cp : Pos} {ds es : List D} (fr : Bool) (h : ρ[i]? = some (some (.ow fr ds)) := by rfl) (he : E X true (view true false ρ) e (.lst es)) (fl : aV es = true) (hz : ds.length + es.length <= sizeLine) (hr : SD X F rest (ρ.set i (some (.ow fr (ds ++ es)))) Q)
 (hN : X.N[i]? = some x := by rfl) (hv : zw X.env.scope x := by first | exact Or.inl rfl | exact Or.inr (Or.inl rfl) | exact Or.inr (Or.inr rfl)) (hd : (x == ("__debug__" : Str)) = false := by decide) (hcd : (x == ("__classdict__" : Str)) = false := by decide)
 (hbase : attributeBase (.Name x p) "extend" X.env (eval (.Name x p) X.env) = eval (.Name x p) X.env := by rfl) (hline : (ap.endLine == cp.line) = true := by rfl)
 (hs : starEach [e] X.env = [(false, eval e X.env)] := by rfl) (hsw : swapsWith (.Call (.Attribute (.Name x p) "extend" ap) [e] [] cp) none pos.line X.env = pure false := by rfl) :
 SD X F (.Expr (.Call (.Attribute (.Name x p) "extend" ap) [e] [] cp) pos :: rest) ρ Q := by
 refine cH (PS.mono (om (mO PySem.F.plainAttrs_list PySem.F.slot_list_extend PySem.F.type_list_extend xh (fv hN hv hd hcd) (aM he bh (by rw [hs]; rfl)) hbase (by rw [hs]; rfl) hline (by rw [hs]; rfl) rfl) hsw) ?_) hr;rintro Q' σ H ⟨hv, hρ, A, hl, S, f⟩;obtain ⟨l, xs, e1, e2, e3, j⟩ := S.ow hl h;refine ⟨.ref l, e1, .inl ⟨rfl, xs, dM.of e3⟩, _, aU S true false, S.env hl true false, fun v H1 s1 i1 => ?_⟩;obtain ⟨b, zs, rfl, at', j2⟩ := ar.mp i1;obtain ⟨b1, b2⟩ : H1 b = some (.lst zs) /\ H b = none := by
  rcases at' with z | z
  . exact z
  . exact absurd z.1 (by simp [out, nw])
 refine ⟨l, b, xs, zs, rfl, rfl, s1.at e3, b1, by rw [<- j.length, <- j2.length]; exact hz, f.nx _ _ (zE hl (S.grow s1) e1 e2 (s1.at e3) ((j.same s1).append (j2.df fl)))⟩
end
inductive Pt where
 | word (w : Str)
 | beg (w : Str)
 | fin (w : Str)
 | any
 | upto (n : Nat)
 | wd (q : List (List Pt))
def Dm (ways CY : Int) (ws : Ie) (c : Int) : Pt :=
 if part c 30 ways = 0 then .any else if part c 30 ways = 1 then .upto (part c 31 CY).toNat else
  let z := ws.getD (part c 32 4).toNat ""
  let n := 1 + part c 33 z.length
  if part c 30 ways = 2 then .beg (Txt.slice z none (some n)) else if part c 30 ways = 3 then .fin (Txt.slice z (some ((z.length : Int) - n)) none) else .word z
abbrev pp (ws : Ie) (c : Int) : Pt := Dm 6 4 ws c
end Y
namespace Y
open PySem PySem.Spec PyProof.Rows L2
variable [b0]
def behind (f g : HS) : List Ij := f.flatMap fun s => (g.filter fun t => decide (t.1 = s.2)).map fun t => (s.1, t.2)
section
variable {X : Cx}
theorem vY : Cz X "list.count" (fun x xs H Q => ∃ ds d y Z Z', xs = [y] /\ In X.K H Z d y /\ In X.K H Z' (.lst ds) x /\ X.A.units + 1 + bH ds < cLine /\ Q (.int (((ds.countP fun e => aJ e d) : Nat) : Int)) H) := by
 intro pins s σ H x xs v us Q I rx rs h;obtain ⟨ds, d, y, Z, Z', rfl, ix, iy, hu, q⟩ := h;obtain ⟨u, rfl, ry⟩ := Vals.one rs;obtain ⟨p, zs, rfl, at', j⟩ := ar.mp iy;cases rx;obtain ⟨its, r, pl, hz⟩ := I.list at'.sq;have hl1 := j.length;have hl2 := r.length
 classical
 let e : Value -> Bool := fun u => if h : ∃ e', ∃ w, RelV w u /\ In X.K H Z' e' w then aJ h.choose d else false
 have key : ∀ (i : Nat) u, its[i]? = some u -> ∃ e', ds[i]? = some e' /\ e u = aJ e' d /\ ∃ w, RelV w u /\ In X.K H Z' e' w := fun i u hi => by
  have hlt := (List.getElem?_eq_some_iff.mp hi).1;have hd : ds[i]? = some ds[i] := by simp
  obtain ⟨w, ew, iw⟩ := j.get hd;obtain ⟨u', eu, ru⟩ := r.get ew;rw [hi] at eu;cases eu;have hex : ∃ e', ∃ w, RelV w u /\ In X.K H Z' e' w := ⟨_, w, ru, iw⟩
  refine ⟨ds[i], hd, ?_, w, ru, iw⟩;show (if h : ∃ e', ∃ w, RelV w u /\ In X.K H Z' e' w then aJ h.choose d else false) = _;rw [dif_pos hex];obtain ⟨w', rw', iw'⟩ := hex.choose_spec;have ew' : w' = w := rw'.inj ru;subst ew';rw [In.inj I iw' iw]
 have hl := pl.isList;obtain ⟨⟨cls, dd, data, sl⟩, ho, hc, n, hd⟩ := id hl;simp only at hc hd;subst hc hd;have hcount : its.countP e = ds.countP fun e => aJ e d := by
  have em : its.map e = ds.map fun e' => aJ e' d := by
   refine List.ext_getElem? fun i => ?_;rw [getElem?_map, getElem?_map]
   cases hi : its[i]? with
   | none =>
    have : ds[i]? = none := by
     rw [List.getElem?_eq_none_iff] at hi ⊢;omega
    rw [this];rfl
   | some u =>
    obtain ⟨e', hd, he, _⟩ := key i u hi;rw [hd];simp [he]
  have c1 : its.countP e = (its.map e).countP id := by rw [List.countP_map]; rfl
  have c2 : (ds.countP fun e => aJ e d) = (ds.map fun e' => aJ e' d).countP id := by rw [List.countP_map]; rfl
  rw [c1, c2, em]
 refine call_meets PySem.F.slot_list_count ⟨_, ho, rfl⟩ PySem.F.entry_list_count (PySem.F.args_list_count_2 _ _) (PySem.SeqAt.list_countAt p its.toArray n dd sl u e) ⟨ho, fun y hy => ?_, ?_⟩
 . obtain ⟨i, hi, ei⟩ := List.mem_iff_getElem.mp (by simpa using hy : y ∈ its);obtain ⟨e', hd, he, w, rw', iw⟩ := key i y (by rw [<- ei]; simp [hi]);rw [he];exact iR I (bH ds) (A := X.A.in1) iw ix rw' ry (dJ (mem_of_getElem? hd)) hu
 . rw [show its.toArray.toList = its from rfl, hcount];exact ⟨.int _, H, I.tok _, ⟨_, rfl⟩, q⟩
variable {ρ : List (Option D)} {m m1 m2 m3 : Bool} {a b c o : Expr} {pos ap cp : Pos}
theorem zQ {ds : List D} {d : D} (ho : E X m1 ρ o (.lst ds)) (ha : E X m2 ρ a d) (hu : X.A.units + 1 + bH ds < cLine) (hbase : attributeBase o "count" X.env (eval o X.env) = eval o X.env := by rfl) (hline : (ap.endLine == cp.line) = true := by rfl) (hs : starEach [a] X.env = [(false, eval a X.env)] := by rfl) :
 E X true ρ (.Call (.Attribute o "count" ap) [a] [] cp) (.int (((ds.countP fun e => aJ e d) : Nat) : Int)) :=
 PE.mono (mO F.plainAttrs_list F.slot_list_count F.type_list_count vY ho (aM ha bh (by rw [hs]; rfl)) hbase (by rw [hs]; rfl) hline (by rw [hs]; rfl) rfl) fun σ H Q z0 => aO z0 fun Z oz en k => ⟨Z, oz, en, fun x H1 s1 i1 => by
  have i1' := i1.plain oz;obtain ⟨p, xs, rfl, at', j⟩ := ar.mp i1';refine ⟨?_, Z, oz.same s1, en.same s1, fun w H2 s2 i2 => ?_⟩
  . exact .inl ⟨rfl, xs, at'.sq⟩
  . exact ⟨ds, d, w, Z, Z, rfl, i2.plain (oz.same s1), i1'.same s2, hu, k _ H2 (s1.trans s2) (au.mpr rfl)⟩⟩
end
section
variable {X : Cx} {pins : HZ} {σ : St} {H : Hp} {s : Shared} {a b : Addr} {kvs : List (List Key × Int)}
variable {ρ : List (Option D)} {m m1 m2 m3 : Bool} {e f i o : Expr} {d : D} {pos p p2 ap cp : Pos} {x : Str}
theorem DL {j l : Int} (ha : E X m1 ρ e (.int j)) (hb : E X m2 ρ f (.int l)) (hm : X.mg "max" = none) (hc : X.calm = true := by rfl) (hg : Gl X "max" := by rfl) (hs : starEach [e, f] X.env = [(false, eval e X.env), (false, eval f X.env)] := by rfl) (hs2 : starEach [f] X.env = [(false, eval f X.env)] := by rfl) :
 E X true ρ (.Call (.Name "max" p) [e, f] [] pos) (.int (if l > j then l else j)) :=
 PE.mono (fg (wV hc) hg hm boot_max (aM ha (aM hb bh (by rw [hs2]; rfl)) (by rw [hs, hs2])) (by decide) (by decide) (by rw [hs, hs2]) (by rw [hs2]; rfl)) fun σ H Q z0 => aO z0 fun Z oz en k => ⟨Z, oz, en, fun x H1 s1 i1 => ⟨Z, oz.same s1, en.same s1, fun y H2 s2 i2 => ⟨j, l, by rw [au.mp (i1.plain oz), au.mp (i2.plain (oz.same s1))], k _ H2 (s1.trans s2) (au.mpr rfl)⟩⟩⟩
end
end Y
namespace Y
open PySem PySem.Spec PyProof.Rows L2 PySem.SeqAt
variable [b0]
theorem vals2 {a b : V} {u v : Value} (h1 : RelV a u) (h2 : RelV b v) : Vals [a, b] [u, v] := .cons h1 (.cons h2 .nil)
section
variable {X : Cx} {pins : HZ} {σ : St} {H : Hp} {s : Shared} {Z : aA} {A : Around} {P : D -> Prop} {kd : SortKind} {E : HR} {a : Addr}
theorem sZ (L : gk P) (kk : cL P kd) {ds : List D} {xs : List V} {us : HW} (hP : ∀ d ∈ ds, P d /\ A.units + d.dep < cLine) (I : Inv X pins σ H s) (j : aH X.K H Z ds xs) (rv : Vals xs us) (h64 : us.length < 64) {h1 : Heap} {t1 n : Nat}
 (k1 : ∀ b o, s.heap.get? b = some o -> h1.get? b = some o) (la : s.heap.objs.size <= a) (ho : h1.get? a = some (seqObj "list" us.toArray n)) {R : Fin -> Shared -> Prop}
 (fin : ∀ s' (prs : List (V × D)), Inv X pins σ (upd H a (.lst (prs.map (·.1)))) s' -> prs.Perm (xs.zip ds) -> prs.map (·.2) = g6 id ds -> R (.done (.ret .none)) s') :
 wpAny (model X.prog X.w) A (Builtin.«list.sort» ⟨[.ref a], []⟩) R E { s with heap := h1, toks := t1 } := by
 have z1 := j.length; have z2 := rv.length;have nn : ∀ b o, s.heap.get? b = some o -> b ≠ a := fun b o e => Nat.ne_of_lt (Nat.lt_of_lt_of_le (lt_size e) la);have el : ∀ u ∈ us, ∃ d, P d /\ Tells X.K H Z u d /\ A.units + d.dep < cLine := fun u hu => by
  obtain ⟨i, hi, e⟩ := List.mem_iff_getElem.mp hu;have hd : i < ds.length := by omega
  obtain ⟨v, ev, iv⟩ := j.get (i := i) (d := ds[i]) (by simp [hd]);obtain ⟨u', eu, ru⟩ := rv.get ev;obtain rfl : u' = u := by rw [<- (List.getElem?_eq_some_iff.mp eu).2]; exact e
  exact ⟨ds[i], (hP _ (getElem_mem hd)).1, ⟨v, ru, iv⟩, (hP _ (getElem_mem hd)).2⟩
 have old : ∀ (h' : Heap), (∀ b o, b ≠ a -> h1.get? b = some o -> h'.get? b = some o) -> Inv X pins σ H { s with heap := h', toks := t1 } := fun h' k => I.kept fun b o e => k b o (nn b o e) (k1 b o e);have lay : ∀ (prs : List (V × D)) (out : HX), prs.Perm (xs.zip ds) -> Vals (prs.map (·.1)) out.toList -> prs.map (·.2) = g6 id ds -> R (.done (.ret .none)) { s with heap := sortedHeap h1 a us out, toks := t1 } := fun prs out pp vv e => by
  obtain ⟨m, hm⟩ := sortedHeap_at (out := out) ho;have hl : (prs.map (·.1)).length <= sizeLine := by
   rw [length_map, pp.length_eq, List.length_zip]; exact d8 (by omega)
  exact fin _ prs (I.laid (t' := t1) (fun b o e => by rw [sortedHeap_old (nn b o e) (lt_size (k1 b o e))]; exact k1 b o e) la (show bB X.prog X.w _ _ _ (.lst (prs.map (·.1))) from ⟨hl, out.toList, m, vv, by simpa using hm⟩)) pp e
 have pr := gH rv j;rw [<- pairsOf_toList] at pr;by_cases emp : us = []
 . subst emp;have y0 : xs = [] := List.length_eq_zero_iff.mp (z2.trans rfl);have d0 : ds = [] := List.length_eq_zero_iff.mp (z1.trans (z2.trans rfl));subst y0 d0;refine jE (s := { s with heap := h1, toks := t1 }) (kd := kd) (κ := strKind) ho (by simp) (fun s' Q' _ ne _ => absurd rfl ne) (fun s' _ st i jj Q' hB hi => absurd hi (by simp [pairsOf])) fun t pm _ => ?_;have t0 : t = #[] := by
    have e := pm.size_eq;simp [pairsOf] at e;exact e
   exact lay [] _ (.refl _) (by rw [t0]; simp; exact .nil) (by simp [g6])
 . obtain ⟨u0, hu0⟩ := List.exists_mem_of_ne_nil us emp;obtain ⟨dd, pd, _, _⟩ := el u0 hu0;refine jE (s := { s with heap := h1, toks := t1 }) (kd := kd) (κ := tK X.K H Z P L ⟨dd, pd⟩) ho h64 (fun h' Q' kp' ne q' => ?_) (fun h' kp' => ?_) fun t pm up => ?_
   . exact nO (s := { s with heap := h', toks := t1 }) kk (old h' kp') (fun u hu => let ⟨d, a, b, _⟩ := el u hu; ⟨d, a, b⟩) ne q'
   . refine oT (s := { s with heap := h', toks := t1 }) kk L (old h' kp') (fun p hp => ?_);rw [pairsOf_toList] at hp;exact el p.1 (List.of_mem_zip hp).1
   . obtain ⟨prs, pp, vv, pw⟩ := kG (f := id) I L pr (fun q hq => (hP _ (List.of_mem_zip hq).2).1) pm up;have e2 : (xs.zip ds).map (·.2) = ds := by rw [List.map_snd_zip]; omega
     exact lay prs _ pp vv (g8 L (f := id) (fun d hd => (hP d hd).1) (fun a _ b _ e => e) (by rw [<- e2]; exact pp.map _) pw)
end
end Y
namespace Y
open PySem PySem.Spec PyProof.Rows L2
abbrev told (w : World) : Bool := w.params.followText "set-order"
def txt (v : Value) : Str := match v with
 | .str x _ => x
 | _ => ""
structure SL (w : World) (h : Heap) (a : Addr) (es : Ib) (ep : Nat) (t : SetTable) : Prop where
 at' : h.get? a = some { cls := .type "set", dict := none, data := .set es ep t, slots := #[] }
 fit : t.fits es.size = true
 led : told w = false -> t.led = true
 pl : es.size ≠ 0 -> t.plain = false
section
variable {prog : Program} {w : World} {A : Around} {E : HR} {s : Shared} {a : Addr} {es : Ib} {ep : Nat} {t : SetTable} {x : Str} {tk : Tok}
theorem Fi {k x : Str} {t : Tok} : (PySem.strKind prog w).is k (.str x t) = decide (k = x) := by
 by_cases h : k = x
 . subst h; rw [decide_eq_true rfl]; show Value.isStrOf k (.str k t) = true; simp [Value.isStrOf]
 . rw [decide_eq_false h]
   cases e : (PySem.strKind prog w).is k (.str x t) with
   | false => rfl
   | true =>
    obtain ⟨t', h'⟩ := Value.isStrOf_shape (show Value.isStrOf k (.str x t) = true from e);cases h';exact absurd rfl h
theorem kP {h : Heap} {es1 : Ib} {t1 : SetTable} (at' : h.get? a = some { cls := .type "set", dict := none, data := .set es ep t, slots := #[] }) :
 (h.update a (Obj.putSet es1 t1)).get? a = some { cls := .type "set", dict := none, data := .set es1 (ep + 1) t1, slots := #[] } := Heap.get?_update_self (Obj.putSet es1 t1) at' rfl
end
end Y
namespace Y
open PySem PySem.Spec PyProof.Rows L2
section
variable {prog : Program} {w : World} {A : Around} {E : HR} {s : Shared} {R : Ic} {S I : Addr} {ws : Ie}
variable {fp wr : List Addr} {G : Array GenState -> Array GenState -> Prop} {n : Nat} {P : Nat -> Value -> Prop} {St : Nat -> Shared -> Prop}
theorem yF (v : Value) {Q : HR} (h : Q (.ref s.heap.objs.size) { s with heap := s.heap.push { cls := .type "set", dict := none, data := .set #[] 0 (.fresh 0 0 (!told w)) } }) :
 codeAny (model prog w) A (.call (.builtin "set.__new__") ⟨[.type "set", v], []⟩) (wants Q E) s := by
 have c := PySem.F.newCall_set_1 v;have sub := sub_set_self;have tree : wpAny (model prog w) A.in1 (Builtin.«set.__new__» ⟨[.type "set", v], []⟩) (fun x s' => x = .done (.ret (.ref s.heap.objs.size)) /\ s' = { s with heap := s.heap.push { cls := .type "set", dict := none, data := .set #[] 0 (.fresh 0 0 (!told w)) } }) (fun _ _ => False) s := by
  unfold Builtin.«set.__new__» Builtin.Frozenset.newClass newSet setsByText;obtain ⟨hp, g, d, tk, os⟩ := s;wp_walk;exact wpAny_askSetting (wpAny_pure (wpAny_newObj_type (wpAny_pure ⟨rfl, rfl⟩)))
 refine codeAny_call_builtin PySem.F.plain_set_new PySem.F.entry_set_new (wpAny_of_eq c (wpAny_mono tree (fun x s' e => ?_) fun _ _ f => f.elim));obtain ⟨rfl, rfl⟩ := e;exact h
theorem sv {l : Addr} {items : HX} (hl : s.heap.IsList l items) {Q : Bool -> Shared -> Prop} (h : Q false s) : wpAny (model prog w) A (Builtin.Frozenset.isAnySet (.ref l)) Q E s := by
 obtain ⟨o, ho, hc, _⟩ := hl;have T : s.TypeIs (.ref l) "list" := ⟨o, ho, hc⟩
 have f1 := PySem.F.sub_list_set;have f2 := PySem.F.sub_list_frozenset;unfold Builtin.Frozenset.isAnySet;obtain ⟨hp, g, d, tk, os⟩ := s;wp_walk using wpAny_loadPart' ho;exact h
end
end Y
namespace Y
open PySem PySem.Spec PyProof.Rows L2
namespace Sw
theorem slot_next : PySem.Slot "set_iterator" "__next__" "set_iterator.__next__" :=
 by
  refine .of (owner := "set_iterator") (n := "__next__") ?own ?_ ?_ ?_ ?_ ?self
  case own => rw [typeLookup_type, builtinLookup_eq_fast]; kernel_rfl
  case self => rw [isSubtype_type]; kernel_rfl
  all_goals first | decide +kernel | exact .inl (by decide +kernel) | exact .inr (by decide +kernel)
theorem entry_next : entryFor table "set_iterator.__next__" = some Builtin.«set_iterator.__next__» := entryFor_of_tree (by kernel_rfl)
theorem args_next (a : Value) : argsOk "set_iterator.__next__" ⟨[a], []⟩ := by unfold argsOk; kernel_rfl
theorem mI : PySem.Slot "set_iterator" "__iter__" "set_iterator.__iter__" :=
 by
  refine .of (owner := "set_iterator") (n := "__iter__") ?own ?_ ?_ ?_ ?_ ?self
  case own => rw [typeLookup_type, builtinLookup_eq_fast]; kernel_rfl
  case self => rw [isSubtype_type]; kernel_rfl
  all_goals first | decide +kernel | exact .inl (by decide +kernel) | exact .inr (by decide +kernel)
theorem vX (a : Value) : argsOk "set_iterator.__iter__" ⟨[a], []⟩ := by unfold argsOk; kernel_rfl
theorem t9 : entryFor table "set_iterator.__iter__" = some Builtin.«dict_keyiterator.__iter__» := entryFor_alias (id' := "dict_keyiterator.__iter__") (by kernel_rfl) (by first | rfl | decide +kernel) (by decide +kernel) (by kernel_rfl)
theorem xc : entryFor table "set.__iter__" = some Builtin.«frozenset.__iter__» := entryFor_alias (id' := "frozenset.__iter__") (by kernel_rfl) (by first | rfl | decide +kernel) (by decide +kernel) (by kernel_rfl)
end Sw
theorem uR {α : Type} {xs : List α} {i : Nat} (hi : i < xs.length) : (xs[i] :: xs.eraseIdx i).Perm xs := by
 rw [List.eraseIdx_eq_take_drop_succ];have e : xs = xs.take i ++ xs[i] :: xs.drop (i + 1) := by rw [List.getElem_cons_drop, take_append_drop]
 conv => rhs; rw [e]
 exact List.perm_middle.symm
section
variable {M : Model} {A : Around} {E : HR} {s : Shared}
theorem sR {src : Source} {n : Nat} {Q : Nat -> Shared -> Prop} (hn : n ≠ 0) (h : ∀ i, i < n -> ∀ d, Q i { s with drawn := d }) : wpAny M A (choose src n) Q E s := fun Γ p _ => by
 show Sem.wp M Γ (.choose src n .pure) _ _ p s;rw [Sem.wp_choose];exact ⟨hn, h _ (Nat.mod_lt _ (Nat.pos_of_ne_zero hn)) _⟩
theorem rN {α : Type} : ∀ (n : Nat) (xs : List α) {s : Shared} {Q : List α -> Shared -> Prop}, xs.length = n -> (∀ ys d, ys.Perm xs -> Q ys { s with drawn := d }) -> wpAny M A (drawOrder n xs) Q E s
 | 0, xs, s, Q, e, h => by
  obtain rfl := List.length_eq_zero_iff.mp e;unfold drawOrder;exact wpAny_pure (h [] s.drawn (.refl _))
 | n + 1, [], s, Q, e, h => by cases e
 | n + 1, x :: xs, s, Q, e, h => by
  unfold drawOrder;refine wpAny_bind (sR (by simp) fun i hi d => ?_);have hg : (x :: xs)[i]? = some ((x :: xs)[i]) := List.getElem?_eq_getElem hi;rw [hg];refine wpAny_bind (rN n ((x :: xs).eraseIdx i) (by rw [List.length_eraseIdx_of_lt hi, e]; rfl) fun ys d' pp => wpAny_pure (h _ d' ?_));exact (pp.cons _).trans (uR hi)
end
theorem rK {α : Type} (f : Nat -> Nat) : ∀ (k i : Nat) (xs : List α) (out : Array α), xs.length = k -> (pickOrder.go f k i xs out).toList.Perm (out.toList ++ xs)
 | 0, i, xs, out, e => by
  obtain rfl := List.length_eq_zero_iff.mp e;unfold pickOrder.go; simp
 | k + 1, i, xs, out, e => by
  have hi : f i % xs.length < xs.length := Nat.mod_lt _ (by omega);unfold pickOrder.go;rw [List.getElem?_eq_getElem hi];refine (rK f k (i + 1) _ _ (by rw [List.length_eraseIdx_of_lt hi, e]; rfl)).trans ?_;rw [Array.toList_push, List.append_assoc];exact (uR hi).append_left _
theorem nD {α : Type} (f : Nat -> Nat) (xs : Array α) : (pickOrder f xs).toList.Perm xs.toList := by
 unfold pickOrder;simpa using rK f xs.size 0 xs.toList #[] (by simp)
end Y
namespace Y
open PySem PySem.Spec PyProof.Rows L2
abbrev TK (prog : Program) (w : World) : HeapKind prog w Ie := tupleKind (PySem.strKind prog w)
def ef (h : Heap) : Value -> List Str
 | .ref b => match h.get? b with
  | some o => match o.data with
   | .seq its _ => its.toList.map txt
   | _ => []
  | none => []
 | _ => []
theorem xl {prog : Program} {w : World} {ks : Ie} {vs : HW} (h : ItemsAre (PySem.strKind prog w) ks vs) : vs.map txt = ks := by
 induction h with
 | nil => rfl
 | cons h1 _ ih =>
  obtain ⟨t, rfl⟩ := Value.isStrOf_shape h1;rw [map_cons, ih];rfl
theorem key_is {prog : Program} {w : World} {h : Heap} {k : Ie} {b : Addr} (i : (TK prog w).is h k b) : ef h (.ref b) = k := by
 obtain ⟨o, its, n, ho, _, hd, hi⟩ := i;unfold ef;dsimp only;rw [ho];dsimp only;rw [hd];exact xl hi
def Ct (prog : Program) (w : World) (h : Heap) (e : Int × Value) : Prop := ∃ k b, k ≠ [] /\ e = ((TK prog w).hash k, .ref b) /\ (TK prog w).is h k b
def lL (h : Heap) (es : Ib) : List Ie := es.toList.map fun e => ef h e.2
namespace Tb
theorem CP {t : SetTable} {es : Ib} (T : Tab t es) {h : Int} {N : Nat} (F : vj t h N) (HA : Nat -> Int) (hHA : ∀ i e, es[i]? = some e -> HA i = e.1) : ∀ (f n : Nat), n <= N -> N - n < f ->
 (SetTable.probe.go t HA h f (sq t.mask h n) = some (.empty (js t.mask h N) none) /\ ∀ (r i : Nat) (e : Int × Value), n <= r -> r < N -> t.place[i]? = some (js t.mask h r) -> es[i]? = some e -> e.1 ≠ h)
 \/ ∃ (r i : Nat) (e : Int × Value), n <= r /\ r < N /\ t.place[i]? = some (js t.mask h r) /\ es[i]? = some e /\ e.1 = h /\ SetTable.probe.go t HA h f (sq t.mask h n) = some (.candidate (js t.mask h r) i (sq t.mask h (r + 1))) /\ ∀ (q i : Nat) (e : Int × Value), n <= q -> q < r -> t.place[i]? = some (js t.mask h q) -> es[i]? = some e -> e.1 ≠ h
 | 0, n, _, h2 => absurd h2 (by omega)
 | f + 1, n, h1, h2 => by
  have dm : (sq t.mask h n).dummy = none := by
   obtain ⟨k, r, rfl, hr⟩ := t6 t.mask h n;rw [oq (yv t.mask h k) r hr]
  by_cases z : n = N
  . subst z;refine .inl ⟨?_, fun r i e a b => absurd b (by omega)⟩;unfold SetTable.probe.go;rw [show t.slot (sq t.mask h n).j = .empty from Bh T.dum F.no];dsimp only;rw [dm];rfl
  . have lv := F.all n (by omega);obtain ⟨i, hi, ei⟩ := List.mem_iff_getElem.mp lv;rw [Array.length_toList] at hi;have pi : t.place[i]? = some (js t.mask h n) := by rw [Array.getElem?_eq_getElem hi, <- ei]; simp
    have hes : es[i]? = some (es[i]'(by rw [<- T.len]; exact hi)) := Array.getElem?_eq_getElem _;generalize es[i]'(by rw [<- T.len]; exact hi) = e at hes;have sl : t.slot (sq t.mask h n).j = .live i := gV T.up pi;have same : ∀ (i' : Nat) (e' : Int × Value), t.place[i']? = some (js t.mask h n) -> es[i']? = some e' -> e' = e := fun i' e' a b => by
     have := gV T.up a;rw [show t.slot (js t.mask h n) = .live i from sl] at this;injection this with this;subst this;rw [hes] at b;cases b;rfl
    by_cases q : e.1 = h
    . refine .inr ⟨n, i, e, Nat.le_refl _, by omega, pi, hes, q, ?_, fun q i e a b => absurd b (by omega)⟩;unfold SetTable.probe.go;rw [sl];dsimp only;rw [hHA i e hes, q, if_pos (by simp)];rfl
    . have st : SetTable.probe.go t HA h (f + 1) (sq t.mask h n) = SetTable.probe.go t HA h f (sq t.mask h (n + 1)) := by
       conv => lhs; unfold SetTable.probe.go
       rw [sl];dsimp only;rw [hHA i e hes, if_neg (by simpa using q)];rfl
      rcases CP T F HA hHA f (n + 1) (by omega) (by omega) with ⟨a, b⟩ | ⟨r, i', e', a1, a2, a3, a4, a5, a6, a7⟩
      . refine .inl ⟨st.trans a, fun r i' e' x y u v => ?_⟩;by_cases w : r = n
        . subst w; rw [same i' e' u v]; exact q
        . exact b r i' e' (by omega) y u v
      . refine .inr ⟨r, i', e', by omega, a2, a3, a4, a5, st.trans a6, fun q' i'' e'' x y u v => ?_⟩;by_cases w : q' = n
        . subst w; rw [same i'' e'' u v]; exact q
        . exact a7 q' i'' e'' (by omega) y u v
end Tb
end Y
namespace Y
open PySem PySem.Spec PyProof.Rows L2
section
variable {prog : Program} {w : World} {A : Around} {E : HR} {s : Shared} {a b : Addr} {es : Ib} {ep : Nat} {t : SetTable} {k : Ie}
theorem sk {Q : Bool -> Shared -> Prop} (i : (TK prog w).is s.heap k b) (n : Nat) (h : Q false s) : wpAny (model prog w) A (ofAClassStatement (n + 1) (.ref b)) Q E s := by
 have T : s.TypeIs (.ref b) "tuple" := i.typeIs;obtain ⟨o, its, m, ho, hc, hd, hi⟩ := i;unfold ofAClassStatement;refine wpAny_bind (wpAny_typeOf T ?_);dsimp only;rw [if_pos (by decide)];refine wpAny_bind (wpAny_pure ?_);rw [if_neg (by decide)];refine wpAny_bind (wpAny_seqItems ho hd ?_);dsimp only;have el : ∀ v ∈ its.toList, ∃ x u, v = .str x u := fun v hv => by
  clear ho hd;generalize its.toList = vs at hi hv
  induction hi with
  | nil => cases hv
  | cons h1 _ ih =>
   rcases mem_cons.mp hv with rfl | hv
   . obtain ⟨u, rfl⟩ := Value.isStrOf_shape h1;exact ⟨_, u, rfl⟩
   . exact ih hv
 refine wpAny_bind (wpAny_forIn_array' _ (fun rest c s' => c = (none, ()) /\ s' = s /\ ∀ v ∈ rest, ∃ x u, v = .str x u) _ ?_ ?_ _ _ ⟨rfl, rfl, el⟩)
 . rintro v rest c s' ⟨rfl, rfl, hv⟩;obtain ⟨x, u, rfl⟩ := hv v mem_cons_self;have e : ofAClassStatement n (.str x u) = pure false := by cases n <;> rfl
   rw [e];refine wpAny_bind (wpAny_pure ?_);rw [if_neg (by decide)];exact wpAny_pure ⟨rfl, rfl, fun v' h' => hv v' (mem_cons_of_mem _ h')⟩
 . rintro c s' ⟨rfl, rfl, _⟩;exact wpAny_pure h
theorem Ee {Q : Bool -> Shared -> Prop} (i : (TK prog w).is s.heap k b) (ys : HW) (hy : ∀ y ∈ ys, ∃ k' b', y = .ref b' /\ (TK prog w).is s.heap k' b') (h : Q false s) : wpAny (model prog w) A (searchCouldBeSeen (.ref b) ys) Q E s := by
 unfold searchCouldBeSeen;refine wpAny_bind (wpAny_forIn_list _ (fun rest c s' => c = (none, ()) /\ s' = s /\ ∀ y ∈ rest, ∃ k' b', y = .ref b' /\ (TK prog w).is s.heap k' b') _ ?_ ?_ _ _ ⟨rfl, rfl, hy⟩)
 . rintro y rest c s' ⟨rfl, rfl, hv⟩;obtain ⟨k', b', rfl, i'⟩ := hv y mem_cons_self;have nx : ∀ y ∈ rest, ∃ k' b', y = .ref b' /\ (TK prog w).is s'.heap k' b' := fun v' h' => hv v' (mem_cons_of_mem _ h');dsimp only;refine wpAny_ite_split (fun _ => wpAny_pure ⟨rfl, rfl, nx⟩) fun _ => ?_;refine wpAny_bind ((TK prog w).quiet i ?_);rw [if_neg (by decide)];refine wpAny_bind ((TK prog w).quiet i' ?_);rw [if_neg (by decide)];refine wpAny_bind (sk i 7 ?_);rw [if_neg (by decide)];refine wpAny_bind (sk i' 7 ?_);rw [if_neg (by decide)];exact wpAny_pure ⟨rfl, rfl, nx⟩
 . rintro c s' ⟨rfl, rfl, _⟩;exact wpAny_pure h
structure vg (prog : Program) (w : World) (h : Heap) (a : Addr) (es : Ib) (ep : Nat) (t : SetTable) : Prop where
 at' : h.get? a = some { cls := .type "set", dict := none, data := .set es ep t, slots := #[] }
 el : ∀ e ∈ es.toList, Ct prog w h e
 tab : Tb.Tab t es
 few : es.size * 5 < t.mask * 3
 led : told w = false -> t.led = true
 pl : es.size ≠ 0 -> t.plain = false
theorem vg.fit {prog : Program} {w : World} {h : Heap} {a : Addr} {es : Ib} {ep : Nat} {t : SetTable} (T : vg prog w h a es ep t) : t.fits es.size = true := by
 have := T.few;unfold SetTable.fits SetTable.fill;rw [T.tab.dum, T.tab.len];simp;omega
theorem vg.key {e : Int × Value} (T : vg prog w s.heap a es ep t) (he : e ∈ es.toList) : ∃ b, e.2 = .ref b /\ (TK prog w).is s.heap (ef s.heap e.2) b /\ e.1 = (TK prog w).hash (ef s.heap e.2) := by
 obtain ⟨k, b, _, rfl, i⟩ := T.el e he;rw [key_is i];exact ⟨b, rfl, i, rfl⟩
theorem va (T : vg prog w s.heap a es ep t) (hu : A.units < cLine) (i : (TK prog w).is s.heap k b) {N : Nat} (F : Tb.vj t ((TK prog w).hash k) N) (hN : N <= 10 * (t.mask + 13)) {Q : SetFound -> Shared -> Prop}
 (q1 : k ∈ lL s.heap es -> Q (.there none) s) (q2 : k ∉ lL s.heap es -> Q (.free (Tb.js t.mask ((TK prog w).hash k) N) false) s) :
 ∀ (f n : Nat), n <= N -> N - n < f -> (∀ (r j : Nat) (e : Int × Value), r < n -> t.place[j]? = some (Tb.js t.mask ((TK prog w).hash k) r) -> es[j]? = some e -> ef s.heap e.2 ≠ k) ->
  ∀ st : Option SetTable.Probe, st.getD (t.probeStart ((TK prog w).hash k)) = Tb.sq t.mask ((TK prog w).hash k) n -> wpAny (model prog w) A (setSearchFrom a (.ref b) ((TK prog w).hash k) true f st) Q E s
 | 0, n, _, h, _, _, _ => absurd h (by omega)
 | f + 1, n, h1, h2, hb, st, hst => by
  have odd : t.gaveWay = false := by
   unfold SetTable.gaveWay;rcases T.tab.mks with e | e | e <;> rw [e] <;> rfl
  unfold setSearchFrom;refine wpAny_bind (wpAny_setState_of T.at' rfl T.fit ?_);dsimp only;rw [odd, if_neg (by decide), hst];have same : ∀ (r j j' : Nat) (e e' : Int × Value), t.place[j]? = some (Tb.js t.mask ((TK prog w).hash k) r) -> t.place[j']? = some (Tb.js t.mask ((TK prog w).hash k) r) -> es[j]? = some e -> es[j']? = some e' -> e' = e := fun r j j' e e' x1 x2 x3 x4 => by
   have z1 := Tb.gV T.tab.up x1;rw [Tb.gV T.tab.up x2] at z1;injection z1 with z1;subst z1;rw [x3] at x4;cases x4;rfl
  have hk : ∀ (j : Nat) (e : Int × Value), es[j]? = some e -> ef s.heap e.2 = k -> e.1 = (TK prog w).hash k := fun j e he z => by
   obtain ⟨_, _, _, x⟩ := T.key (mem_of_getElem? (by rw [Array.getElem?_toList]; exact he));rw [x, z]
  have fuel : N - n < 10 * SetTable.turns t.mask := by unfold SetTable.turns; omega
  generalize hp : t.probe _ _ _ = pr;rcases Tb.CP T.tab F (fun i => ((es[i]?).map (·.1)).getD 0) (fun i e he => by rw [he]; rfl) (10 * SetTable.turns t.mask) n h1 fuel with ⟨x1, x2⟩ | ⟨r, j, e, y1, y2, y3, y4, y5, y6, y7⟩
  . obtain rfl : pr = _ := hp.symm.trans x1;dsimp only;refine wpAny_pure (q2 fun hm => ?_);obtain ⟨e, he, ek⟩ := mem_map.mp hm;obtain ⟨j, hj, rfl⟩ := List.mem_iff_getElem.mp he;rw [Array.length_toList] at hj;have he' : es[j]? = some es.toList[j] := by rw [<- Array.getElem?_toList]; exact List.getElem?_eq_getElem _
    have hpj : t.place[j]? = some (t.place[j]'(by rw [T.tab.len]; exact hj)) := Array.getElem?_eq_getElem _;obtain ⟨n0, e0, l0⟩ := T.tab.reach j _ _ hpj he';rw [hk j _ he' ek] at e0 l0;rw [<- e0] at hpj;have hm0 : Tb.js t.mask ((TK prog w).hash k) n0 ∈ t.place.toList := mem_of_getElem? (by rw [Array.getElem?_toList]; exact hpj);have lt : n0 < N := by
     rcases Nat.lt_trichotomy n0 N with z | z | z
     . exact z
     . exact absurd (z ▸ hm0) F.no
     . exact absurd (l0 N z) F.no
    by_cases z : n0 < n
    . exact hb n0 j _ z hpj he' ek
    . exact x2 n0 j _ (by omega) lt hpj he' (hk j _ he' ek)
  . obtain rfl : pr = _ := hp.symm.trans y6;have he := mem_of_getElem? (l := es.toList) (by rw [Array.getElem?_toList]; exact y4);obtain ⟨b', e2, ie, _⟩ := T.key he;obtain ⟨h0, y⟩ := e;have e2 : y = .ref b' := e2;subst e2;have hy : ∀ y ∈ ((es.filter fun x => x.1 == (TK prog w).hash k).toList.map (·.2)), ∃ k' b', y = .ref b' /\ (TK prog w).is s.heap k' b' := fun y hy => by
     obtain ⟨e, he, rfl⟩ := mem_map.mp hy;rw [Array.toList_filter] at he;obtain ⟨b', e2, ie, _⟩ := T.key (mem_filter.mp he).1;exact ⟨_, b', e2, ie⟩
    have sm : t.sameMemory t.moves t.mask = some true := by unfold SetTable.sameMemory; rw [if_pos (by simp)]
    have nxt : ∀ (r' j' : Nat) (e' : Int × Value), ef s.heap (.ref b') ≠ k -> r' < r + 1 -> t.place[j']? = some (Tb.js t.mask ((TK prog w).hash k) r') -> es[j']? = some e' -> ef s.heap e'.2 ≠ k := fun r' j' e' ne hr' u v => by
     by_cases z1 : r' < n
     . exact hb r' j' e' z1 u v
     . by_cases z2 : r' = r
       . subst z2;rw [same r' j j' _ e' y3 u y4 v];exact ne
       . exact fun z => y7 r' j' e' (by omega) (by omega) u v (hk j' e' v z)
    dsimp only;refine wpAny_ite_split (fun _ => wpAny_bind (Ee i _ hy ?_)) (fun _ => ?_)
    all_goals
     try rw [if_neg (by decide)]
     rw [y4];dsimp only;refine wpAny_bind (wpAny_holding ((TK prog w).eqBool hu ie i ?_));refine wpAny_bind (wpAny_setState_of T.at' rfl T.fit ?_);by_cases An : ef s.heap (.ref b') = k
     . rw [decide_eq_true An, if_pos (by decide)];exact wpAny_pure (q1 (mem_map.mpr ⟨_, he, An⟩))
     . rw [decide_eq_false An, if_neg (by decide)]
       try dsimp only
       rw [sm]
       try dsimp only
       rw [if_pos rfl, Tb.gV T.tab.up y3]
       try dsimp only
       rw [y4]
       try dsimp only
       refine wpAny_bind (wpAny_isSame_ref_self (wpAny_bind (wpAny_pure ?_)))
       try dsimp only
       rw [if_pos rfl]
       try dsimp only
       rw [if_neg (by decide)];exact va T hu i F hN q1 q2 f (r + 1) (by omega) (by omega) (fun r' j' e' a b c => nxt r' j' e' An a b c) _ rfl
end
end Y
namespace Y
open PySem PySem.Spec PyProof.Rows L2
section
variable {prog : Program} {w : World} {A : Around} {E : HR} {s : Shared} {a b : Addr} {es : Ib} {ep : Nat} {t : SetTable} {k : Ie}
theorem eE {h h' : Heap} (i : (TK prog w).is h k b) (keep : ∀ o, h.get? b = some o -> h'.get? b = some o) : (TK prog w).is h' k b := by
 obtain ⟨o, its, n, ho, r⟩ := i;exact ⟨o, its, n, keep o ho, r⟩
theorem E5 {h : Heap} (i : (TK prog w).is h k b) (e : h.get? a = some { cls := .type "set", dict := none, data := .set es ep t, slots := #[] }) : b ≠ a := fun z => by
 subst z;obtain ⟨o, its, n, ho, hc, _⟩ := i;rw [e] at ho;cases ho;exact absurd (show Value.type "set" = Value.type "tuple" from hc) (by decide)
theorem Ac {Q : Bool -> Shared -> Prop} (i : (TK prog w).is s.heap k b) (hk : k ≠ []) (n : Nat) (h : Q false s) : wpAny (model prog w) A (hashByValue (n + 1) (.ref b)) Q E s := by
 have T : s.TypeIs (.ref b) "tuple" := i.typeIs;obtain ⟨o, its, m, ho, hc, hd, hi⟩ := i;unfold hashByValue;refine wpAny_bind (wpAny_specialOf T PySem.F.slot_tuple_hash.lookup ?_);dsimp only;refine wpAny_bind (wpAny_seqItems ho hd ?_);obtain ⟨x, u, r, ex⟩ : ∃ x u r, its.toList = Value.str x u :: r := by
  generalize its.toList = vs at hi
  cases hi with
  | nil => exact absurd rfl hk
  | cons h1 _ =>
   obtain ⟨u, rfl⟩ := Value.isStrOf_shape h1;exact ⟨_, u, _, rfl⟩
 refine wpAny_bind (wpAny_mono (wpAny_forIn_array' (xs := its) _ (fun rest c s' => s' = s /\ rest = its.toList) (fun (c : Option Bool × Unit) s' => c.1 = some false /\ s' = s) ?_ ?_ _ ⟨rfl, rfl⟩) (fun c s' e => ?_) fun _ _ f => f)
 . rintro v rest c s' ⟨rfl, e⟩;rw [ex] at e;cases e;have z : hashByValue n (.str x u) = pure false := by cases n <;> rfl
   rw [z];refine wpAny_bind (wpAny_pure ?_);rw [if_pos (by decide)];exact wpAny_pure ⟨rfl, rfl⟩
 . rintro c s' ⟨_, e⟩;rw [ex] at e;cases e
 . obtain ⟨e1, rfl⟩ := e;rw [e1];exact wpAny_pure h
theorem AK {m n : Nat} (hm : Tb.Mk m) (h1 : n * 5 < m * 3) (h2 : (n + 1) * 5 ≥ m * 3) (h3 : n < 70) : Tb.Mk (SetTable.sizeAbove (SetTable.grown (n + 1)) - 1) /\ (n + 1) * 5 < (SetTable.sizeAbove (SetTable.grown (n + 1)) - 1) * 3 /\ SetTable.sizeAbove (SetTable.grown (n + 1)) <= 128 := by
 rcases hm with rfl | rfl | rfl
 . obtain rfl : n = 4 := by omega
   exact ⟨.inr (.inl (by decide)), by decide, by decide⟩
 . obtain rfl : n = 18 := by omega
   exact ⟨.inr (.inr (by decide)), by decide, by decide⟩
 . omega
theorem z9 {es1 : Ib} {t2 : SetTable} {e2 wanted : Nat} {Q : Unit -> Shared -> Prop} (at' : s.heap.get? a = some { cls := .type "set", dict := none, data := .set es1 e2 t2, slots := #[] }) (fit : t2.fits es1.size = true)
 (hm : Tb.Mk (SetTable.sizeAbove wanted - 1)) (hw : SetTable.sizeAbove wanted <= 128) (hl : es1.size <= SetTable.sizeAbove wanted - 1)
 (q : ∀ es' t', es'.toList.Perm es1.toList -> Tb.Tab t' es' -> t'.mask = SetTable.sizeAbove wanted - 1 -> t'.led = t2.led -> t'.plain = t2.plain -> Q () { s with heap := s.heap.update a (Obj.putSet es' t') }) : wpAny (model prog w) A (setRelay a wanted) Q E s := by
 obtain ⟨t', ord, r1, r2, r3, r4, r5, r6, r7⟩ := Tb.wK (t := t2) (es := es1) hm hl;unfold setRelay;refine wpAny_bind (wpAny_setState_of at' rfl fit ?_);dsimp only;rw [if_neg (by rw [sizeLine_eq]; omega), r1];have ne : ((ord.filterMap (es1[·]?)).size != es1.size) = false := by rw [r5]; simp
 refine wpAny_bind (show wpAny _ _ (if ((ord.filterMap (es1[·]?)).size != es1.size) = true then _ else _) _ _ _ from ?_);rw [ne, if_neg (by decide)];exact wpAny_pure (wpAny_storeSet_of at' rfl (q _ _ r6 r7 r2 r3 r4) (by rw [r5, sizeLine_eq]; omega))
theorem vy {es1 : Ib} {t2 : SetTable} {n : Nat} {R : Bool -> Shared -> Prop} (at' : s.heap.get? a = some { cls := .type "set", dict := none, data := .set es ep t, slots := #[] }) (el : ∀ e ∈ es1.toList, Ct prog w s.heap e) (tb : Tb.Tab t2 es1) (hn : es1.size = n + 1)
 (f0 : n * 5 < t2.mask * 3) (h70 : n < 70) (l2 : told w = false -> t2.led = true) (p2 : t2.plain = false)
 (q : ∀ h' es' ep' t', Heap.SameBut a s.heap h' -> vg prog w h' a es' ep' t' -> es'.toList.Perm es1.toList -> R true { s with heap := h' }) :
 wpAny (model prog w) A (storeSet a es1 t2 >>= fun _ => if (!false && t2.tooFull) = true then (setRelay a (SetTable.grown (n + 1)) >>= fun _ => pure true) else pure true) R E s := by
 have b1 := Heap.SameBut.update s.heap a (Obj.putSet es1 t2);have a1 := kP (es1 := es1) (t1 := t2) at';have ful : t2.tooFull = decide ((n + 1) * 5 ≥ t2.mask * 3) := by
  unfold SetTable.tooFull SetTable.fill;rw [tb.dum, tb.len, hn];rfl
 have tue : ∀ (h' : Heap), Heap.SameBut a s.heap h' -> ∀ e, Ct prog w s.heap e -> Ct prog w h' e := fun h' sb e ⟨k, b, hk, e1, i⟩ => ⟨k, b, hk, e1, eE i fun o ho => by rw [sb.2 b (E5 i at')]; exact ho⟩
 have mle : t2.mask <= 127 := by rcases tb.mks with e | e | e <;> omega
 refine wpAny_bind (wpAny_storeSet_of at' rfl ?_ (by rw [hn, sizeLine_eq]; omega))
 cases hc : t2.tooFull with
 | false =>
  rw [if_neg (by decide)];rw [ful] at hc;exact wpAny_pure (q _ es1 (ep + 1) t2 b1 ⟨a1, fun e he => tue _ b1 e (el e he), tb, by rw [hn]; simpa using hc, l2, fun _ => p2⟩ (.refl _))
 | true =>
  rw [if_pos (by decide)];rw [ful] at hc;obtain ⟨g1, g2, g3⟩ := AK tb.mks f0 (by simpa using hc) h70;have fit : t2.fits es1.size = true := by
   unfold SetTable.fits SetTable.fill;rw [tb.dum, tb.len];simp;omega
  refine wpAny_bind (z9 a1 fit g1 g3 (by omega) fun es' t' pp tb' m' l' p' => wpAny_pure (q _ es' (ep + 1 + 1) t' (b1.trans (Heap.SameBut.update _ a _)) ⟨kP a1, fun e he => tue _ (b1.trans (Heap.SameBut.update _ a _)) e (el e (pp.mem_iff.mp he)), tb', ?_, fun h => l'.trans (l2 h), fun _ => p'.trans p2⟩ pp));have : es'.size = n + 1 := by have := pp.length_eq; simpa [hn] using this
  rw [this, m'];exact g2
theorem Ep {Q : Bool -> Shared -> Prop} (T : vg prog w s.heap a es ep t) (hu : A.units < cLine) (i : (TK prog w).is s.heap k b) (hk : k ≠ []) (hz : es.size < 70)
 (q : ∀ v h' es' ep' t', Heap.SameBut a s.heap h' -> vg prog w h' a es' ep' t' -> (k ∈ lL s.heap es /\ es'.toList.Perm es.toList \/ k ∉ lL s.heap es /\ es'.toList.Perm (es.toList ++ [((TK prog w).hash k, .ref b)])) -> Q v { s with heap := h' }) :
 wpAny (model prog w) A (setAddHashed a (.ref b) ((TK prog w).hash k)) Q E s := by
 have few := T.few;obtain ⟨N, hN, F⟩ := Tb.zP T.tab (by omega : es.size <= t.mask) ((TK prog w).hash k);unfold setAddHashed setAddHashedIn;refine wpAny_holding (wpAny_bind (wpAny_setState_of T.at' rfl T.fit ?_));dsimp only;have ns : byScan (.ref b) es = false := rfl;rw [ns, if_neg (by decide)];refine wpAny_bind ?_;unfold setSearch;refine va T hu i F hN (fun hm => ?_) (fun hm => ?_) 100000 0 (Nat.zero_le _) (by rcases T.tab.mks with e | e | e <;> rw [e] at hN <;> omega) (fun r j e h => absurd h (by omega)) none rfl
 . have := q false s.heap es ep t (Heap.SameBut.refl a s.heap) T (.inl ⟨hm, .refl _⟩);exact wpAny_pure this
 . dsimp only;refine wpAny_bind (wpAny_setState_of T.at' rfl T.fit ?_);dsimp only;have tb1 := Tb.BI (x := Value.ref b) T.tab F;have fin : ∀ h' es' ep' t', Heap.SameBut a s.heap h' -> vg prog w h' a es' ep' t' -> es'.toList.Perm (SetTable.insertAt es (t.put (Tb.js t.mask ((TK prog w).hash k) N)).2 ((TK prog w).hash k, Value.ref b)).toList -> Q true { s with heap := h' } := fun h' es' ep' t' sb T' pp => q true h' es' ep' t' sb T' (.inr ⟨hm, by
    have p1 := pp.trans (SetTable.insertAt_perm ..)
    rwa [Array.toList_push] at p1⟩)
   have el1 : ∀ e ∈ (SetTable.insertAt es (t.put (Tb.js t.mask ((TK prog w).hash k) N)).2 ((TK prog w).hash k, Value.ref b)).toList, Ct prog w s.heap e := fun e he => by
    have := (SetTable.insertAt_perm es (t.put (Tb.js t.mask ((TK prog w).hash k) N)).2 ((TK prog w).hash k, Value.ref b)).mem_iff.mp he;rw [Array.toList_push, mem_append, List.mem_singleton] at this;rcases this with z | z
    . exact T.el e z
    . exact ⟨k, b, hk, z, i⟩
   have sz : (SetTable.insertAt es (t.put (Tb.js t.mask ((TK prog w).hash k) N)).2 ((TK prog w).hash k, Value.ref b)).size = es.size + 1 := by
    have := (SetTable.insertAt_perm es (t.put (Tb.js t.mask ((TK prog w).hash k) N)).2 ((TK prog w).hash k, Value.ref b)).length_eq;simpa using this
   have ld : told w = false -> (t.put (Tb.js t.mask ((TK prog w).hash k) N)).1.led = true := T.led
   cases hp : (t.put (Tb.js t.mask ((TK prog w).hash k) N)).1.plain with
   | true =>
    rw [if_pos rfl];refine wpAny_bind (Ac i hk 7 ?_);exact vy (t2 := { (t.put (Tb.js t.mask ((TK prog w).hash k) N)).1 with plain := false }) T.at' el1 ⟨tb1.mks, tb1.dum, tb1.len, tb1.up, tb1.le, tb1.reach⟩ sz few hz ld rfl fin
   | false =>
    rw [if_neg (by decide)];refine wpAny_bind (wpAny_pure ?_);exact vy (t2 := (t.put (Tb.js t.mask ((TK prog w).hash k) N)).1) T.at' el1 tb1 sz few hz ld hp fin
end
end Y
namespace Y
open PySem PySem.Spec PyProof.Rows L2
section
variable {α : Type} [DecidableEq α]
def gU (ks : List α) (x : α) : List α := if x ∈ ks then ks else ks ++ [x]
def bL (ws : List α) : List α := ws.foldl gU []
theorem xt {k : List α} {x y : α} : y ∈ gU k x ↔ y ∈ k \/ y = x := by
 unfold gU;split
 . rename_i h;exact ⟨.inl, fun z => z.elim id fun e => e ▸ h⟩
 . simp
theorem uc {k : List α} {x : α} (h : k.Nodup) : (gU k x).Nodup := by
 unfold gU;split
 . exact h
 . rename_i e;rw [List.nodup_append];exact ⟨h, by simp, fun a ha b hb z => by rw [List.mem_singleton] at hb; subst hb; subst z; exact e ha⟩
theorem xV (k : List α) (x : α) : (gU k x).length <= k.length + 1 := by
 unfold gU; split <;> simp
theorem mF {y : α} : ∀ (ws k : List α), y ∈ ws.foldl gU k ↔ y ∈ k \/ y ∈ ws
 | [], k => by simp
 | x :: ws, k => by rw [List.foldl_cons, mF ws, xt, mem_cons, or_assoc]
theorem i9 : ∀ (ws : List α) {k : List α}, k.Nodup -> (ws.foldl gU k).Nodup
 | [], _, h => h
 | x :: ws, _, h => i9 ws (uc h)
theorem mJ : ∀ (ws k : List α), (ws.foldl gU k).length <= k.length + ws.length
 | [], k => by simp
 | x :: ws, k => by
  have a := mJ ws (gU k x); have b := xV k x;rw [List.foldl_cons, length_cons]; omega
theorem tF (ws : List α) (x : α) : bL (ws ++ [x]) = gU (bL ws) x := by unfold bL; rw [List.foldl_append]; rfl
theorem fL {ws : List α} {y : α} : y ∈ bL ws ↔ y ∈ ws := by unfold bL; rw [mF]; simp
theorem sF (ws : List α) : (bL ws).Nodup := i9 ws List.nodup_nil
theorem fW (ws : List α) : (bL ws).length <= ws.length := by have := mJ ws []; simpa [bL] using this
end
section
variable {prog : Program} {w : World} {A : Around} {E : HR} {s : Shared} {R : Ic} {S I : Addr} {ts : HQ}
variable {fp wr : List Addr} {G : Array GenState -> Array GenState -> Prop} {n : Nat} {P : Nat -> Value -> Prop} {St : Nat -> Shared -> Prop}
theorem yj {h h' : Heap} {es : Ib} (e1 : ∀ e ∈ es.toList, Ct prog w h e) (e2 : ∀ k b, (TK prog w).is h k b -> (∃ e ∈ es.toList, e.2 = .ref b) -> (TK prog w).is h' k b) : lL h' es = lL h es := by
 unfold lL;refine map_congr_left fun e he => ?_;obtain ⟨k, b, _, ee, i⟩ := e1 e he;rw [show e.2 = .ref b by rw [ee], key_is i, key_is (e2 k b i ⟨e, he, by rw [ee]⟩)]
theorem B8 {V0 : Value -> Prop} (W : WalksS prog w A.in1 I fp wr G n P St) (hu : A.in1.units < cLine) (hS : S ∉ fp) (hts : ts.length = n) (hn : n <= 64) (hP : ∀ i v, P i v -> ∃ b, v = .ref b /\ b ∉ S :: wr /\ (TK prog w).is s.heap (ts.getD i []) b /\ ts.getD i [] ≠ [] /\ V0 v)
 (fin : ∀ s' es ep t, Moved (S :: wr) G s s' -> vg prog w s'.heap S es ep t -> (∀ e ∈ es.toList, Ct prog w s.heap e /\ (∀ b, e.2 = .ref b -> b ∉ S :: wr) /\ V0 e.2) -> (lL s.heap es).Perm (bL ts) -> R (.ok (.ret .none)) s') :
 ∀ (k i : Nat) (s1 : Shared) (es : Ib) (ep : Nat) (t : SetTable), i + k = n -> Moved (S :: wr) G s s1 -> St i s1 -> vg prog w s1.heap S es ep t -> (∀ e ∈ es.toList, Ct prog w s.heap e /\ (∀ b, e.2 = .ref b -> b ∉ S :: wr) /\ V0 e.2) -> (lL s.heap es).Perm (bL (ts.take i)) ->
  codeAny (model prog w) A (.builtin "set.update.loop" ⟨[.ref S, .ref I], []⟩) R s1 := by
 have hw : S ∉ wr := fun h => hS (W.sub _ h);have up : ∀ {a b : Shared}, Moved wr G a b -> Moved (S :: wr) G a b := fun m => m.mono fun _ h => mem_cons_of_mem _ h;have at' : ∀ {a b : Shared} {es : Ib} {ep : Nat} {t : SetTable}, (∀ e ∈ es.toList, ∀ b, e.2 = .ref b -> b ∉ S :: wr) -> Moved wr G a b -> vg prog w a.heap S es ep t -> vg prog w b.heap S es ep t := fun nb m T => ⟨m.heap S _ hw T.at', fun e he => by
  obtain ⟨k, b, hk, ee, i⟩ := T.el e he;exact ⟨k, b, hk, ee, eE i fun o ho => m.heap b o (fun z => nb e he b (by rw [ee]) (mem_cons_of_mem _ z)) ho⟩, T.tab, T.few, T.led, T.pl⟩
 intro k
 induction k with
 | zero =>
  intro i s1 es ep t hi mv st T ne pp;obtain rfl : i = n := by omega
  refine codeAny_builtin F.entry_set_update_loop ?_;rw [Around.under_plainId F.plain_set_update_loop _];refine wpAny_bind (m := pyNext (.ref I)) (W.done s1 _ _ st fun s2 m2 => ?_);refine wpAny_pure (fin s2 es ep t (mv.trans W.gtrans (up m2)) (at' (fun e he => (ne e he).2.1) m2 T) ne ?_)
  rwa [List.take_of_length_le (by omega)] at pp
 | succ k ih =>
  intro i s1 es ep t hi mv st T ne pp;refine codeAny_builtin F.entry_set_update_loop ?_;rw [Around.under_plainId F.plain_set_update_loop _];refine wpAny_bind (m := pyNext (.ref I)) (W.item i s1 _ _ (by omega) st fun v s2 hv st2 m2 => ?_);obtain ⟨b, rfl, nb, ib, hk, hv0⟩ := hP i v hv;generalize hkk : ts.getD i [] = kk at ib hk;have mv2 := mv.trans W.gtrans (up m2);have ib2 : (TK prog w).is s2.heap kk b := eE ib fun o ho => mv2.heap b o nb ho;have hl : (lL s.heap es).length <= i := by
   rw [pp.length_eq];have := fW (ts.take i);rw [length_take] at this; omega
  have hz : es.size = (lL s.heap es).length := by simp [lL]
  have T2 := at' (fun e he => (ne e he).2.1) m2 T;have te : lL s2.heap es = lL s.heap es := yj (prog := prog) (w := w) (fun e he => (ne e he).1) fun k' b' i' ⟨e, he, ee⟩ => eE i' fun o ho => mv2.heap b' o ((ne e he).2.1 b' ee) ho;refine wpAny_bind (m := holding _ (setAdd S (.ref b))) (wpAny_holding (wpAny_holding (wpAny_bind ((TK prog w).pyHash hu ib2 ?_))));refine Ep (s := { s2 with toks := s2.toks + (TK prog w).draws kk }) T2 hu ib2 hk (by omega) fun v h' es' ep' t' sb T' p' => ?_;have p' : kk ∈ lL s2.heap es /\ es'.toList.Perm es.toList \/ kk ∉ lL s2.heap es /\ es'.toList.Perm (es.toList ++ [((TK prog w).hash kk, .ref b)]) := p';have e : ts.take (i + 1) = ts.take i ++ [kk] := by
   rw [List.take_succ, <- hkk, List.getD_eq_getElem?_getD, List.getElem?_eq_getElem (by omega : i < ts.length)]; rfl
  have m3 : Moved (S :: wr) G s1 { s2 with heap := h', toks := s2.toks + (TK prog w).draws kk } := (up m2).then_heap (Nat.le_add_right _ _) fun b o hb e => by rw [sb.2 b fun z => hb (by rw [z]; exact mem_cons_self)]; exact e
  refine wpAny_pure ⟨plainId_quiet F.plain_set_update_loop _, ih (i + 1) _ es' ep' t' (by omega) (mv.trans W.gtrans m3) (W.frame _ s2 _ _ st2 (Nat.le_add_right _ _) fun b hb o e => ?_) T' (fun e he => ?_) ?_⟩
  . rw [sb.2 b fun z => hS (z ▸ hb)]; exact e
  . rcases p' with ⟨_, p'⟩ | ⟨_, p'⟩
    . exact ne e (p'.mem_iff.mp he)
    . rcases mem_append.mp (p'.mem_iff.mp he) with z | z
      . exact ne e z
      . rw [List.mem_singleton] at z;exact ⟨⟨kk, b, hk, z, ib⟩, fun b' e' => by rw [z] at e'; cases e'; exact nb, by rw [z]; exact hv0⟩
  . rw [e, tF];rw [te] at p';rcases p' with ⟨hm, p'⟩ | ⟨hm, p'⟩
    . have e1 : gU (bL (ts.take i)) kk = bL (ts.take i) := if_pos (pp.mem_iff.mp hm);rw [e1];exact (p'.map fun e : Int × Value => ef s.heap e.2).trans pp
    . have e1 : gU (bL (ts.take i)) kk = bL (ts.take i) ++ [kk] := if_neg fun z => hm (pp.mem_iff.mpr z);rw [e1];have p2 := p'.map fun e : Int × Value => ef s.heap e.2;rw [map_append] at p2;have kb : ef s.heap (.ref b) = kk := key_is ib;refine p2.trans ?_;simp only [map_cons, map_nil, kb];exact pp.append_right _
end
end Y
namespace Y
open PySem PySem.Spec PyProof.Rows L2
section
variable {prog : Program} {w : World} {A : Around} {E : HR} {s : Shared} {ts : HQ} {l : Addr} {items : HX}
def uu (prog : Program) (w : World) (s : Shared) (ts : HQ) (items : HX) (s' : Shared) : Prop := ∃ h' tk es ep t, s' = { s with heap := h', toks := tk } /\ vg prog w h' s.heap.objs.size es ep t /\ (lL h' es).Perm (bL ts) /\ (∀ e ∈ es.toList, ∃ i : Nat, items[i]? = some e.2) /\ ∀ b o, s.heap.get? b = some o -> h'.get? b = some o
theorem wW (led : Bool) : Tb.Tab (SetTable.fresh 0 0 led) #[] := ⟨.inl rfl, rfl, rfl, List.Pairwise.nil, (fun j hj => by simp [SetTable.fresh] at hj), (fun i j e h => by simp [SetTable.fresh] at h)⟩
theorem x8 {h : Heap} {k : Ie} {b : Addr} (i : (TK prog w).is h k b) : b < h.objs.size := by
 obtain ⟨o, its, n, ho, _⟩ := i;exact lt_size ho
theorem Br {led : Bool} (hh : A.handled = none) (hu : A.in1.units < cLine) (hl : s.heap.IsList l items) (hz : items.size <= 64) (hts : ts.length = items.size) (hi : ∀ (i : Nat) (v : Value), items[i]? = some v -> ∃ b, v = .ref b /\ (TK prog w).is s.heap (ts.getD i []) b /\ ts.getD i [] ≠ []) (hled : told w = false -> led = true) :
 wpAny (model prog w) A (Builtin.«set.__init__» ⟨[.ref s.heap.objs.size, .ref l], []⟩) (fun x s' => x = .done (.ret .none) /\ uu prog w s ts items s') (fun _ _ => False) { s with heap := s.heap.push { cls := .type "set", dict := none, data := .set #[] 0 (.fresh 0 0 led) } } := by
 have at0 : (s.heap.push { cls := .type "set", dict := none, data := .set #[] 0 (.fresh 0 0 led) }).get? s.heap.objs.size = some { cls := .type "set", dict := none, data := .set #[] 0 (.fresh 0 0 led) } := get?_push_size _ rfl;have hl1 := hl.push { cls := .type "set", dict := none, data := .set #[] 0 (.fresh 0 0 led) };obtain ⟨o, ho, hc, _⟩ := id hl1;have ll : l < s.heap.objs.size := by
  obtain ⟨o, ho, _⟩ := id hl;exact lt_size ho
 have hsz : (s.heap.push { cls := .type "set", dict := none, data := .set #[] 0 (.fresh 0 0 led) }).objs.size = s.heap.objs.size + 1 := size_push' ..;have old : ∀ b o, s.heap.get? b = some o -> (s.heap.push { cls := .type "set", dict := none, data := .set #[] 0 (.fresh 0 0 led) }).get? b = some o := fun b o e => get?_push_of_some _ e;generalize s.heap.push { cls := .type "set", dict := none, data := .set #[] 0 (.fresh 0 0 led) } = h1 at hl1 at0 ho hsz old ⊢;unfold Builtin.«set.__init__»;generalize hU : Builtin.Frozenset.updateFrom = U;wp_walk using wpAny_loadPart' at0;subst hU;unfold Builtin.Frozenset.updateFrom;have ne : (Value.type "list" == Value.type "dict") = false := by decide
 refine wpAny_bind (sv hl1 ?_);rw [if_neg (by decide)];refine wpAny_bind (wpAny_typeOf (T := "list") ⟨o, ho, hc⟩ ?_);rw [ne, if_neg (by decide)];refine wpAny_bind (wpAny_pyIter_list hl1 (wpAny_bind (wpAny_runValue ?_)));have hni : l ≠ h1.objs.size := by rw [hsz]; exact Nat.ne_of_lt (Nat.lt_succ_of_lt ll)
 have hS : s.heap.objs.size ∉ [h1.objs.size, l] := by
  rw [hsz];intro z;rcases mem_cons.mp z with z | z
  . exact absurd z (Nat.ne_of_lt (Nat.lt_succ_self _))
  . exact absurd (List.mem_singleton.mp z) (Nat.ne_of_gt ll)
 have hh1 : A.in1.handled = none := hh;have W := (Walks.list (prog := prog) (w := w) (A := A.in1) hh1 h1.objs.size l hni items).toS;have kp : ∀ b o, s.heap.get? b = some o -> (h1.push { cls := .type "list_iterator", data := .fields #[.ref l, .int 0 0] }).get? b = some o := fun b o e => get?_push_of_some _ (old b o e);have nin : ∀ b, b < s.heap.objs.size -> b ∉ [s.heap.objs.size, h1.objs.size] := fun b hb z => by
  rcases mem_cons.mp z with z | z
  . exact absurd z (Nat.ne_of_lt hb)
  . exact absurd (List.mem_singleton.mp z) (Nat.ne_of_lt (by rw [hsz]; exact Nat.lt_succ_of_lt hb))
 refine B8 (s := { s with heap := h1.push { cls := .type "list_iterator", data := .fields #[.ref l, .int 0 0] } }) (ts := ts) (V0 := fun v => ∃ i : Nat, items[i]? = some v) W hu hS hts (by omega) (fun i v hv => ?_) (fun s' es ep t m T el pp => ?_) items.size 0 _ #[] 0 (.fresh 0 0 led) (Nat.zero_add _) (Moved.refl W.grefl) ⟨⟨_, get?_push_size _ rfl, rfl, rfl⟩, hl1.push _⟩ ⟨get?_push_of_some _ at0, fun e he => by simp at he, wW led, (by show 0 * 5 < 7 * 3; decide), hled, fun h => absurd rfl h⟩ (fun e he => by simp at he) (by simp [lL, bL])
 . obtain ⟨b, rfl, ib, hk⟩ := hi i v hv;exact ⟨b, rfl, nin b (x8 ib), eE ib (fun o ho => kp b o ho), hk, i, hv⟩
 . obtain ⟨h', g', d', tk', os'⟩ := s';have e1 : g' = s.gens := m.gens;have e2 : d' = s.drawn := m.drawn;have e3 : os' = s.os := m.os;subst e1 e2 e3;have te : lL h' es = lL (h1.push { cls := .type "list_iterator", data := .fields #[.ref l, .int 0 0] }) es := yj (prog := prog) (w := w) (fun e he => (el e he).1) fun k' b' i' ⟨e, he, ee⟩ => eE i' fun o ho => m.heap b' o ((el e he).2.1 b' ee) ho;refine wpAny_pure (wpAny_pure ⟨rfl, h', tk', es, ep, t, rfl, T, by rw [te]; exact pp, fun e he => (el e he).2.2, fun b o e => ?_⟩);exact m.heap b o (nin b (lt_size e)) (kp b o e)
theorem vN {Q : HR} (hh : A.handled = none) (hu : A.units + 4 < cLine) (hl : s.heap.IsList l items) (hz : items.size <= 64) (hts : ts.length = items.size) (hi : ∀ (i : Nat) (v : Value), items[i]? = some v -> ∃ b, v = .ref b /\ (TK prog w).is s.heap (ts.getD i []) b /\ ts.getD i [] ≠ [])
 (q : ∀ s', uu prog w s ts items s' -> Q (.ref s.heap.objs.size) s') : wpAny (model prog w) A (call (.type "set") [.ref l]) Q E s := by
 obtain ⟨c, tl, hmro⟩ := PySem.F.called_set.mro;have f1 := PySem.F.called_set.made;have f2 := PySem.F.called_set.sub;have f3 := PySem.F.called_set.notType;have f4 := PySem.F.called_set.canCreate;have f5 := PySem.F.typeCall_set_1 (.ref l);have quiet : (Code.builtin "type.__call__" ⟨[.type "set", .ref l], []⟩).quiet = true := Code.quiet_builtin _ (by decide +kernel);refine wpAny_call (codeAny_of_tree (show wpAny _ _ (callAny (.type "set") _) _ _ _ from wpAny_pure ⟨quiet, codeAny_builtin PySem.F.entry_type_call ?_⟩));rw [Around.under_plain (weight_type_call_type "set" [.ref l] []) (units_type_call_type "set" [.ref l] [])]
 repeat any_goals first | assumption | wp_step
 let N : Shared := { s with heap := s.heap.push { cls := .type "set", dict := none, data := .set #[] 0 (.fresh 0 0 (!told w)) } }
 refine codeAny_mono (yF (prog := prog) (w := w) (E := fun _ _ => False) (s := s) (.ref l) (Q := fun o st => o = .ref s.heap.objs.size /\ st = N) ⟨rfl, rfl⟩) fun r s1 hr => ?_;rcases r with e | f
 . exact hr.elim
 cases f <;> first | exact hr.elim | skip
 obtain ⟨rfl, rfl⟩ := hr;have T : N.TypeIs (.ref s.heap.objs.size) "set" := ⟨_, get?_push_size _ rfl, rfl⟩
 refine wpAny_bind (wpAny_isInstance (b := true) T f2 ?_);rw [if_neg (by decide)];refine wpAny_bind (wpAny_holding (wpAny_callSpecial?_slot T PySem.F.called_set.init ?_));refine wpAny_call (codeAny_call_builtin PySem.F.called_set.init.plain PySem.F.entry_set_init (PySem.check_set_init_1 T ?_));refine wpAny_mono (Br (ts := ts) (led := !told w) hh (by show A.units + 1 + 1 + 1 < cLine; omega) hl hz hts hi fun h => by rw [h]; rfl) (fun x s' e => ?_) fun _ _ f => f.elim;obtain ⟨rfl, e⟩ := e;exact wpAny_pure (q s' e)
end
end Y
namespace Y
open PySem PySem.Spec PyProof.Rows L2
def m5 (first : Value) (i : Nat) (a : Addr) (n ep : Nat) : Obj := { cls := .type "set_iterator", dict := none, data := .fields #[first, .int i 0, .ref a, .int n 0, .int ep 0], slots := #[] }
abbrev fy (es : Ib) (ep : Nat) (t : SetTable) : Obj := { cls := .type "set", dict := none, data := .set es ep t, slots := #[] }
section
variable {prog : Program} {w : World} {A : Around} {E : HR} {s : Shared} {a it : Addr} {es : Ib} {ep i : Nat} {t : SetTable} {first : Value} {x : Value} {nx : Nat}
theorem qy {f : Int} (ho : s.heap.get? it = some (m5 (.int f 0) i a es.size ep)) (hs : s.heap.get? a = some (fy es ep t)) (hf : t.fits es.size = true)
 (hn : ∀ (Q : Option (Value × Nat) -> Shared -> Prop) (E : HR), Q (some (x, nx)) s -> wpAny (model prog w) A (setNext a f.toNat i ep) Q E s) :
 wpAny (model prog w) A (Builtin.«set_iterator.__next__» ⟨[.ref it], []⟩) (fun z s' => z = .done (.ret x) /\ ∃ h', s' = { s with heap := h' } /\ Heap.SameBut it s.heap h' /\ h'.get? it = some (m5 (.int nx 0) (i + 1) a es.size ep)) (fun _ _ => False) s := by
 obtain ⟨hp, g, d, tk, os⟩ := s;unfold Builtin.«set_iterator.__next__»;generalize hN : setNext = N at hn;generalize hL : setEntries = L;wp_walk using wpAny_loadPart' ho;subst hN hL;refine wpAny_setEntries_of hs rfl hf ?_;have ne : ((es.size : Int) != (es.size : Int)) = false := by simp
 dsimp only;rw [ne, if_neg (by decide)];refine wpAny_bind (hn _ _ ?_);have u0 := Heap.get?_update_self (Obj.mapFields (·.setIfInBounds 0 (rawInt (nx : Int)))) ho rfl;have u1 := Heap.get?_update_self (Obj.mapFields (·.setIfInBounds 1 (rawInt ((i : Int) + 1)))) u0 rfl;refine wpAny_bind (wpAny_setField ho rfl (by show 0 < 5; decide) (wpAny_bind (wpAny_setField u0 rfl (by show 1 < 5; decide) (wpAny_pure ⟨rfl, _, rfl, (Heap.SameBut.update ..).trans (Heap.SameBut.update ..), ?_⟩))));rw [u1];rfl
theorem qF {f : Int} (hh : A.handled = none) (ho : s.heap.get? it = some (m5 (.int f 0) i a es.size ep)) (hs : s.heap.get? a = some (fy es ep t)) (hf : t.fits es.size = true)
 (hn : ∀ (Q : Option (Value × Nat) -> Shared -> Prop) (E : HR), Q none s -> wpAny (model prog w) A (setNext a f.toNat i ep) Q E s) :
 wpAny (model prog w) A (Builtin.«set_iterator.__next__» ⟨[.ref it], []⟩) (fun _ _ => False) (fun z s' => ∃ h' e, z = .ref e /\ s' = { s with heap := h' } /\ Heap.ExtBut it s.heap h' /\ ∃ o, h'.get? e = some o /\ o.cls = .type "StopIteration") s := by
 obtain ⟨hp, g, d, tk, os⟩ := s;unfold Builtin.«set_iterator.__next__»;generalize hN : setNext = N at hn;generalize hL : setEntries = L;wp_walk using wpAny_loadPart' ho;subst hN hL;refine wpAny_setEntries_of hs rfl hf ?_;have ne : ((es.size : Int) != (es.size : Int)) = false := by simp
 dsimp only;rw [ne, if_neg (by decide)];refine wpAny_bind (hn _ _ (wpAny_bind (wpAny_setField ho rfl (by show 2 < 5; decide) ?_)));unfold newExc newTuple raiseNew;wp_walk using wpAny_newObj_type
 . exact ⟨_, _, rfl, rfl, ((Heap.SameBut.update ..).extBut.push _).push _, _, get?_push_size _ rfl, rfl⟩
 all_goals size_fits
theorem jU {Q : Bool -> Shared -> Prop} (h : Q (told w) s) : wpAny (model prog w) A setsByText Q E s := by
 unfold setsByText;exact wpAny_bind (wpAny_askSetting (wpAny_pure h))
theorem mS {slot : Nat} {Q : Option (Value × Nat) -> Shared -> Prop} (ht : told w = true) (hs : s.heap.get? a = some (fy es ep t)) (hf : t.fits es.size = true)
 (h : Q (((pickOrder (w.params.setOrder a ep) es)[i]?).map fun e => (e.2, slot)) s) : wpAny (model prog w) A (setNext a slot i ep) Q E s := by
 unfold setNext;refine wpAny_bind (wpAny_setState_of hs rfl hf ?_);refine wpAny_bind (jU ?_);rw [ht];have ne : (ep != ep) = false := by simp
 dsimp only;rw [if_pos rfl, ne, if_neg (by decide)];refine wpAny_bind ?_;unfold setWalk;refine wpAny_bind (wpAny_setState_of hs rfl hf (wpAny_bind (jU ?_)));rw [ht];rw [if_pos rfl];exact wpAny_bind (wpAny_askSetting (wpAny_pure (wpAny_pure h)))
theorem DZ (p : Array Nat) (h : p.size <= 1) : SetTable.below p 0 = 0 := by
 unfold SetTable.below
 match p, h with
 | ⟨[]⟩, _ => rfl
 | ⟨[j]⟩, _ => simp [SetTable.below.go]
theorem Ey (j : Nat) : SetTable.below #[j] (j + 1) = 1 := by
 unfold SetTable.below;simp [SetTable.below.go]
theorem rE {slot : Nat} {Q : Option (Value × Nat) -> Shared -> Prop} (ht : told w = false) (hs : s.heap.get? a = some (fy es ep t)) (hf : t.fits es.size = true) (hl : t.led = true) (h1 : es.size <= 1)
 (h : Q (match es[SetTable.below t.place slot]?, t.place[SetTable.below t.place slot]? with | some (_, x), some j => some (x, j + 1) | _, _ => none) s) : wpAny (model prog w) A (setNext a slot i ep) Q E s := by
 unfold setNext;refine wpAny_bind (wpAny_setState_of hs rfl hf ?_);refine wpAny_bind (jU ?_);rw [ht];have nd : (!t.plain && decide (es.size > 1)) = false := by simp; intro _; omega
 show wpAny _ _ (if (!t.plain && decide (es.size > 1)) = true then _ else _) _ _ _;rw [nd, if_neg (by decide)];show wpAny _ _ ((if (!t.led && !es.isEmpty) = true then _ else _) >>= _) _ _ _;rw [hl, if_neg (by simp)];exact wpAny_bind (wpAny_pure (wpAny_pure h))
abbrev gs (ps : Ih) : Obj := { cls := .type "tuple", dict := none, data := .seq (ps.map fun p : Nat => rawInt p).toArray, slots := #[] }
theorem uh {p : Nat} {h0 : Int} {Q : HR} (hs : s.heap.get? a = some (fy es ep t)) (hf : t.fits es.size = true) (hp : es[p]? = some (h0, x)) (h : Q x s) : wpAny (model prog w) A (setNextDrawn a p ep) Q E s := by
 unfold setNextDrawn;refine wpAny_bind (wpAny_setState_of hs rfl hf ?_);have ne : (ep != ep) = false := by simp
 dsimp only;rw [ne, if_neg (by decide), hp];exact wpAny_pure h
theorem tJ {tup : Addr} {ps : Ih} {p : Nat} {h0 : Int} (ho : s.heap.get? it = some (m5 (.ref tup) i a es.size ep)) (hs : s.heap.get? a = some (fy es ep t)) (ht : s.heap.get? tup = some (gs ps)) (hf : t.fits es.size = true) (hi : ps[i]? = some p) (hp : es[p]? = some (h0, x)) :
 wpAny (model prog w) A (Builtin.«set_iterator.__next__» ⟨[.ref it], []⟩) (fun z s' => z = .done (.ret x) /\ ∃ h', s' = { s with heap := h' } /\ Heap.SameBut it s.heap h' /\ h'.get? it = some (m5 (.ref tup) (i + 1) a es.size ep)) (fun _ _ => False) s := by
 obtain ⟨hp', g, d, tk, os⟩ := s;have e1 : (ps.map fun p : Nat => rawInt (p : Int)).toArray[((i : Nat) : Int).toNat]? = some (Value.int (p : Int) 0) := by
  rw [Int.toNat_natCast, List.getElem?_toArray, getElem?_map, hi]; rfl
 unfold Builtin.«set_iterator.__next__»;generalize hN : setNextDrawn = N;generalize hL : setEntries = L;wp_walk using wpAny_loadPart' ho, wpAny_loadPart' ht;subst hL;refine wpAny_setEntries_of hs rfl hf ?_;have ne : ((es.size : Int) != (es.size : Int)) = false := by simp
 dsimp only;rw [ne, if_neg (by decide)];wp_walk using wpAny_loadPart' ht;rw [e1];subst hN;have u1 := Heap.get?_update_self (Obj.mapFields (·.setIfInBounds 1 (rawInt ((i : Int) + 1)))) ho rfl;refine wpAny_bind (uh (p := p) hs hf hp ?_);exact wpAny_bind (wpAny_setField ho rfl (by show 1 < 5; decide) (wpAny_pure ⟨rfl, _, rfl, Heap.SameBut.update .., u1⟩))
theorem tR {tup : Addr} {ps : Ih} (hh : A.handled = none) (ho : s.heap.get? it = some (m5 (.ref tup) i a es.size ep)) (hs : s.heap.get? a = some (fy es ep t)) (ht : s.heap.get? tup = some (gs ps)) (hf : t.fits es.size = true) (hi : ps[i]? = none) :
 wpAny (model prog w) A (Builtin.«set_iterator.__next__» ⟨[.ref it], []⟩) (fun _ _ => False) (fun z s' => ∃ h' e, z = .ref e /\ s' = { s with heap := h' } /\ Heap.ExtBut it s.heap h' /\ ∃ o, h'.get? e = some o /\ o.cls = .type "StopIteration") s := by
 obtain ⟨hp', g, d, tk, os⟩ := s;have e1 : (ps.map fun p : Nat => rawInt (p : Int)).toArray[((i : Nat) : Int).toNat]? = none := by
  rw [Int.toNat_natCast, List.getElem?_toArray, getElem?_map, hi]; rfl
 unfold Builtin.«set_iterator.__next__»;generalize hL : setEntries = L;wp_walk using wpAny_loadPart' ho, wpAny_loadPart' ht;subst hL;refine wpAny_setEntries_of hs rfl hf ?_;have ne : ((es.size : Int) != (es.size : Int)) = false := by simp
 dsimp only;rw [ne, if_neg (by decide)];wp_walk using wpAny_loadPart' ht;rw [e1];have u0 := Heap.get?_update_self (Obj.mapFields (·.setIfInBounds 0 (rawInt 0))) ho rfl;refine wpAny_bind (wpAny_setField ho rfl (by show 0 < 5; decide) (wpAny_bind (wpAny_setField u0 rfl (by show 2 < 5; decide) ?_)));unfold newExc newTuple raiseNew;wp_walk using wpAny_newObj_type
 . exact ⟨_, _, rfl, rfl, (((Heap.SameBut.update ..).trans (Heap.SameBut.update ..)).extBut.push _).push _, _, get?_push_size _ rfl, rfl⟩
 all_goals size_fits
end
def oj (it a : Addr) (es : Ib) (ep n : Nat) (pins : HZ) (first : Nat -> Value) (i : Nat) (h : Heap) : Prop := h.get? it = some (m5 (first i) i a n ep) /\ ∀ p ∈ pins, h.get? p.1 = some p.2
section
variable {prog : Program} {w : World} {A : Around} {a it : Addr} {es : Ib} {ep n : Nat} {pins : HZ} {first : Nat -> Value} {ord : HW}
theorem lH (hh : A.handled = none) (hne : ∀ p ∈ pins, p.1 ≠ it) (hl : ord.length = n)
 (item : ∀ (i : Nat) (s : Shared) (x : Value), ord[i]? = some x -> oj it a es ep n pins first i s.heap -> wpAny (model prog w) A.in1 (Builtin.«set_iterator.__next__» ⟨[.ref it], []⟩) (fun z s' => z = .done (.ret x) /\ ∃ h', s' = { s with heap := h' } /\ Heap.SameBut it s.heap h' /\ h'.get? it = some (m5 (first (i + 1)) (i + 1) a n ep)) (fun _ _ => False) s)
 (done : ∀ (s : Shared), oj it a es ep n pins first n s.heap -> wpAny (model prog w) A.in1 (Builtin.«set_iterator.__next__» ⟨[.ref it], []⟩) (fun _ _ => False) (fun z s' => ∃ h' e, z = .ref e /\ s' = { s with heap := h' } /\ Heap.ExtBut it s.heap h' /\ ∃ o, h'.get? e = some o /\ o.cls = .type "StopIteration") s) :
 Walks prog w A it (it :: pins.map (·.1)) [it] n (fun i v => ord[i]? = some v) (oj it a es ep n pins first) where
 sub := fun b hb => by rw [List.mem_singleton.mp hb]; exact mem_cons_self
 frame := fun i h h' st k => ⟨k it mem_cons_self _ st.1, fun p hp => k p.1 (mem_cons_of_mem _ (mem_map.mpr ⟨p, hp, rfl⟩)) _ (st.2 p hp)⟩
 item := fun i s Q E hi st q => by
  have T : s.TypeIs (.ref it) "set_iterator" := ⟨_, st.1, rfl⟩
  have hg : ord[i]? = some ord[i] := List.getElem?_eq_getElem (by omega);have run := wpAny_call_entry (prog := prog) (w := w) (A := A) (E := fun _ _ => False) (s := s) (Q := fun v s' => v = ord[i] /\ ∃ h', s' = { s with heap := h' } /\ Heap.SameBut it s.heap h' /\ h'.get? it = some (m5 (first (i + 1)) (i + 1) a n ep)) Sw.slot_next T Sw.entry_next (wpAny_mono (item i s _ hg st) (fun z s' e => ⟨_, e.1, rfl, e.2⟩) fun _ _ f => f) (Sw.args_next _);unfold pyNext;refine wpAny_bind (wpAny_attempt (wpAny_callSpecial?_slot T Sw.slot_next (wpAny_mono run ?_ fun _ _ f => f.elim)));rintro v s' ⟨rfl, h', rfl, k1, k2⟩;refine wpAny_pure (q _ h' s.toks hg ⟨k2, fun p hp => ?_⟩ fun b o hb e => ?_)
  . rw [k1.2 p.1 (hne p hp)]; exact st.2 p hp
  . rw [k1.2 b fun z => hb (by rw [z]; exact List.mem_singleton.mpr rfl)]; exact e
 done := fun s Q E st q => by
  have T : s.TypeIs (.ref it) "set_iterator" := ⟨_, st.1, rfl⟩
  have run := wpAny_call_entry (prog := prog) (w := w) (A := A) (E := fun z s' => ∃ h' e, z = .ref e /\ s' = { s with heap := h' } /\ Heap.ExtBut it s.heap h' /\ ∃ o, h'.get? e = some o /\ o.cls = .type "StopIteration") (s := s) (Q := fun _ _ => False) Sw.slot_next T Sw.entry_next (wpAny_mono (done s st) (fun _ _ f => f.elim) fun _ _ f => f) (Sw.args_next _);unfold pyNext;refine wpAny_bind (wpAny_attempt (wpAny_callSpecial?_slot T Sw.slot_next (wpAny_mono run (fun _ _ f => f.elim) ?_)));rintro z s' ⟨h', e, rfl, rfl, k1, o, k2, k3⟩;refine wpAny_bind (wpAny_isInstance (b := true) ⟨o, k2, k3⟩ isSubtype_stop (wpAny_pure (q h' s.toks fun b o hb e => k1 b o (fun z => hb (by rw [z]; exact List.mem_singleton.mpr rfl)) e)))
 self := fun i s Q E st q => by
  have T : s.TypeIs (.ref it) "set_iterator" := ⟨_, st.1, rfl⟩
  refine wpAny_pyIter_slot T Sw.mI (wpAny_call_entry Sw.mI T Sw.t9 ?_ (Sw.vX _));show wpAny (model prog w) _ (ret (.ref it)) _ _ s;exact wpAny_pure ⟨_, rfl, "set_iterator", _, T, Sw.slot_next.lookup, q⟩
end
end Y
namespace Y
open PySem PySem.Spec PyProof.Rows L2
structure Ci (prog : Program) (w : World) (A : Around) (s : Shared) (a : Addr) (es : Ib) (it : Addr) (h' : Heap) : Prop where
 keep : ∀ b o, s.heap.get? b = some o -> h'.get? b = some o
 le : s.heap.objs.size <= it
 walk : ∃ (ord : HW) (fp : List Addr) (St : Nat -> Heap -> Prop), ord.Perm (es.toList.map (·.2)) /\ Walks prog w A it fp [it] ord.length (fun i v => ord[i]? = some v) St /\ St 0 h' /\ (∀ b ∈ fp, b = a \/ s.heap.objs.size <= b) /\ ∀ b ∈ fp, b < h'.objs.size
section
variable {prog : Program} {w : World} {A : Around} {E : HR} {s : Shared} {a : Addr} {es : Ib} {ep : Nat} {t : SetTable}
theorem yU {Q : Bool -> Shared -> Prop} (T : SL w s.heap a es ep t) (h : Q (!told w && (!t.plain && decide (es.size > 1))) s) : wpAny (model prog w) A (setDrawn a) Q E s := by
 unfold setDrawn;exact wpAny_bind (wpAny_setState_of T.at' rfl T.fit (wpAny_bind (jU (wpAny_pure h))))
theorem uj {it tup : Addr} {ys : Ih} (hh : A.handled = none) (hf : t.fits es.size = true) (ha : a ≠ it) (ht : tup ≠ it) (hy : ∀ p ∈ ys, p < es.size) (hl : ys.length = es.size) :
 Walks prog w A it [it, a, tup] [it] es.size (fun i v => (ys.map fun p => ((es[p]?).map (·.2)).getD .none)[i]? = some v) (oj it a es ep es.size [(a, fy es ep t), (tup, gs ys)] fun _ => .ref tup) := by
 have hh1 : A.in1.handled = none := hh;refine lH (pins := [(a, fy es ep t), (tup, gs ys)]) hh ?_ (by simp [hl]) (fun i s x hx st => ?_) fun s st => ?_
 . intro p hp;rcases mem_cons.mp hp with rfl | hp
   . exact ha
   . rw [List.mem_singleton.mp hp]; exact ht
 . rw [getElem?_map] at hx
   cases hq : ys[i]? with
   | none => rw [hq] at hx; cases hx
   | some p =>
    rw [hq] at hx;have hp := hy p (mem_of_getElem? hq);have hx : ((es[p]?).map (·.2)).getD .none = x := by simpa using hx
    rw [Array.getElem?_eq_getElem hp] at hx;exact tJ (h0 := es[p].1) st.1 (st.2 _ mem_cons_self) (st.2 (tup, gs ys) (by simp)) hf hq (by rw [Array.getElem?_eq_getElem hp, <- hx]; rfl)
 . exact tR hh1 st.1 (st.2 _ mem_cons_self) (st.2 (tup, gs ys) (by simp)) hf (List.getElem?_eq_none (by omega))
theorem vV {it : Addr} (hh : A.handled = none) (hw : told w = true) (hf : t.fits es.size = true) (ha : a ≠ it) :
 Walks prog w A it [it, a] [it] es.size (fun i v => ((pickOrder (w.params.setOrder a ep) es).toList.map (·.2))[i]? = some v) (oj it a es ep es.size [(a, fy es ep t)] fun _ => .int 0 0) := by
 have hh1 : A.in1.handled = none := hh;have hz := (nD (w.params.setOrder a ep) es).length_eq;rw [Array.length_toList, Array.length_toList] at hz;refine lH (pins := [(a, fy es ep t)]) hh (fun p hp => by rw [List.mem_singleton.mp hp]; exact ha) (by simp [hz]) (fun i s x hx st => ?_) fun s st => ?_
 . refine qy (nx := 0) st.1 (st.2 _ mem_cons_self) hf fun Q E h => mS hw (st.2 _ mem_cons_self) hf ?_;rw [getElem?_map, Array.getElem?_toList] at hx
   cases hq : (pickOrder (w.params.setOrder a ep) es)[i]? with
   | none => rw [hq] at hx; cases hx
   | some e =>
    rw [hq] at hx;cases hx;exact h
 . refine qF hh1 st.1 (st.2 _ mem_cons_self) hf fun Q E h => mS hw (st.2 _ mem_cons_self) hf ?_;rw [Array.getElem?_eq_none (by omega)];exact h
theorem x6 {it : Addr} (hh : A.handled = none) (hw : told w = false) (hled : t.led = true) (h1 : es.size <= 1) (hf : t.fits es.size = true) (ha : a ≠ it) :
 Walks prog w A it [it, a] [it] es.size (fun i v => (es.toList.map (·.2))[i]? = some v) (oj it a es ep es.size [(a, fy es ep t)] fun i => .int (if i = 0 then 0 else t.place.getD 0 0 + 1 : Nat) 0) := by
 have hh1 : A.in1.handled = none := hh;have hp : t.place.size = es.size := by
  have := hf;unfold SetTable.fits at this;simp at this;exact this.1
 refine lH (pins := [(a, fy es ep t)]) hh (fun p hp => by rw [List.mem_singleton.mp hp]; exact ha) (by simp) (fun i s x hx st => ?_) fun s st => ?_
 . have hi : i < es.size := by have := (List.getElem?_eq_some_iff.mp hx).1; simpa using this
   obtain rfl : i = 0 := by omega
   refine qy (nx := t.place.getD 0 0 + 1) st.1 (st.2 _ mem_cons_self) hf fun Q E h => rE hw (st.2 _ mem_cons_self) hf hled h1 ?_;have e0 : ((((if (0 : Nat) = 0 then 0 else t.place.getD 0 0 + 1 : Nat) : Int)).toNat) = 0 := rfl;rw [e0, DZ _ (by omega), Array.getElem?_eq_getElem hi, Array.getElem?_eq_getElem (by omega : 0 < t.place.size)];rw [getElem?_map, Array.getElem?_toList, Array.getElem?_eq_getElem hi] at hx;cases hx;have e1 : t.place.getD 0 0 = t.place[0]'(by omega) := by simp [Array.getD, (by omega : 0 < t.place.size)]
   rw [e1] at h;exact h
 . refine qF hh1 st.1 (st.2 _ mem_cons_self) hf fun Q E h => rE hw (st.2 _ mem_cons_self) hf hled h1 ?_;have e : es[SetTable.below t.place (((if es.size = 0 then 0 else t.place.getD 0 0 + 1 : Nat) : Int)).toNat]? = none := by
    by_cases z : es.size = 0
    . exact Array.getElem?_eq_none (by omega)
    . rw [if_neg z, Int.toNat_natCast];have hp1 : t.place.size = 1 := by omega
      obtain ⟨j, hj⟩ : ∃ j, t.place = #[j] := by
       generalize t.place = p at hp1
       match p, hp1 with
       | ⟨[j]⟩, _ => exact ⟨j, rfl⟩
      rw [hj];show es[SetTable.below #[j] (j + 1)]? = none;rw [Ey];exact Array.getElem?_eq_none (by omega)
   rw [e];exact h
theorem xu {Q : HR} (hh : A.handled = none) (T : SL w s.heap a es ep t) (hz : es.size + 2 <= sizeLine) (q : ∀ it h' d, Ci prog w A s a es it h' -> Q (.ref it) { s with heap := h', drawn := d }) : wpAny (model prog w) A (pyIter (.ref a)) Q E s := by
 have Ty : s.TypeIs (.ref a) "set" := ⟨_, T.at', rfl⟩
 have la := lt_size T.at';refine wpAny_pyIter_slot Ty PySem.F.slot_set_iter (wpAny_call_entry PySem.F.slot_set_iter Ty Sw.xc ?_ (PySem.F.args_set_iter_1 _));have fin : ∀ (it : Addr) (h' : Heap) (d : Drawn) (f : Value), Ci prog w A s a es it h' -> h'.get? it = some (m5 f 0 a es.size ep) -> ∃ v, Fin.done (.ret (.ref it)) = Fin.done (.ret v) /\ ∃ T' r, Shared.TypeIs { s with heap := h', drawn := d } v T' /\ typeLookup (.type T') "__next__" = pure (some r) /\ Q v { s with heap := h', drawn := d } :=
  fun it h' d f S e => ⟨_, rfl, "set_iterator", _, ⟨_, e, rfl⟩, Sw.slot_next.lookup, q it h' d S⟩
 unfold Builtin.«frozenset.__iter__»;generalize hD : setDrawn = D;generalize hL : Builtin.Frozenset.sizeOf = L;generalize hP : setEpoch = P;generalize hN : newFields = N;generalize hO : @drawOrder = O;wp_walk;subst hD hL hP hN hO;unfold Builtin.Frozenset.sizeOf;refine wpAny_bind (wpAny_setEntries_of T.at' rfl T.fit (wpAny_pure ?_));refine wpAny_bind (yU T ?_);dsimp only;have hz1 : ∀ o : Obj, (s.heap.push o).objs.size = s.heap.objs.size + 1 := fun o => size_push' ..
 cases hc : (!told w && (!t.plain && decide (es.size > 1))) with
 | true =>
  rw [if_pos rfl];refine wpAny_bind (rN es.size (List.range es.size) (by simp) fun ys d pp => ?_);have hl : ys.length = es.size := by rw [pp.length_eq]; simp
  have hy : ∀ p ∈ ys, p < es.size := fun p hp => by simpa using pp.mem_iff.mp hp
  have hsz : sizeOk (.seq (ys.map fun p : Nat => rawInt p).toArray) := by
   show (ys.map fun p : Nat => rawInt p).toArray.size <= sizeLine;rw [size_toArray, length_map, hl]; omega
  refine wpAny_bind (wpAny_newObj_type ?_ hsz);have at1 := get?_push_of_some (gs ys) T.at';refine wpAny_bind (wpAny_setEpoch_of (s := { s with heap := s.heap.push (gs ys), drawn := d }) at1 rfl T.fit ?_);refine wpAny_bind (wpAny_newObj_type (wpAny_pure ?_));have gt : ((s.heap.push (gs ys)).push (m5 (.ref s.heap.objs.size) 0 a es.size ep)).get? s.heap.objs.size = some (gs ys) := get?_push_of_some _ (get?_push_size _ rfl);have gi : ((s.heap.push (gs ys)).push (m5 (.ref s.heap.objs.size) 0 a es.size ep)).get? (s.heap.push (gs ys)).objs.size = some (m5 (.ref s.heap.objs.size) 0 a es.size ep) := get?_push_size _ rfl;have ga := get?_push_of_some (m5 (.ref s.heap.objs.size) 0 a es.size ep) at1;refine fin (s.heap.push (gs ys)).objs.size _ d (.ref s.heap.objs.size) ⟨fun b o e => get?_push_of_some _ (get?_push_of_some _ e), by rw [hz1]; exact Nat.le_succ _, ys.map fun p => ((es[p]?).map (·.2)).getD .none, [(s.heap.push (gs ys)).objs.size, a, s.heap.objs.size], oj (s.heap.push (gs ys)).objs.size a es ep es.size [(a, fy es ep t), (s.heap.objs.size, gs ys)] fun _ => .ref s.heap.objs.size, ?_, ?_, ⟨gi, ?_⟩, ?_, ?_⟩ gi
  . have e : (List.range es.size).map (fun p => ((es[p]?).map (·.2)).getD Value.none) = es.toList.map (·.2) := by
     apply List.ext_getElem
     . simp
     . intro i h1 h2;have hi : i < es.size := by simpa using h1
       simp [hi]
    rw [<- e];exact pp.map _
  . rw [length_map, hl];exact uj (t := t) hh T.fit (by rw [hz1]; exact Nat.ne_of_lt (Nat.lt_succ_of_lt la)) (by rw [hz1]; exact Nat.ne_of_lt (Nat.lt_succ_self _)) hy hl
  . intro p hp;rcases mem_cons.mp hp with rfl | hp
    . exact ga
    . rw [List.mem_singleton.mp hp]; exact gt
  . intro b hb;simp only [mem_cons, not_mem_nil, or_false] at hb;rcases hb with rfl | rfl | rfl
    . exact .inr (by rw [hz1]; exact Nat.le_succ _)
    . exact .inl rfl
    . exact .inr (Nat.le_refl _)
  . intro b hb;simp only [mem_cons, not_mem_nil, or_false] at hb;rcases hb with rfl | rfl | rfl
    . exact lt_size gi
    . exact lt_size ga
    . exact lt_size gt
 | false =>
  rw [if_neg (by decide)];refine wpAny_bind (wpAny_pure (wpAny_bind (wpAny_setEpoch_of T.at' rfl T.fit ?_)));refine wpAny_bind (wpAny_newObj_type (wpAny_pure ?_));have gi : (s.heap.push (m5 (.int 0 0) 0 a es.size ep)).get? s.heap.objs.size = some (m5 (.int 0 0) 0 a es.size ep) := get?_push_size _ rfl;have ga := get?_push_of_some (m5 (.int 0 0) 0 a es.size ep) T.at';have ha : a ≠ s.heap.objs.size := Nat.ne_of_lt la;have mem : ∀ p ∈ [(a, fy es ep t)], (s.heap.push (m5 (.int 0 0) 0 a es.size ep)).get? p.1 = some p.2 := fun p hp => by rw [List.mem_singleton.mp hp]; exact ga
  have f1 : ∀ b ∈ [s.heap.objs.size, a], b = a \/ s.heap.objs.size <= b := fun b hb => by
   simp only [mem_cons, not_mem_nil, or_false] at hb;rcases hb with rfl | rfl
   . exact .inr (Nat.le_refl _)
   . exact .inl rfl
  have f2 : ∀ b ∈ [s.heap.objs.size, a], b < (s.heap.push (m5 (.int 0 0) 0 a es.size ep)).objs.size := fun b hb => by
   simp only [mem_cons, not_mem_nil, or_false] at hb;rcases hb with rfl | rfl
   . exact lt_size gi
   . exact lt_size ga
  have keep : ∀ b o, s.heap.get? b = some o -> (s.heap.push (m5 (.int 0 0) 0 a es.size ep)).get? b = some o := fun b o e => get?_push_of_some _ e
  cases ht : told w with
  | true =>
   have pp := nD (w.params.setOrder a ep) es;have hl := pp.length_eq;refine fin s.heap.objs.size _ s.drawn (.int 0 0) ⟨keep, Nat.le_refl _, (pickOrder (w.params.setOrder a ep) es).toList.map (·.2), [s.heap.objs.size, a], oj s.heap.objs.size a es ep es.size [(a, fy es ep t)] fun _ => .int 0 0, pp.map _, ?_, ⟨gi, mem⟩, f1, f2⟩ gi;rw [length_map, hl, Array.length_toList];exact vV (t := t) hh ht T.fit ha
  | false =>
   have h1 : es.size <= 1 := by
    rw [ht] at hc;by_cases z : es.size = 0
    . omega
    . rw [T.pl z] at hc;simpa using hc
   refine fin s.heap.objs.size _ s.drawn (.int 0 0) ⟨keep, Nat.le_refl _, es.toList.map (·.2), [s.heap.objs.size, a], oj s.heap.objs.size a es ep es.size [(a, fy es ep t)] fun i => .int (if i = 0 then 0 else t.place.getD 0 0 + 1 : Nat) 0, .refl _, ?_, ⟨gi, mem⟩, f1, f2⟩ gi;rw [length_map, Array.length_toList];exact x6 (t := t) hh ht (T.led ht) h1 T.fit ha
end
end Y
namespace Y
open PySem PySem.Spec PyProof.Rows L2 PySem.SeqAt
section
variable {prog : Program} {w : World} {A : Around} {E : HR} {s : Shared} {it l S : Addr} {items : HX}
abbrev GL (prog : Program) (w : World) (A : Around) (R : Ic) : Fin -> Shared -> Prop := fun x st => match x with
 | .done f => R (.ok f) st
 | .again c => c.quiet = true /\ codeAny (model prog w) A c R st
end
end Y
namespace Y
open PySem PySem.Spec PyProof.Rows L2 PySem.SeqAt
section
variable {prog : Program} {w : World} {A : Around} {E : HR} {s : Shared} {a S : Addr} {es : Ib} {ep : Nat} {t : SetTable}
theorem Bd : isSubtype (.type "set") (.type "set") = pure true := by rw [isSubtype_type]; kernel_rfl
theorem zT {Q : Bool -> Shared -> Prop} (T : s.TypeIs (.ref a) "set") (h : Q false s) : wpAny (model prog w) A (Builtin.List.listLengthHint (.ref a)) Q E s := by
 unfold Builtin.List.listLengthHint;refine wpAny_bind (wpAny_specialOf T PySem.F.slot_set_len.lookup ?_);generalize Ak : ("set.__len__" : String) = z
 wp_delta
 have sp : splitId z = some ("set", "__len__") := by subst Ak; decide +kernel
 rw [sp];subst Ak;refine wpAny_bind (wpAny_isInstance (b := true) T Bd ?_);exact wpAny_bind (wpAny_typeOf T (wpAny_pure h))
theorem EL {Q : Unit -> Shared -> Prop} {c0 : Nat} (e : s.heap.get? S = some { cls := .type "list", data := .seq #[] c0 })
 (q : ∀ h' c, (∀ b o, b ≠ S -> s.heap.get? b = some o -> h'.get? b = some o) -> h'.get? S = some { cls := .type "list", data := .seq #[] c } -> Q () { s with heap := h' }) : wpAny (model prog w) A (Builtin.List.listTouch (.ref S)) Q E s := by
 have e1 := Heap.get?_update_self (Obj.mapSeq fun xs => xs.push Value.none) e rfl;have e2 := Heap.get?_update_self (Obj.mapSeq fun xs => xs.pop) e1 rfl;refine wpAny_bind (m := updateSeq S fun xs => xs.push .none) (wpAny_updateSeq e rfl (wpAny_updateSeq (hz := by seq_fits) e1 rfl (q _ _ (fun b o hb h => ?_) e2)));rw [Heap.get?_update_other _ _ (Ne.symm hb), Heap.get?_update_other _ _ (Ne.symm hb)];exact h
theorem sM {R : Ic} {c0 : Nat} {res : Value} (hh : A.handled = none) (T : SL w s.heap a es ep t) (hS : s.heap.get? S = some { cls := .type "list", data := .seq #[] c0 }) (hSa : S ≠ a) (hz : es.size + 2 <= sizeLine)
 (hR : ∀ h' d tk acc c, (∀ b o, b ≠ S -> s.heap.get? b = some o -> h'.get? b = some o) -> h'.get? S = some { cls := .type "list", dict := none, data := .seq acc c, slots := #[] } -> acc.toList.Perm (es.toList.map (·.2)) -> R (.ok (.ret res)) { s with heap := h', drawn := d, toks := tk }) :
 wpAny (model prog w) A.in1 (Builtin.List.listExtendWith (.ref S) (.ref a) res) (GL prog w A R) (fun e s' => R (.error e) s') s := by
 have Ty : s.TypeIs (.ref a) "set" := ⟨_, T.at', rfl⟩
 have same : Builtin.List.listSameRef (.ref S) (.ref a) = false := by simp [Builtin.List.listSameRef, hSa]
 have hh1 : A.in1.handled = none := hh;unfold Builtin.List.listExtendWith;refine wpAny_bind (wpAny_typeOf Ty ?_);rw [if_neg (by rw [same]; decide)];refine wpAny_bind (xu hh1 T hz fun it h1 d SI => ?_);obtain ⟨ord, fp, St, pp, W, st, f1, f2⟩ := SI.walk;have T1 : Shared.TypeIs { s with heap := h1, drawn := d } (.ref a) "set" := ⟨_, SI.keep _ _ T.at', rfl⟩
 refine wpAny_bind (wpAny_holding (zT T1 ?_));rw [if_pos (by decide)];refine wpAny_bind (wpAny_rule (wpAny_bind ?_));have hS1 := SI.keep _ _ hS;have lS := lt_size hS;have nS : ∀ b ∈ fp, b ≠ S := fun b hb z => by
  rcases f1 b hb with e | e
  . exact hSa (z.symm.trans e)
  . exact absurd lS (by rw [<- z]; exact Nat.not_lt.mpr e)
 refine EL (s := { s with heap := h1, drawn := d }) hS1 fun h2 c2 oth hS3 => ?_;have hn : ord.length <= sizeLine := by rw [pp.length_eq, length_map, Array.length_toList]; omega
 refine wpAny_pure ⟨plainId_quiet PySem.F.plain_extend_loop _, codeAny_extend_loopS W.toS hn S (fun z => nS S z rfl) res ord.length 0 _ #[] _ rfl (Nat.zero_le _) (W.frame 0 _ _ st fun b hb o e => oth b o (nS b hb) e) hS3 (ItemsOf.nil _) fun s' acc c m e1 e2 => ?_⟩;obtain ⟨h', g', d', tk', os'⟩ := s';have q1 : g' = s.gens := m.gens;have q2 : d' = d := m.drawn;have q3 : os' = s.os := m.os;subst q1 q2 q3;refine hR h' d' tk' acc c (fun b o hb e => m.heap b o (fun z => ?_) (oth b o hb (SI.keep b o e))) e1 ?_
 . rcases mem_cons.mp z with z | z
   . exact hb z
   . exact absurd (lt_size e) (by rw [List.mem_singleton.mp z]; exact Nat.not_lt.mpr SI.le)
 . have e : acc.toList = ord := by
    apply List.ext_getElem?;intro i;by_cases hi : i < acc.size
    . have := e2.2 i acc[i] (Array.getElem?_eq_getElem hi);rw [this, Array.getElem?_toList, Array.getElem?_eq_getElem hi]
    . rw [List.getElem?_eq_none (by rw [Array.length_toList]; omega), List.getElem?_eq_none (by rw [<- e2.1]; omega)]
   rw [e]; exact pp
theorem sC {Q : List Value -> Shared -> Prop} (hh : A.handled = none) (T : SL w s.heap a es ep t) (hz : es.size + 2 <= sizeLine)
 (q : ∀ h' d tk (acc : HW), (∀ b o, s.heap.get? b = some o -> h'.get? b = some o) -> acc.Perm (es.toList.map (·.2)) -> Q acc { s with heap := h', drawn := d, toks := tk }) : wpAny (model prog w) A (collect (.ref a)) Q E s := by
 have hh1 : A.in1.handled = none := hh;have la := lt_size T.at';unfold collect;refine wpAny_bind (wpAny_runValue (codeAny_builtin PySem.F.entry_proto_collect ?_));rw [Around.under_plainId PySem.F.plain_proto_collect _];refine wpAny_bind (m := newList []) (wpAny_newObj_type (wpAny_pure ⟨plainId_quiet PySem.F.plain_list_iadd _, codeAny_builtin PySem.F.entry_list_iadd ?_⟩));rw [Around.under_plainId PySem.F.plain_list_iadd _];have hS : (s.heap.push { cls := .type "list", data := .seq ([] : HW).toArray }).get? s.heap.objs.size = some { cls := .type "list", data := .seq #[] } := get?_push_size _ rfl;have T1 : SL w (s.heap.push { cls := .type "list", data := .seq ([] : HW).toArray }) a es ep t := ⟨get?_push_of_some _ T.at', T.fit, T.led, T.pl⟩
 have run := sM (prog := prog) (A := A) (s := { s with heap := s.heap.push { cls := .type "list", data := .seq ([] : HW).toArray } }) (res := .ref s.heap.objs.size) (R := fun r s' => ∃ h' d tk acc c, r = .ok (.ret (.ref s.heap.objs.size)) /\ s' = { s with heap := h', drawn := d, toks := tk } /\ (∀ b o, s.heap.get? b = some o -> h'.get? b = some o) /\ h'.get? s.heap.objs.size = some { cls := .type "list", dict := none, data := .seq acc c, slots := #[] } /\ acc.toList.Perm (es.toList.map (·.2)))
  hh T1 hS (Nat.ne_of_gt la) hz fun h' d tk acc c k1 k2 k3 => ⟨h', d, tk, acc, c, rfl, rfl, fun b o e => k1 b o (Nat.ne_of_lt (lt_size e)) (get?_push_of_some _ e), k2, k3⟩
 show wpAny _ A.in1 (Builtin.List.listExtendWith (.ref s.heap.objs.size) (.ref a) (.ref s.heap.objs.size)) _ _ _;refine wpAny_mono run (fun x s' z => ?_) fun e s' z => ?_
 . cases x with
   | done f =>
    obtain ⟨h', d, tk, acc, c, e, rfl, k1, k2, k3⟩ := z;cases e;exact wpAny_bind (wpAny_load k2 (wpAny_pure (q h' d tk _ k1 k3)))
   | again c =>
    refine ⟨z.1, codeAny_mono z.2 fun r s2 y => ?_⟩;obtain ⟨h', d, tk, acc, c, rfl, rfl, k1, k2, k3⟩ := y;exact wpAny_bind (wpAny_load k2 (wpAny_pure (q h' d tk _ k1 k3)))
 . obtain ⟨_, _, _, _, _, e', _⟩ := z;cases e'
end
end Y
namespace Y
open PySem PySem.Spec PyProof.Rows L2
variable [b0]
theorem xj {P : Program} {w : World} {K : Frag} {mg mb : HV} {k : Nat} {fa a : Addr} {fd : FuncData} {x : Str} {s₁ : Shared} {vs : HW} {ns : List Int}
 (KX : K.In s₁.heap) (hns : s₁.heap.Ns mainGlobals mg) (hb : s₁.heap.Ns builtinsNs mb) (hbb : ∀ x : Str, x ≠ "__name__" -> mb x = bootBuiltins x) (hlim : s₁.heap.NoLimit) (hg : s₁.gens = #[])
 (ha : s₁.heap.get? a = some { cls := .type "list", data := .seq vs.toArray }) (hi : IntsAre vs ns) (hl : ns.length <= 63) (hr : bt k callerA)
 (hT : ∀ q ∈ b0.T, s₁.heap.get? q.1 = some (PySem.W.tabObj #[]) /\ K.lookup q.1 = none /\ PySem.isCodeTable s₁.heap q.1)
 (hbm : Cj mg s₁.heap) (F : ∀ base : Heap, K.In base -> base.Ns mainGlobals mg -> Cj mg base -> eB P w K mg base lP k fa fd [x] (sE K)) (hbind : ∀ (s : Shared) (u : Value), BindsTo s fd ⟨[u], []⟩ [(x, u)]) :
 codeAny (model P w) callerA (.call (.ref fa) ⟨[.ref a], []⟩) (fun r s' => r = .ok (.ret (.bool true)) /\ OldK s₁.heap s'.heap /\ s'.os = s₁.os /\ AllBare s'.gens) s₁ := by
 have rv := m7 hi;have lenV := hi.length;have hz : ns.length <= sizeLine := Nat.le_trans hl (by decide);have aT : ∀ q ∈ b0.T, q.1 ≠ a := fun q hq z => by
  have e := (hT q hq).1;rw [z, ha] at e;cases e
 have core : ∀ H0 : Hp, (∀ b, b ≠ a -> H0 b = none) -> (H0 a = none \/ ∃ o xs, H0 a = some (.frz o (.lst xs))) -> dM K H0 a (ns.map V.int) -> gz P w H0 s₁.heap -> (H0 a ≠ none -> K.lookup a = none) ->
  codeAny (model P w) callerA (.call (.ref fa) ⟨[.ref a], []⟩) (fun r s' => r = .ok (.ret (.bool true)) /\ OldK s₁.heap s'.heap /\ s'.os = s₁.os /\ AllBare s'.gens) s₁ := by
  intro H0 hO hO2 hS hok0 hK;obtain ⟨H, hHt, hHn⟩ : ∃ H : Hp, (∀ b, (∃ q ∈ b0.T, q.1 = b) -> H b = some (.tbl #[])) /\ ∀ b, ¬ (∃ q ∈ b0.T, q.1 = b) -> H b = H0 b :=
   open Classical in ⟨fun b => if ∃ q ∈ b0.T, q.1 = b then some (.tbl #[]) else H0 b, fun b hb => if_pos hb, fun b hb => if_neg hb⟩
  have na : ¬ (∃ q ∈ b0.T, q.1 = a) := fun ⟨q, hq, z⟩ => aT q hq z;have Ha := hHn a na;have cs : ∀ b u, H b = some u -> (b = a /\ H0 a = some u) \/ (∃ q ∈ b0.T, q.1 = b) /\ u = .tbl #[] := fun b u e => by
   by_cases z : ∃ q ∈ b0.T, q.1 = b
   . rw [hHt b z] at e; cases e; exact .inr ⟨z, rfl⟩
   . rw [hHn b z] at e;by_cases z2 : b = a
     . subst z2; exact .inl ⟨rfl, e⟩
     . rw [hO b z2] at e; cases e
  have hok : gz P w H s₁.heap := fun b u e => by
   rcases cs b u e with ⟨rfl, e0⟩ | ⟨⟨q, hq, rfl⟩, rfl⟩
   . exact (hok0 _ _ e0).lT (fun b' v' hb' q => q) (fun b' q => by
      have : b' = b := by
       by_cases z : b' = b
       . exact z
       . rw [hO b' z] at q; cases q
      subst this;rcases hO2 with z | ⟨_, _, z⟩
      . rw [z] at q; cases q
      . rw [z] at q; cases q) fun b' xs q => by
      have : b' = b := by
       by_cases z : b' = b
       . exact z
       . rw [hO b' z] at q; cases q
      subst this;rcases hO2 with z | ⟨_, _, z⟩
      . rw [z] at q; cases q
      . rw [z] at q; cases q
   . exact (hT q hq).1
  have tabs : TabsOk H := fun q hq => ⟨#[], hHt q.1 ⟨q, hq, rfl⟩, trivial, fun pos cv z => by simp [codeAmong] at z⟩
  have hS' : dM K H a (ns.map V.int) := by
   rcases hS with (h | ⟨o, h⟩) | h
   . exact .inl (.inl (by rw [Ha]; exact h))
   . exact .inl (.inr ⟨o, by rw [Ha]; exact h⟩)
   . exact .inr h
  have base_of : ∀ {b : Addr} {o : Obj}, s₁.heap.get? b = some o -> H b = none -> (md s₁.heap H).get? b = some o := fun e n => yo e n;have noA : ∀ {b : Addr} {o : Obj} {es : Array DictEntry} {ep : Nat}, s₁.heap.get? b = some o -> o.data = .dict es ep -> H b = none := fun {b o es ep} e d => by
   cases q : H b with
   | none => rfl
   | some u =>
    rcases cs b u q with ⟨rfl, _⟩ | ⟨⟨q', hq', rfl⟩, _⟩
    . rw [ha] at e; cases e; cases d
    . rw [(hT q' hq').1] at e; cases e; cases d
  have nsK : ∀ {b : Addr} {m : HV}, s₁.heap.Ns b m -> (md s₁.heap H).Ns b m := fun {b m} ⟨o, es, ep, e, d, r⟩ => ⟨o, es, ep, base_of e (noA e d), d, r⟩
  have hKb : K.In (md s₁.heap H) := fun b o e => base_of (KX b o e) (by
   cases q : H b with
   | none => rfl
   | some u =>
    rcases cs b u q with ⟨rfl, e0⟩ | ⟨⟨q', hq', rfl⟩, _⟩
    . rw [hK (by rw [e0]; simp)] at e; cases e
    . rw [(hT q' hq').2.1] at e; cases e)
  have hBm : Cj mg (md s₁.heap H) := by
   obtain ⟨bm, ob, b1, b2, b3, b4, b5, b6, b7⟩ := hbm;refine ⟨bm, ob, b1, base_of b2 ?_, b3, b4, b5, b6, b7⟩
   cases q : H bm with
   | none => rfl
   | some u =>
    rcases cs bm u q with ⟨rfl, _⟩ | ⟨⟨q', hq', rfl⟩, _⟩
    . rw [ha] at b2; cases b2; injection b5 with b5; exact absurd b5 (by decide)
    . rw [(hT q' hq').1] at b2; cases b2; cases b5
  have hM : Mod K mg (md s₁.heap H) := ⟨hKb, nsK hns, ⟨mb, nsK hb, hbb⟩, let ⟨mc, h1, h2⟩ := hlim; ⟨mc, nsK h1, h2⟩⟩
  have e0 : lQ P w K mg (md s₁.heap H) callerA [] s₁ H := ⟨rfl, hM, fun b o e => Ba e, Nat.le_of_eq (wc _ _), trivial, fun b hb => absurd (show b ∈ ([] : List Addr) from hb) (by simp), hok, .of_eq hg⟩
  refine codeAny_mono ((F _ hKb (nsK hns) hBm).run callerA [] s₁ H ⟨[.ref a], []⟩ [.ref a] [.ref a] (fun v _ => v = .bl true) E0 hr e0 (hbind s₁ (.ref a)) (.cons rfl .nil) ⟨a, ns, rfl, hS', hl, tabs, fun _ => rfl⟩) fun r s' h => ?_
  cases r with
  | error e => exact False.elim h
  | ok fl =>
   cases fl with
   | next => exact False.elim h
   | brk => exact False.elim h
   | cont => exact False.elim h
   | ret u =>
    obtain ⟨v, H', os, bare, un, hok', r', q⟩ := h;have q' : v = .bl true := q;subst q';obtain rfl : u = Value.bool true := r';refine ⟨rfl, ⟨fun b o e => ?_, fun b o e => un.there b o e (by simp)⟩, os, bare⟩
    cases q : H b with
    | none => exact .inl (un.keep b o e q (by intro z; exact absurd (show b ∈ ([] : List Addr) from z) (by simp)) (by simp))
    | some u =>
     rcases cs b u q with ⟨rfl, e0'⟩ | ⟨⟨q', hq', rfl⟩, rfl⟩
     . rcases hO2 with z | ⟨ob, xs, z⟩
       . rw [z] at e0'; cases e0'
       . rw [z] at e0';cases e0';have z2 := un.frzs b ob _ q;obtain ⟨e1, _⟩ := hok b _ q;obtain ⟨e2, _⟩ := hok' b _ z2;rw [e] at e1; cases e1;exact .inl e2
     . obtain ⟨more, z⟩ := un.tbls q'.1 #[] q;have e2 := hok' _ _ z;rw [(hT q' hq').1] at e;cases e;exact .inr (.inl ⟨(hT q' hq').2.2, rfl, #[], more, rfl, e2⟩)
 cases hk : K.lookup a with
 | some o =>
  have e := KX a o hk;rw [ha] at e;cases e;exact core (fun _ => none) (fun _ _ => rfl) (.inl rfl) (.inr ⟨_, vs.toArray, _, hk, rfl, rfl, rfl, by rw [size_toArray, lenV]; exact hz, by simpa using rv⟩) (fun b u z => nomatch z) fun z => absurd rfl z
 | none =>
  refine core (fun b => if b = a then some (.frz { cls := .type "list", data := .seq vs.toArray } (.lst (ns.map V.int))) else none) (fun b hb => if_neg hb) (.inr ⟨_, _, if_pos rfl⟩) (.inl (.inr ⟨{ cls := .type "list", data := .seq vs.toArray }, if_pos rfl⟩)) (fun b u z => ?_) fun _ => hk;by_cases hb : b = a
  . have z' := (if_pos hb).symm.trans z;cases z';subst hb;exact ⟨ha, by rw [length_map]; exact hz, vs, _, rv, ha⟩
  . have z' := (if_neg hb).symm.trans z;cases z'
theorem Fd {l : PySem.W.OpenLaw} {q : Program} {loose : Ie} {XP : HV -> Heap -> Prop} {YP : World -> Heap -> Prop} {d : DefRec} {K : Params -> Frag} {x : Str} {k : Nat} (hn : l.most = some 63) (hdf : d.params.defaults = []) (hr : bt k callerA)
 (hY : ∀ (w : World) (h : Heap), YP w h -> (K w.params).In h)
 (hT : ∀ (w : World) (h : Heap), YP w h -> ∀ q ∈ b0.T, h.get? q.1 = some (PySem.W.tabObj #[]) /\ (K w.params).lookup q.1 = none /\ PySem.isCodeTable h q.1)
 (F : ∀ (w : World) (mg : HV) (fa : Addr) (h : Heap), (K w.params).In h -> h.Ns mainGlobals mg -> mg d.name = some (.ref fa) ->
  ∃ fd : FuncData, (∀ (s : Shared) (u : Value), BindsTo s fd ⟨[u], []⟩ [(x, u)]) /\ ∀ base : Heap, (K w.params).In base -> base.Ns mainGlobals mg -> Cj mg base -> eB l.prog w (K w.params) mg base lP k fa fd [x] (sE (K w.params))) :
 PySem.W.WalkO q loose XP YP l.row.toRowW d [] (fun f vs => PySem.call f vs) := by
 refine Att.qG hn hdf fun w s₀ s₁ mg mb fa o pm cd doc a vs ns G Y ho hd hcd hmg hobj hints hlen hg => ?_;have KX := hY w _ Y;obtain ⟨fd, hb, hF⟩ := F w mg fa _ KX G.T.g hmg;have hbm : Cj mg s₁.heap := by
  obtain ⟨bm, ob, b1, b2, b3, b4, b5, b6⟩ := G.T.bmain;refine ⟨bm, ob, b1, b3, b2, fun z => ?_, b4, b5, b6⟩;obtain ⟨o, es, ep, e, hd, _⟩ := G.T.g;rw [z, e] at b3; cases b3; rw [hd] at b6; cases b6
 exact xj KX G.T.g G.T.b G.T.builtins G.T.nolimit hg hobj hints hlen hr (hT w _ Y) hbm hF hb
structure sW (K : Frag) (x qual : Str) (st : Stmt) (f : Addr) (fd : FuncData) (c : Addr) : Prop where
 ex : ∃ (oc : Value) (od : HY) (kV doc pm : Value) (an : HY) (ct : Value) (osl : HU),
  fd = PySem.W.fnOf x qual (cD st) (bb st) (ah st) .none kV doc pm an (.ref c) ct /\ K.lookup f = some ⟨oc, od, .func fd, osl⟩ /\ PySem.W.codeIn K (.ref c) qual = true
 kp : keepIn K (.ref f) = true
theorem tabs_ok {K : Params -> Frag} {as : List Addr} {e : ∀ P, as = (K P).map (·.1)} {ts : List Addr} {w : World} {h : Heap} (Yk : (PySem.W.kmHook K as e ts).says w h) {c P : Addr} (hm : P ∈ ts) (hl : (K w.params).lookup P = none) (hc : codeHdIn (K w.params) c P = true) :
 h.get? P = some (PySem.W.tabObj #[]) /\ (K w.params).lookup P = none /\ PySem.isCodeTable h P := by
 obtain ⟨o, vs, _, _, _, _, _, _, _, e1, e2, e3, e4, _⟩ := PySem.W.codeHd_of_K (PySem.W.km_in_of Yk) hc;exact ⟨PySem.W.km_tabs_of Yk P hm, hl, c, o, vs, e1, e2, e3, e4⟩
theorem sW.fn {K : Frag} {x qual : Str} {st : Stmt} {f c : Addr} {fd : FuncData} (F : sW K x qual st f fd c) : gr K x qual st f fd := by
 obtain ⟨oc, od, kV, doc, pm, an, ct, osl, e, lk, hcd⟩ := F.ex;exact ⟨⟨oc, od, kV, doc, pm, an, .ref c, ct, osl, e, lk, hcd⟩, F.kp⟩
theorem BU {K : Frag} {x qual : Str} {st : Stmt} {f c : Addr} {oc kV doc pm ct : Value} {od an : HY} {osl : HU}
 (l : K.lookup f = some ⟨oc, od, .func (PySem.W.fnOf x qual (cD st) (bb st) (ah st) .none kV doc pm an (.ref c) ct), osl⟩) (hc : PySem.W.codeIn K (.ref c) qual = true) (k : keepIn K (.ref f) = true) :
 sW K x qual st f (PySem.W.fnOf x qual (cD st) (bb st) (ah st) .none kV doc pm an (.ref c) ct) c := ⟨⟨oc, od, kV, doc, pm, an, ct, osl, rfl, l, hc⟩, k⟩
section
variable {P : Program} {w : World} {K : Frag} {mg : HV} {base : Heap}
theorem vd {x qual : Str} {st : Stmt} {f c : Addr} {fd : FuncData} {N ps : Ie} {k : Nat} {m : Bool} {G : List D -> D -> Prop} (Fx : sW K x qual st f fd c) (S : aE N ps (ah st)) (hmg : mg x = some (.ref f)) (hb : Binds K fd ps [])
 (hlen : ∀ ds d, G ds d -> ds.length = ps.length)
 (body : ∀ (A : Around) (outer : List Env) (s : Shared) (H : Hp) (E : XK) (Z : aA) (ds : List D) (d : D), bt k (A.deeper (envOfC qual (ah st) s.heap.objs.size f (.ref c))) -> G ds d ->
  SD (kl lP P w K mg base N qual (ah st) f (.ref c) A outer s H E).Am ⟨m, Z, H⟩ (bb st) (cF N ds) { nx := fun _ => d = .non, rt := fun d' => d' = d }) : Def P w K mg base (k + 1) x m G := by
 refine ⟨f, fd, ps, ?_, hmg, Fx.kp, hb⟩;obtain ⟨oc, od, kV, doc, pm, an, ct, osl, rfl, lk, hcd⟩ := Fx.ex;refine Cq lk hcd S (fun vs H Q E ⟨Z, ds, d, oz, i, g, kk⟩ => ?_) fun A outer s H vs Q E hr ⟨Z, ds, d, oz, i, g, kk⟩ => ?_
 . rw [<- i.length]; exact hlen ds d g
 . refine ⟨_, lZ.Am (body A outer s H E Z ds d hr g), [], [], fun _ => [], ?_, iH oz i, ⟨rfl, fun σ H' ⟨r, A', hl, S', e⟩ => ?_, fun σ H' ⟨r, A', hl, S', e⟩ => e.elim, fun σ H' ⟨r, A', hl, S', e⟩ => e.elim, fun v d' H' s' i' e => ?_, fun _ _ _ _ _ _ _ _ e => e.elim, fun _ _ _ _ _ _ _ _ _ _ _ _ _ e => e.elim⟩⟩
   . have := i.length;simp [L2.start, cF]; omega
   . subst e;exact kk .non H' S'.same (bg.mpr rfl)
   . subst e;exact kk v H' s' i'
end
structure oX (K : Frag) (mg : HV) (base : Heap) (c P : Addr) (qn : Str) : Prop where
 hd : codeHdIn K c P = true
 tab : (P, qn) ∈ b0.T
 one : ∀ q ∈ b0.T, q.1 = P -> q.2 = qn
 bm : Cj mg base
 gP : mainGlobals ≠ P
theorem oX.cx {X : Cx} {c P : Addr} {qn : Str} (L : oX X.K X.mg X.base c P qn) (h1 : X.env.code = .ref c) (h2 : X.env.qual ++ ("<lambda>" : Str) = qn) : qM X c P qn := ⟨h1, L.hd, L.tab, L.one, h2, L.bm, L.gP⟩
theorem gk.sub {P Q : D -> Prop} (L : gk P) (h : ∀ d, Q d -> P d) : gk Q :=
 ⟨fun a x => L.ir a (h a x), fun a b c x y z => L.tr a b c (h a x) (h b y) (h c z), fun a b x y => L.tt a b (h a x) (h b y), fun a b x y => L.cm a b (h a x) (h b y), fun a b x y => L.eq a b (h a x) (h b y)⟩
def iq (rows : HQ) (p : Ij) : D := .tup [ae (endAt rows p), bK p]
def vA (rows : HQ) : D -> D
 | .tup [.int r, .int c] => .tup [ae (endAt rows (r.toNat, c.toNat)), .tup [.int r, .int c]]
 | _ => .non
theorem gm (rows : HQ) (p : Ij) : vA rows (bK p) = iq rows p := by simp [vA, bK, iq]
def uy (d : D) : Prop := ∃ (ws : Ie) (p : Ij), d = .tup [ae ws, bK p]
theorem jI : gk uy := (gY (uN (gh eU) (gY fun _ => jQ))).sub fun d ⟨ws, p, e⟩ => by
 subst e;refine ⟨_, rfl, ⟨_, rfl, fts_strs ws⟩, ⟨_, rfl, ⟨p.1, rfl⟩, ⟨p.2, rfl⟩, trivial⟩, trivial⟩
where
 fts_strs (ws : Ie) : sX (fun _ => isStr) (ws.map D.str) := hV fun d hd => by
  obtain ⟨w, _, rfl⟩ := mem_map.mp hd;exact ⟨w, rfl⟩
theorem kind_ord : cL uy (tuples' true) := .tup "list" (.inr (.inr rfl)) fun d ⟨ws, p, e⟩ => ⟨ae ws, [bK p], e, rfl, rfl⟩
theorem kQ {rows : HQ} {p : Ij} (h : p ∈ bx rows) : p.1 < rows.length := by
 unfold bx cz at h;obtain ⟨r, hr, h2⟩ := List.mem_flatMap.mp h;obtain ⟨a, _, rfl⟩ := mem_map.mp h2;simpa using hr
theorem iG (rows : HQ) : (bx rows).length = h9 rows := by
 unfold bx;rw [iM rows rows.length (Nat.le_refl _), take_length];rfl
theorem fS : ∀ ws : List Str, bH (ws.map D.str) = 0
 | [] => rfl
 | w :: ws => by simp [bH, D.dep, fS ws]
theorem vD {k : Nat} {A : Around} {rows : HQ} {p : Ij} (r : bt k A) : A.units + 2 + (iq rows p).dep < cLine := by
 have h := r.un;have e : (iq rows p).dep = 2 := by simp [iq, ae, bK, D.dep, bH, fS]
 omega
def yd (st : Stmt) : List (Str × NameKind) := match bb st with
 | [.Return (some (.Call _ _ [⟨_, .Lambda _ _ sc _, _⟩] _)) _] => sc.names
 | _ => []
def x9 (ds : List D) (d : D) : Prop := ∃ (rows : HQ) (p : Ij), p.1 < rows.length /\ ds = [aQ rows, bK p] /\ d = iq rows p
def xF (rows : HQ) : D := .lst (g6 (vA rows) ((bx rows).map bK))
def CB (ds : List D) (d : D) : Prop := ∃ rows : List Ie, h9 rows < 64 /\ ds = [aQ rows] /\ d = xF rows
theorem xZ {P : D -> Prop} {f : D -> D} (L : gk P) {ds : List D} (hP : ∀ d ∈ ds, P (f d)) : (g6 f ds).Pairwise fun x y => aP .lt (f y) (f x) = false := by
 let es : List {d // P (f d)} := ds.attach.map fun d => ⟨d.1, hP d.1 d.2⟩
 have e : ds = es.map (·.1) := by simp [es]
 have e2 : g6 f ds = (es.mergeSort fun x y => !aP .lt (f y.1) (f x.1)).map (·.1) := by
  unfold g6;rw [e];exact (List.map_mergeSort (f := fun z : {d // P (f d)} => z.1) (r := fun x y => !aP .lt (f y.1) (f x.1)) (s := fun x y => !aP .lt (f y) (f x)) (fun a _ b _ => rfl)).symm
 rw [e2, List.pairwise_map];refine (List.pairwise_mergeSort (le := fun (x y : {d // P (f d)}) => !aP .lt (f y.1) (f x.1)) (fun a b c h1 h2 => ?_) (fun a b => ?_) es).imp fun h => by simpa using h
 . simp only [Bool.not_eq_true'] at *
   cases q : aP .lt (f c.1) (f a.1) with
   | false => rfl
   | true =>
    cases q2 : aP .lt (f a.1) (f b.1) with
    | true => rw [L.tr _ _ _ c.2 a.2 b.2 q q2] at h2; cases h2
    | false => rw [L.tt _ _ a.2 b.2 q2 h1] at q; rw [q] at h2; cases h2
 . cases q : aP .lt (f b.1) (f a.1) with
   | false => simp
   | true =>
    cases q2 : aP .lt (f a.1) (f b.1) with
    | false => simp
    | true => have w := L.tr _ _ _ a.2 b.2 a.2 q2 q; rw [L.ir _ a.2] at w; cases w
end Y
namespace Y
open PySem PySem.Spec PyProof.Rows L2 PySem.SeqAt
variable [b0]
theorem Inv.drew {X : Cx} {pins : HZ} {σ : St} {H : Hp} {s : Shared} {d : Drawn} (I : L2.Inv X pins σ H s) : L2.Inv X pins σ H { s with drawn := d } :=
 I.step (h' := s.heap) (g' := s.gens) (t' := s.toks) (ch := []) (fun _ z => nomatch z) (fun _ _ _ _ _ e _ => e) (fun _ o _ _ _ e _ => ⟨o.slots, e⟩) (fun _ _ _ _ n => n) (fun _ o _ e => ⟨o, e⟩) (fun _ _ e => e) (fun _ _ _ e => e) (fun b ps e => ⟨#[], by rw [e]; simp⟩) (fun _ h => h) I.hok I.bare
def vc (ts : HQ) : D := .lst (ts.map tupS)
def tQ (d : D) : Prop := ∃ ws : List Str, ws ≠ [] /\ d = tupS ws
theorem yM {d : D} (h : tQ d) : isTup (fun _ => isStr) d := by
 obtain ⟨ws, _, rfl⟩ := h;exact ⟨_, rfl, hV fun d hd => by obtain ⟨x, _, rfl⟩ := mem_map.mp hd; exact ⟨x, rfl⟩⟩
theorem iW : gk tQ := (gY fun _ => eU).sub fun d h => yM h
theorem AG : cL tQ (tuples' true) := .tup "str" (.inr (.inl rfl)) fun d ⟨ws, hw, e⟩ => by
 cases ws with
 | nil => exact absurd rfl hw
 | cons x r => exact ⟨.str x, r.map D.str, e, rfl, rfl⟩
theorem rC : ∀ {a b : Ie}, tupS a = tupS b -> a = b
 | [], [], _ => rfl
 | [], _ :: _, h => by simp [tupS] at h
 | _ :: _, [], h => by simp [tupS] at h
 | x :: a, y :: b, h => by
  unfold tupS at h;simp only [map_cons, D.tup.injEq, List.cons.injEq, D.str.injEq] at h;obtain ⟨rfl, h⟩ := h;rw [rC (a := a) (b := b) (by unfold tupS; rw [h])]
theorem items_str {P : Program} {w : World} : ∀ {ws : Ie} {vs : HW}, Vals (ws.map V.str) vs -> ItemsAre (PySem.strKind P w) ws vs
 | [], _, h => by cases h; exact .nil
 | x :: ws, _, h => by
  cases h with
  | cons h1 h2 =>
   obtain ⟨t, rfl⟩ := h1;exact .cons (by rw [Fi]; simp) (items_str h2)
theorem Cv {P : Program} {w : World} {H : Hp} {h : Heap} {a : Addr} {ws : Ie} (ok : gz P w H h) (e : H a = some (.tup (ws.map V.str))) : (TK P w).is h ws a := by
 obtain ⟨_, its, r, o, h1, h2, n, h3⟩ := (show bB P w H h a (.tup (ws.map V.str)) from ok a _ e)
 exact ⟨o, its.toArray, n, h1, h2, h3, by simpa using items_str r⟩
theorem Dc {K : Frag} {H : Hp} {Z : aA} {ws : Ie} {v : V} (h : In K H Z (tupS ws) v) : ∃ b, v = .ref b /\ H b = some (.tup (ws.map V.str)) := by
 obtain ⟨b, xs, rfl, at', j⟩ := bO.mp h;rw [eD j] at at';exact ⟨b, rfl, at'⟩
def Gf (ts : HQ) : List D := g6 id ((bL ts).map tupS)
theorem yT {ts ks : HQ} (hts : ∀ t ∈ ts, t ≠ []) (h : ks.Perm (bL ts)) : g6 id (ks.map tupS) = Gf ts := by
 have hP : ∀ (l : HQ), (∀ t ∈ l, t ≠ []) -> ∀ d ∈ l.map tupS, tQ (id d) := fun l hl d hd => by
  obtain ⟨x, hx, rfl⟩ := mem_map.mp hd;exact ⟨x, hl x hx, rfl⟩
 have h1 : ∀ t ∈ bL ts, t ≠ [] := fun t ht => hts t (fL.mp ht);exact g8 iW (f := id) (hP _ h1) (fun _ _ _ _ e => e) ((fe _ _).trans (h.map _)) (xZ iW (hP _ fun t ht => h1 t (h.mem_iff.mp ht)))
section
variable {X : Cx} {ρ : List (Option D)} {m m1 : Bool} {a : Expr} {ts : HQ} {p p2 pos pos2 : Pos}
theorem xA {K : Frag} {H : Hp} {Z : aA} : ∀ {ts : HQ} {vs : List V}, aH K H Z (ts.map tupS) vs -> ∃ bs : List Addr, vs = bs.map V.ref /\ bs.length = ts.length /\ ∀ (i : Nat) (b : Addr), bs[i]? = some b -> H b = some (.tup ((ts.getD i []).map V.str))
 | [], vs, h => by cases aD.mp h; exact ⟨[], rfl, rfl, fun i b e => by simp at e⟩
 | t :: ts, vs, h => by
  obtain ⟨v, r, rfl, i, j⟩ := ao.mp h;obtain ⟨b, rfl, e⟩ := Dc i;obtain ⟨bs, rfl, hl, hb⟩ := xA j;refine ⟨b :: bs, rfl, by simp [hl], fun i b' e' => ?_⟩
  cases i with
  | zero => simp at e'; subst e'; exact e
  | succ i => rw [List.getElem?_cons_succ] at e'; simpa using hb i b' e'
theorem pC (ha : E X m1 ρ a (vc ts)) (hts : ∀ t ∈ ts, t ≠ []) (h64 : ts.length < 64) (hu : X.A.units + 8 < cLine) (hh : X.A.handled = none) (hmS : X.mg "sorted" = none) (hmT : X.mg "set" = none)
 (hgS : Gl X "sorted" := by rfl) (hgT : Gl X "set" := by rfl) (hs : starEach [a] X.env = [(false, eval a X.env)] := by rfl) (hs2 : starEach [.Call (.Name "set" p2) [a] [] pos2] X.env = [(false, eval (.Call (.Name "set" p2) [a] [] pos2) X.env)] := by rfl) :
 E X m ρ (.Call (.Name "sorted" p) [.Call (.Name "set" p2) [a] [] pos2] [] pos) (.lst (Gf ts)) := by
 intro pins s σ H Q I ⟨Z, oz, en, k⟩;refine wpAny_Call_Name_kw (fh I hgS hmS boot_sorted ?_ (by decide) (by decide));refine PyProof.Rows.callWith_builtin1 ?_ (by rw [hs2]; rfl) (by rfl);rw [hs2];refine Calls.spliced_cons ?_;refine wpAny_Call_Name_kw (fh I hgT hmT boot_set ?_ (by decide) (by decide));refine callWith_type1 (ck (aM ha bh (by rw [hs]; rfl) pos2 pins s σ H (fun vs H1 => aq H H1 /\ ∃ x, vs = [x] /\ In X.K H1 (out m1 Z H) (vc ts) x) I ⟨Z, oz, en, fun x H1 s1 i1 => ⟨s1, x, rfl, i1⟩⟩) fun us s1 ⟨vs, H1, I1, r1, sm1, x, e, i1⟩ => ?_) (by rw [hs]; rfl) (by rfl);subst e;obtain ⟨l, xs, rfl, at', j⟩ := ar.mp i1;obtain ⟨u, rfl, rx⟩ := vals1 r1;cases rx;obtain ⟨bs, rfl, hbl, hbs⟩ := xA j;obtain ⟨its, rv, pl, hz⟩ := I1.list at'.sq;have zl := rv.length;rw [length_map] at zl;have itv : ∀ (i : Nat) (v : Value), its.toArray[i]? = some v -> ∃ b, bs[i]? = some b /\ v = .ref b := fun i v hv => by
  rw [List.getElem?_toArray] at hv;have hl : i < bs.length := by have := (List.getElem?_eq_some_iff.mp hv).1; omega
  obtain ⟨u, eu, ru⟩ := rv.get (i := i) (x := V.ref bs[i]) (by simp [hl]);rw [eu] at hv;cases hv;cases ru;exact ⟨bs[i], List.getElem?_eq_getElem hl, rfl⟩
 have hne : ∀ i, i < ts.length -> ts.getD i [] ≠ [] := fun i hi => hts _ (getD_mem hi);have hi : ∀ (i : Nat) (v : Value), its.toArray[i]? = some v -> ∃ b, v = .ref b /\ (TK X.prog X.w).is s1.heap (ts.getD i []) b /\ ts.getD i [] ≠ [] := fun i v hv => by
  obtain ⟨b, eb, rfl⟩ := itv i v hv;exact ⟨b, rfl, Cv I1.hok (hbs i b eb), hne i (by have := (List.getElem?_eq_some_iff.mp eb).1; omega)⟩
 have hzz : its.toArray.size = ts.length := by rw [size_toArray]; omega
 refine vN (ts := ts) hh (by omega) pl.isList (by omega) (by omega) hi fun s2 S2 => Calls.spliced_nil ?_;obtain ⟨h2, tk2, es, ep, t, rfl, T, pp, vin, k2⟩ := S2;have hn : es.size <= ts.length := by
  have e1 := pp.length_eq;have e2 := fW ts;have e3 : (lL h2 es).length = es.size := by simp [lL]
  omega
 have I2 := I1.kept (t' := tk2) k2;refine Calls.call_function_entry kind_sorted plain_sorted entry_sorted (args_sorted1 _) ?_;unfold Builtin.«sorted»;have hh1 : X.A.in1.handled = none := hh;refine wpAny_bind (m := checkCount "sorted" 1 1 _) (wpAny_pure ?_);refine wpAny_bind (sC (s := { s1 with heap := h2, toks := tk2 }) hh1 ⟨T.at', T.fit, T.led, T.pl⟩ (by rw [sizeLine_eq]; omega) fun h3 d3 tk3 acc k3 p3 => ?_);have I3 := Inv.drew (d := d3) (I2.kept (t' := tk3) k3);have el : ∀ u ∈ acc, ∃ b : Addr, u = .ref b /\ H1 b = some (.tup ((ef h2 u).map V.str)) := fun u hu => by
  obtain ⟨e, he, rfl⟩ := mem_map.mp (p3.mem_iff.mp hu);obtain ⟨i, ei⟩ := vin e he;obtain ⟨b, eb, ev⟩ := itv i _ ei;have i1 := Cv I1.hok (hbs i b eb);have i2 : (TK X.prog X.w).is h2 (ts.getD i []) b := eE i1 fun o ho => k2 b o ho;refine ⟨b, ev, ?_⟩;rw [ev, key_is i2];exact hbs i b eb
 have pk : (acc.map (ef h2)).Perm (bL ts) := by
  have := p3.map (ef h2);rw [map_map] at this;exact this.trans pp
 have hal : acc.length = es.size := by have := p3.length_eq; simpa using this
 have knd : ∀ u ∈ acc, ef h2 u ≠ [] := fun u hu => hts _ (fL.mp (pk.mem_iff.mp (mem_map.mpr ⟨u, hu, rfl⟩)));obtain ⟨xs, rv3, j3⟩ : ∃ xs : List V, Vals xs acc /\ ∀ Z', aH X.K H1 Z' ((acc.map (ef h2)).map tupS) xs := by
  clear pk hal p3 knd
  induction acc with
  | nil => exact ⟨[], .nil, fun Z' => aD.mpr rfl⟩
  | cons u acc ih =>
   obtain ⟨xs, r, j⟩ := ih fun v hv => el v (mem_cons_of_mem _ hv);obtain ⟨b, rfl, eb⟩ := el u mem_cons_self;refine ⟨.ref b :: xs, .cons rfl r, fun Z' => ao.mpr ⟨.ref b, xs, rfl, bO.mpr ⟨b, _, rfl, eb, iA _⟩, j Z'⟩⟩
 refine wpAny_bind (wpAny_newList ?_ (by rw [hal, sizeLine_eq]; omega));have hoL : (h3.push (seqObj "list" acc.toArray 0)).get? h3.objs.size = some (seqObj "list" acc.toArray 0) := get?_push_size _ rfl;have kp : ∀ b o, h3.get? b = some o -> (h3.push (seqObj "list" acc.toArray 0)).get? b = some o := fun b o e => get?_push_of_some _ e;have hP : ∀ d ∈ (acc.map (ef h2)).map tupS, tQ d /\ X.A.in1.in1.units + d.dep < cLine := fun d hd => by
  obtain ⟨x, hx, rfl⟩ := mem_map.mp hd;obtain ⟨u, hu', rfl⟩ := mem_map.mp hx;refine ⟨⟨_, knd u hu', rfl⟩, ?_⟩;have e : (tupS (ef h2 u)).dep <= 2 := by simp [tupS, D.dep, fS]
  show X.A.units + 1 + 1 + (tupS (ef h2 u)).dep < cLine;omega
 refine wpAny_bind (wpAny_holding (wpAny_call_entry slot_list_sort ⟨_, hoL, rfl⟩ entry_list_sort (sZ (s := { s1 with heap := h3, drawn := d3, toks := tk3 }) (t1 := tk3) (Z := Z) iW AG hP I3 (j3 Z) rv3 (by omega) kp (Nat.le_refl _) hoL fun s4 prs I4 pp4 e4 => ⟨_, rfl, ?_⟩) (args_list_sort _)));have Ha : H1 h3.objs.size = none := I3.hok.fresh (Nat.le_refl _);refine wpAny_pure ⟨_, rfl, .ref h3.objs.size, _, I4, rfl, k _ _ (sm1.trans (az Ha)) (ar.mpr ⟨_, _, rfl, .inl ⟨ax, ?_⟩, ?_⟩)⟩
 . cases m
   . exact oz.op _ (sm1.free Ha)
   . exact sm1.free Ha
 have j0 := eK fun z hz => jJ (j3 (out m Z H)) z (pp4.mem_iff.mp hz);rw [e4, yT hts pk] at j0;exact j0.same (az Ha)
end
def uC (h : Heap) (p : Addr -> Bool) : Heap := ⟨h.objs.mapIdx fun i o => if p i then o else { o with data := .freed }, h.life⟩
theorem hJ {h : Heap} {p : Addr -> Bool} {b : Addr} : (uC h p).get? b = if p b = true then h.get? b else none := by
 unfold uC Heap.get?;rw [Array.getElem?_mapIdx]
 cases e : h.objs[b]? with
 | none => simp
 | some o => cases q : p b <;> simp [q]
def fA (base h : Heap) (cs : List Addr) : Heap := uC h fun b => (base.get? b).isSome || cs.contains b
section
variable {P : Program} {w : World} {K : Frag} {mg : HV} {base base' h : Heap} {A : Around} {outer : List Env} {s : Shared} {H : Hp} {cs : List Addr} {b : Addr} {o : Obj}
theorem yV (bs : ∀ b o, base.get? b = some o -> h.get? b = some o) (e : base.get? b = some o) : (fA base h cs).get? b = some o := by
 unfold fA; rw [hJ, if_pos (by simp [e])]; exact bs b o e
theorem kU (hb : b ∈ cs) (e : h.get? b = some o) : (fA base h cs).get? b = some o := by
 unfold fA; rw [hJ, if_pos (by simp [hb])]; exact e
theorem wY (bs : ∀ b o, base.get? b = some o -> h.get? b = some o) (e : (fA base h cs).get? b = some o) : h.get? b = some o /\ (base.get? b = some o \/ b ∈ cs) := by
 unfold fA at e;rw [hJ] at e;by_cases q : ((base.get? b).isSome || cs.contains b) = true
 . rw [if_pos q] at e;refine ⟨e, ?_⟩;rw [Bool.or_eq_true] at q;rcases q with q | q
   . obtain ⟨o', q'⟩ := Option.isSome_iff_exists.mp q;have z := bs b o' q';rw [e] at z;cases z;exact .inl q'
   . exact .inr (by simpa using q)
 . rw [if_neg q] at e; cases e
theorem xY (m : Mod K mg base) (k : ∀ b o, base.get? b = some o -> base'.get? b = some o) : Mod K mg base' :=
 ⟨m.kin.keeps k, m.glob.keeps k, let ⟨mb, a, b⟩ := m.blt; ⟨mb, a.keeps k, b⟩, m.nolimit.keeps k⟩
theorem tT (e : lQ P w K mg base A outer s H) (hc : ∀ c ∈ cs, H c = none /\ c ∉ oR outer) : lQ P w K mg (fA base s.heap cs) A outer s H := by
 have bs : ∀ b o, base.get? b = some o -> s.heap.get? b = some o := fun b o q => (e.bs b o q).1;refine ⟨e.frames, xY e.mod fun b o q => yV bs q, fun b o q => ?_, by simp [fA, uC], ?_, e.frf, e.hok, e.bare⟩
 . obtain ⟨h1, h2⟩ := wY bs q;refine ⟨h1, ?_⟩;rcases h2 with h2 | h2
   . exact (e.bs b o h2).2
   . exact (hc b h2).1
 . have go : ∀ (l : List Env), (∀ b ∈ oR l, b ∉ cs) -> s.heap.FunFrames base l -> s.heap.FunFrames (fA base s.heap cs) l := by
    intro l
    induction l with
    | nil => intro _ _; trivial
    | cons env rest ih =>
     intro hn hl;obtain ⟨hk, ⟨L, o, hf, hb, ho, hd⟩, hr⟩ := hl;have hn' : ∀ b, b = L \/ b ∈ oR rest -> b ∉ cs := fun b hb => hn b (by
      unfold oR at hb ⊢;rw [List.filterMap_cons, hf];rcases hb with rfl | hb
      . exact mem_cons_self
      . exact mem_cons_of_mem _ hb)
     refine ⟨hk, ⟨L, o, hf, ?_, ho, hd⟩, ih (fun b hb => hn' b (.inr hb)) hr⟩;have nL := hn' L (.inl rfl);unfold fA;rw [hJ, if_neg];rw [hb];simpa using nL
   exact go outer (fun b hb z => (hc b z).2 hb) e.fJ
end
structure zA (base : Heap) (scope : Scope) (clos : List (Str × Addr)) (p : Str) (caps : List (Str × V)) : Prop where
 kind : scope.kind = .function
 co : scope.isCoroutine = false
 gen : scope.isGenerator = false
 nocell : ∀ x ∈ scope.names, x.2 ≠ .cell
 par : scope.names.lookup p = some .local
 cap : ∀ q ∈ caps, scope.names.lookup q.1 = some .free /\ ∃ c u, clos.lookup q.1 = some c /\ RelV q.2 u /\ base.IsCell c (some u)
 inj : ∀ x y c, clos.lookup x = some c -> clos.lookup y = some c -> x = y
 has : ∀ x, scope.names.lookup x = some .free -> ∃ c, clos.lookup x = some c
 cell : ∀ x c, clos.lookup x = some c -> ∃ v, base.IsCell c v
section
variable {X : Cx} {pins : HZ} {σ : St} {H : Hp} {s : Shared} {f c : Addr} {A : Around} {scope : Scope} {clos : List (Str × Addr)} {p qn : Str} {caps : List (Str × V)}
theorem wg {x : Str} (I : Inv X pins σ H s) (hf : X.fn x = true) (h : X.env.cells.lookup x = some c) : c ∉ oR X.stack := by
 have h0 : c ∉ X.fs := fun hb => by
  obtain ⟨_, o, ho, _⟩ := I.ok.fJ.mem hb;exact absurd (lt_size ho) (Nat.not_lt.mpr (I.ok.cab x c hf h))
 rcases I.ok.stk with e | ⟨e, fr⟩
 . rw [e]; exact h0
 . rw [e];intro hb;unfold oR at hb;rw [List.filterMap_cons, fr] at hb;rcases mem_cons.mp hb with z | z
   . exact I.Cw x c h z
   . exact h0 z
def rJ (caps : List (Str × Nat)) (σ : St) : List (Str × V) := caps.map fun q => (q.1, ((σ[q.2]?).join).getD .non)
theorem Bx {caps : List (Str × Nat)} (L : rU X scope clos p caps) (I : Inv X pins σ H s) (hv : ∀ q ∈ caps, ∃ v, σ[q.2]? = some (some v)) : zA (fA X.base s.heap (clos.map (·.2))) scope clos p (rJ caps σ) := by
 refine ⟨L.kind, L.co, L.gen, L.nocell, L.par, fun q hq => ?_, fun x y c h1 h2 => I.ok.inj x y c (L.sub x c h1) (L.sub y c h2), L.has, fun x c h => ?_⟩
 . obtain ⟨q0, hq0, rfl⟩ := mem_map.mp hq;obtain ⟨v, ev⟩ := hv q0 hq0;obtain ⟨c1, c2, c3, c4⟩ := L.cap q0 hq0;obtain ⟨m0, hn0, hl0⟩ := I.loc;obtain ⟨u', r', lk⟩ := hl0 q0.2 q0.1 v c1 ev (.inr (.inl c2));refine ⟨c4, ?_⟩;rcases lk with ⟨k1, _⟩ | ⟨_, c', lc, o, ho, hdo⟩
   . rw [c2] at k1; cases k1
   . have hm : c' ∈ clos.map (·.2) := mem_map.mpr ⟨(q0.1, c'), PySem.mem_of_lookup (c3.trans lc), rfl⟩;refine ⟨c', u', c3.trans lc, ?_, o, kU hm ho, hdo⟩;show RelV (((σ[q0.2]?).join).getD .non) u';rw [ev];exact r'
 . obtain ⟨v, o, ho, hd⟩ := I.cell x c (L.sub x c h);exact ⟨v, o, kU (mem_map.mpr ⟨(x, c), PySem.mem_of_lookup h, rfl⟩) ho, hd⟩
theorem zV (I : Inv X pins σ H s) (L : zA X.base scope clos p caps) (hd : A.handled = none) (e0 : lQ X.prog X.w X.K X.mg X.base A X.stack s H) {u : Value} {v : V} (r : RelV v u) {h1 : Heap} {tk : Nat} {R : Ic}
 (hns : h1.Ns s.heap.objs.size fun x => [(p, u)].reverse.lookup x) (hk : ∀ b o, s.heap.get? b = some o -> h1.get? b = some o) :
 Inv (dN X A (p :: caps.map (·.1)) qn scope clos f c s H R) [] (some v :: caps.map fun q => some q.2) H { s with heap := h1, toks := tk } := by
 have noA : ∀ b : Addr, b ∉ (dN X A (p :: caps.map (·.1)) qn scope clos f c s H R).ex := fun b z => absurd (show b ∈ ([] : List Addr) from z) (by simp);have cl : ∀ {c' : Addr} {w : Option Value}, X.base.IsCell c' w -> h1.IsCell c' w := fun {c' w} ⟨o, ho, hdo⟩ => ⟨o, hk _ _ (I.bk _ _ ho), hdo⟩
 refine ⟨⟨e0.mod, L.kind, rfl, rfl, Nat.le_refl _, L.inj, fun y hy => ?_, fun y c' z _ => absurd (show false = true from z) (by simp), fun _ => hd, Around.frames_deeper e0.frames, .inr ⟨rfl, rfl⟩, fun b z => absurd z (noA b), e0.bs, e0.bsz, fun b _ _ => noA b, fun b z => absurd z (noA b), e0.fJ, e0.frf⟩,
  rfl, e0.bare, Un.kept hk, ⟨_, hns, fun i y v' h1 h2 h3 => ?_⟩, fun y c' h => ?_, e0.hok.fresh (Nat.le_refl _), fun y c' h => ?_, fun p hp => absurd (show p ∈ ([] : HZ) from hp) (by simp), e0.hok.kept hk, by simp [dN]⟩
 . have hy : scope.names.lookup y = some .cell \/ scope.names.lookup y = some .free := hy;rcases hy with hy | hy
   . exact absurd rfl (L.nocell _ (PySem.mem_of_lookup hy))
   . exact L.has y hy
 . cases i with
   | zero =>
    have e1 : p = y := by simpa [dN] using h1
    have e2 : v = v' := by simpa using h2
    subst e1 e2;exact ⟨u, r, .inl ⟨L.par, by simp⟩⟩
   | succ i =>
    have e1 : (caps.map (·.1))[i]? = some y := by simpa [dN] using h1
    have e2 : (caps.map fun q => some q.2)[i]? = some (some v') := by simpa using h2
    rw [getElem?_map] at e1 e2
    cases eq : caps[i]? with
    | none => rw [eq] at e1; cases e1
    | some q =>
     rw [eq] at e1 e2;have e3 : q.1 = y := by simpa using e1
     have e4 : q.2 = v' := by simpa using e2
     subst e3 e4;obtain ⟨k1, c', u', lc, r', ic⟩ := L.cap q (mem_of_getElem? eq);exact ⟨u', r', .inr ⟨.inr k1, c', lc, cl ic⟩⟩
 . obtain ⟨v, ic⟩ := L.cell y c' h;exact ⟨v, cl ic⟩
 . obtain ⟨v, o, ho, _⟩ := L.cell y c' h;exact (I.bs _ _ ho).2
def rR (K : Frag) (ds : List D) (vs : List V) (f c : Addr) (qn : Str) (params : Arguments) (body : Expr) (scope : Scope) (clos : List (Str × Addr)) (pm ctv : Value) (H : Hp) (Z : aA) : Prop :=
 H f = some (tO f qn params body scope clos pm c ctv) /\ H c = some (lN c qn) /\ aH K H Z ds vs
variable {params : Arguments} {body : Expr} {pm ctv : Value} {g : D -> D} {P0 : D -> Prop} {m : Bool} {ds : List D}
theorem xf (L : zA X.base scope clos p caps) (hd : A.handled = none) (hA : A.frames = X.A.frames) (hroom : A.depth < recursionLimit)
 (hb : ∀ u, bindArgs (PySem.W.kla_fn "<lambda>" qn params body scope clos pm (.ref c) ctv) ⟨[u], []⟩ = pure [(p, u)])
 (hbody : ∀ (s : Shared) (H : Hp) (R : Ic) (d : D), P0 d -> E (dN X A (p :: caps.map (·.1)) qn scope clos f c s H R) m (some d :: ds.map some) body (g d)) :
 sU X A σ f g P0 (rR X.K ds (caps.map (·.2)) f c qn params body scope clos pm ctv) where
 zone := fun {H Z Z'} hS hm ⟨a, b, en⟩ => ⟨a, b, en.carry (.of (aq.refl H) (fun a xs e z => hS a _ e z) hm)⟩
 same := fun {H H' Z} sm ⟨a, b, en⟩ => ⟨sm.at a, sm.at b, en.same sm⟩
 write := fun {H Z l xs ys} hl n ⟨a, b, en⟩ => ⟨by rw [ag (dB a hl (by intro z; cases z))]; exact a, by rw [ag (dB b hl (by intro z; cases z))]; exact b, en.carry (.write hl n)⟩
 run := fun E' pins s H Z u d Q I oz ⟨ga, gb, en⟩ ⟨v, r, iv⟩ p0 k => by
  have hfo : s.heap.get? f = some (kla_obj "<lambda>" qn params body scope clos pm c ctv) := (I.hok f _ ga).1;have hrec : s.heap.CodeRec (.ref c) qn := (I.hok c _ gb).1;have e0 : lQ X.prog X.w X.K X.mg X.base A X.stack s H := ⟨hA.trans I.fb.frames, I.fb.mod, I.fb.bs, I.fb.bsz, I.fb.fJ, I.fb.frf, I.fb.hok, I.fb.bare⟩
  refine wpAny_call (PySem.W.kla_callFunE hroom hfo rfl L.co L.gen rfl hrec ?_);rw [hb u];refine wpAny_pure (wpAny_newFunctionEnv L.nocell (fun x hx => ?_) (fun h1 hns hsb => ⟨I.nolimit.fresh _ hsb, ?_⟩) L.kind)
  . have : x = (p, u) := by simpa using hx
    rw [this]; exact L.par
  . show codeAny _ _ (.expr body (envX qn scope s.heap.objs.size f (.ref c) clos)) _ _;have hk1 : ∀ b o, s.heap.get? b = some o -> h1.get? b = some o := fun b o e => hsb.extBut b o (Nat.ne_of_lt (lt_size e)) (get?_push_of_some _ e);refine PySem.W.kla_codeExpr ?_;have J := zV (f := f) (c := c) (qn := qn) (R := fun r s' => match r with | .ok (.ret v) => Q v s' | .ok _ => False | .error e => E' e s') (tk := s.toks + 1) I L hd e0 r hns hk1;have en2 : bM X.K H Z (some v :: caps.map fun q => some q.2) (some d :: ds.map some) := fun i d' e => by
     cases i with
     | zero => cases e; exact ⟨v, rfl, iv⟩
     | succ i =>
      have e' : ds[i]? = some d' := by
       have z : (ds.map some)[i]? = some (some d') := by simpa using e
       rw [getElem?_map] at z
       cases q : ds[i]? with
       | none => rw [q] at z; cases z
       | some x => rw [q] at z; cases z; rfl
      obtain ⟨w, h1, h2⟩ := en.get e';refine ⟨w, ?_, h2⟩;rw [getElem?_map] at h1;show (caps.map fun q => some q.2)[i]? = _;rw [getElem?_map]
      cases q : caps[i]? with
      | none => rw [q] at h1; cases h1
      | some x => rw [q] at h1; cases h1; rfl
    have run := hbody s H (fun r s' => match r with | .ok (.ret v) => Q v s' | .ok _ => False | .error e => E' e s') d p0 [] _ _ H (fun v' H' => aq H H' /\ In X.K H' (out m Z H) (g d) v') J ⟨Z, oz, en2, fun v' H' sm i => ⟨sm, i⟩⟩;refine wpAny_mono run (fun w s' ⟨v', H', J', rw', sm, iw⟩ => ?_) fun _ _ z => z;obtain ⟨v2, H2, I2, r2, sm2, iw2⟩ := I.after (Q := fun v' H' => aq H H' /\ In X.K H' (out m Z H) (g d) v') (u := w) (s' := s') ⟨v', H', J'.os, J'.bare, J'.base, J'.hok, rw', sm, iw⟩;exact k w H2 s' I2 sm2 ⟨v2, r2, iw2.plain oz⟩
end
section
variable {X : Cx} {f c : Addr} {scope : Scope} {clos : List (Str × Addr)} {qn x : Str} {params : Arguments} {body : Expr} {pm ctv : Value} {g : D -> D} {P0 : D -> Prop} {m : Bool} {ρ : List (Option D)} {a : Expr} {d : D} {i : Nat} {p pos : Pos} {dcs : List D} {vcs : List V}
def Ea (K : Frag) (i : Nat) (f : Addr) (ρ : List (Option D)) (Good : Hp -> aA -> Prop) (d' : D) : TE := fun σ H Q => σ[i]? = some (some (.ref f)) /\ ∃ Z : aA, Z.Open H /\ bM K H Z σ ρ /\ Good H Z /\ ∀ v H', aq H H' -> In K H' Z d' v -> Q v H'
theorem zj (hN : X.N[i]? = some x) (hv : zw X.env.scope x) (ha : E X m ρ a d) (kk : ∀ σ, sU X X.A σ f g P0 (rR X.K dcs vcs f c qn params body scope clos pm ctv)) (hp : P0 d)
 (hd : (x == ("__debug__" : Str)) = false := by decide) (hcd : (x == ("__classdict__" : Str)) = false := by decide) (hs : starEach [a] X.env = [(false, eval a X.env)] := by rfl) :
 PE X (.Call (.Name x p) [a] [] pos) (Ea X.K i f ρ (rR X.K dcs vcs f c qn params body scope clos pm ctv) (g d)) := by
 intro pins s σ H Q I ⟨e, Z, oz, en, gd, k⟩;refine wpAny_Call_Name_kw (ck (fv hN hv hd hcd pins s σ H (fun v H' => v = .ref f /\ H' = H) I ⟨_, e, rfl, rfl⟩) fun u s1 ⟨v, H1, I1, r1, q1, q2⟩ => ?_);subst q1 q2;cases r1;have PAa := aM ha bh (by rw [hs]; rfl);refine PyProof.Rows.callWith_def (o := kla_obj "<lambda>" qn params body scope clos pm c ctv) rfl (ck (PAa pos pins s1 σ H1 (fun vs H2 => aq H1 H2 /\ ∃ x, vs = [x] /\ In X.K H2 (out m Z H1) d x) I1 ⟨Z, oz, en, fun x H2 s2 i2 => ⟨s2, x, rfl, i2⟩⟩) fun us s2 ⟨vs, H2, I2, r2, sm, x, ex, ix⟩ => ⟨?_, ?_⟩) (by rw [hs]; rfl)
 . exact (I2.hok f _ (sm.at gd.1)).1
 . subst ex;obtain ⟨u, rfl, rx⟩ := vals1 r2;exact (kk σ).run _ pins s2 H2 Z u d _ I2 (oz.same sm) ((kk σ).same sm gd) ⟨x, rx, ix.plain oz⟩ hp fun kv H3 s3 I3 sm3 ⟨v3, r3, i3⟩ => ⟨v3, H3, I3, r3, k v3 H3 (sm.trans sm3) i3⟩
end
section
variable {X : Cx} {F : Fn} {ρ ρ1 : cR} {Q : jv} {rest body orelse : List Stmt} {e a : Expr} {d : D} {pos p cpos : Pos} {i : Nat} {x : Str} {m : Bool} {f c : Addr} {scope : Scope} {clos : List (Str × Addr)} {qn : Str} {params : Arguments} {lb : Expr} {pm ctv : Value} {g : D -> D} {P0 : D -> Prop} {dcs : List D} {vcs : List V} {b : Bool}
theorem Eg (hi : ρ[i]? = some (some (.rf (.ref f)))) (ha : E X m (view true false ρ) a d) (kk : ∀ σ, sU X X.A σ f g P0 (rR X.K dcs vcs f c qn params lb scope clos pm ctv)) (hp : P0 d) (hg : g d = .bl b) (gd : rR X.K dcs vcs f c qn params lb scope clos pm ctv F.H F.Z)
 (h1 : b = true -> SD X F body ρ { Q with nx := fun r => SD X F rest r Q }) (h2 : b = false -> SD X F orelse ρ { Q with nx := fun r => SD X F rest r Q }) (hN : X.N[i]? = some x := by rfl) (hv : zw X.env.scope x := by first | exact Or.inl rfl | exact Or.inr (Or.inl rfl) | exact Or.inr (Or.inr rfl))
 (hd : (x == ("__debug__" : Str)) = false := by decide) (hcd : (x == ("__classdict__" : Str)) = false := by decide) (hs : starEach [a] X.env = [(false, eval a X.env)] := by rfl) :
 SD X F (.If (.Call (.Name x p) [a] [] cpos) body orelse pos :: rest) ρ Q := by
 refine gN (N := fun r => SD X F rest r Q) ?_ fun _ h => h;have hc := xQ (zj (p := p) (pos := cpos) hN hv ha kk hp hd hcd hs);have at' : ∀ {σ hv : St} {hρ : cR} {A : Nat -> List Addr} {H : Hp}, σ.length = ρ.length -> aZ X.K F H (σ ++ hv) (ρ ++ hρ) A -> σ[i]? = some (some (.ref f)) := fun {σ hv hρ A H} hl S => by
  have il : i < ρ.length := (List.getElem?_eq_some_iff.mp hi).1;obtain ⟨v, e1, e2⟩ := S.at' i (.rf (.ref f)) (by rw [getElem?_append_left il]; exact hi);rw [getElem?_append_left (by omega)] at e1;have e3 : v = .ref f := e2;rw [e1, e3]
 cases b with
 | true =>
  exact PS.mono (mR hc (h1 rfl) (dy (sts := orelse))) fun Q' σ H z0 => fc z0 fun hv hρ A hl S ff => ⟨at' hl S, _, aU S true false, S.env hl true false, (kk σ).same S.same gd, fun v H1 s1 i1 => by
   rw [hg] at i1;exact ⟨true, aS.mp i1, by refine lO ?_; exact ⟨hv, hρ, A, hl, S.grow s1, ff⟩⟩⟩
 | false =>
  exact PS.mono (mR hc (dy (sts := body)) (h2 rfl)) fun Q' σ H z0 => fc z0 fun hv hρ A hl S ff => ⟨at' hl S, _, aU S true false, S.env hl true false, (kk σ).same S.same gd, fun v H1 s1 i1 => by
   rw [hg] at i1;exact ⟨false, aS.mp i1, by refine lW ?_; exact ⟨hv, hρ, A, hl, S.grow s1, ff⟩⟩⟩
end
def GW (K : Frag) (f : Addr) (Good : Hp -> aA -> Prop) (m : Bool) (ds : List D) (d : D) : Sp := fun vs H Q _ => ∃ (Z : aA) (xs : List V), vs = xs ++ [.ref f] /\ Z.Open H /\ aH K H Z ds xs /\ Good H Z /\ ∀ v H', aq H H' -> In K H' (out m Z H) d v -> Q v H'
def ku (N : Ie) (ds : List D) (v : V) : cR := (cF N ds).set ds.length (some (.rf v))
theorem wz {N : Ie} {xs : List V} {v : V} (h : xs.length < N.length) : L2.start N (xs ++ [v]) = (L2.start N xs).set xs.length (some v) := by
 unfold L2.start;obtain ⟨k, hk⟩ : ∃ k, N.length - xs.length = k + 1 := ⟨N.length - xs.length - 1, by omega⟩
 have hk' : N.length - (xs ++ [v]).length = k := by rw [List.length_append]; simp; omega
 rw [hk, hk', List.replicate_succ, map_append, List.append_assoc, List.set_append_right _ _ (by simp)];simp
theorem wO {K : Frag} {Z : aA} {H : Hp} {m : Bool} {N : Ie} {ds : List D} {xs : List V} {v : V} (oz : Z.Open H) (h : aH K H Z ds xs) (hN : ds.length < N.length) :
 aZ K ⟨m, Z, H⟩ H (L2.start N (xs ++ [v]) ++ []) (ku N ds v ++ []) (bD (fun _ => []) ds.length []) := by
 have hl := h.length;have S := iH (m := m) (N := N) oz h;rw [wz (by omega), <- hl];unfold ku;have e1 : (L2.start N xs).length = N.length := by simp [L2.start]; omega
 have e2 : (cF N ds).length = N.length := by simp [cF]; omega
 rw [<- bG (by omega), <- bG (by omega)];exact S.put (by rw [List.length_append]; omega) (by rw [List.length_append]; omega) (aq.refl H) List.nodup_nil (fun a ha => by simp at ha) rfl
section
variable {P : Program} {w : World} {K : Frag} {mg : HV} {base : Heap}
theorem HF {x qual : Str} {st : Stmt} {f fl : Addr} {fd : FuncData} {N ps : Ie} {k : Nat} {m : Bool} {Good : Hp -> aA -> Prop} {ds : List D} {d : D} (Fx : gr K x qual st f fd) (S : aE N ps (ah st)) (hlen : ds.length + 1 = ps.length) (hN : ds.length < N.length)
 (body : ∀ (cdv : Value) (A : Around) (outer : List Env) (s : Shared) (H : Hp) (E : XK) (Z : aA), bt k (A.deeper (envOfC qual (ah st) s.heap.objs.size f cdv)) -> Good H Z ->
  SD (kl lP P w K mg base N qual (ah st) f cdv A outer s H E).Am ⟨m, Z, H⟩ (bb st) (ku N ds (.ref fl)) { nx := fun _ => d = .non, rt := fun d' => d' = d }) : eB P w K mg base lP (k + 1) f fd ps (GW K fl Good m ds d) := by
 refine Fx.ok S (fun vs H Q E ⟨Z, xs, e, oz, i, gd, kk⟩ => ?_) (fun cdv A outer s H vs Q E hr ⟨Z, xs, e, oz, i, gd, kk⟩ => ?_)
 . rw [e, List.length_append, <- i.length]; exact hlen
 . subst e;have hl := i.length;refine ⟨_, body cdv A outer s H E Z hr gd, [], [], _, ?_, wO oz i hN, ⟨rfl, fun σ H' ⟨r, A', hl, S', e⟩ => ?_, fun σ H' ⟨r, A', hl, S', e⟩ => e.elim, fun σ H' ⟨r, A', hl, S', e⟩ => e.elim, fun v d' H' s' i' e => ?_, fun _ _ _ _ _ _ _ _ e => e.elim, fun _ _ _ _ _ _ _ _ _ _ _ _ _ e => e.elim⟩⟩
   . simp [L2.start, ku, cF]; omega
   . subst e;exact kk .non H' S'.same (bg.mpr rfl)
   . subst e;exact kk v H' s' i'
end
section
variable {X : Cx} {ρ : List (Option D)} {m1 m2 m : Bool} {a b : Expr} {da db d : D} {p pos lpos : Pos} {c Pt fa : Addr} {fd : FuncData} {k : Nat} {qn pn x p1 p2 p3 : Str} {params : Arguments} {body : Expr} {scope : Scope} {clos : List (Str × Addr)} {caps : List (Str × Nat)} {dcs : List D}
def Gn (qn : Str) (params : Arguments) (body : Expr) (scope : Scope) (clos : List (Str × Addr)) : TE := fun σ H Q => TabsOk H /\ ∀ f c' pm ctv H', aq H H' -> H' f = some (tO f qn params body scope clos pm c' ctv) -> H' c' = some (lN c' qn) -> Q (.ref f) H'
theorem Dk (LC : qM X c Pt qn) (hdef : defaultsOf params X.env = ([], [])) (hcl : closureFor scope X.env = pure clos) : PE X (.Lambda params body scope lpos) (Gn qn params body scope clos) := fun pins s σ H Q I ⟨t, k⟩ =>
 rO LC I t hdef hcl fun f c' pm ctv H' s' I' sm _ h1 h2 => ⟨.ref f, H', I', rfl, k f c' pm ctv H' sm h1 h2⟩
theorem Ae {js : Ih} {j i : Nat} (hcap : dh js ρ = dcs.map some) (hj : js[j]? = some i) : ∃ d, dcs[j]? = some d /\ ρ[i]? = some (some d) := by
 have z : (dh js ρ)[j]? = some ((ρ[i]?).join) := by unfold dh; rw [getElem?_map, hj]; rfl
 rw [hcap, getElem?_map] at z
 cases q0 : dcs[j]? with
 | none => rw [q0] at z; cases z
 | some dd =>
  rw [q0] at z;refine ⟨dd, rfl, ?_⟩
  cases q1 : ρ[i]? with
  | none => rw [q1] at z; cases z
  | some o =>
   rw [q1] at z
   cases o with
   | none => cases z
   | some o => cases z; rfl
theorem u5 (ha : E X m1 ρ a da) (hb : E X m2 ρ b db) (LC : qM X c Pt qn) (LO : rU X scope clos pn caps) (hcl : closureFor scope X.env = pure clos) (hcap : dh (caps.map (·.2)) ρ = dcs.map some) (hfn : ∀ x c, clos.lookup x = some c -> X.fn x = true) (hlk : ∀ q ∈ clos, clos.lookup q.1 = some q.2)
 (hF : ∀ (base' : Heap) (capsv : List (Str × V)) (f c' : Addr) (pm ctv : Value), capsv.map (·.1) = caps.map (·.1) -> zA base' scope clos pn capsv -> eB X.prog X.w X.K X.mg base' lP k fa fd [p1, p2, p3] (GW X.K f (rR X.K dcs (capsv.map (·.2)) f c' qn params body scope clos pm ctv) m [da, db] d))
 (hr : bt k X.A) (hmg : X.mg x = some (.ref fa)) (hk : keepIn X.K (.ref fa) = true) (hbd : Binds X.K fd [p1, p2, p3] []) (hdef : defaultsOf params X.env = ([], []) := by rfl) (hg : Gl X x := by rfl) (hdb : (x == ("__debug__" : Str)) = false := by decide)
 (h1 : starEach [a, b, .Lambda params body scope lpos] X.env = (false, eval a X.env) :: starEach [b, .Lambda params body scope lpos] X.env := by rfl) (h2 : starEach [b, .Lambda params body scope lpos] X.env = (false, eval b X.env) :: starEach [.Lambda params body scope lpos] X.env := by rfl)
 (hx : Passes lP X E0 := by exact CS) : E X m ρ (.Call (.Name x p) [a, b, .Lambda params body scope lpos] [] pos) d := by
 intro pins s σ H Q I ⟨Z, oz, en, kq⟩;have PAa := aM ha (aM hb (aM (Dk (body := body) (lpos := lpos) LC hdef hcl) bh rfl) h2) h1;refine wpAny_Call_Name_kw (oi I hg hmg ?_ hdb);refine PySem.W.callWith_K (h₀ := X.base) I.ok.mod.kin hk (ck (PAa pos pins s σ H (fun vs H3 => aq H H3 /\ ∃ xa xb f c' pm ctv, vs = [xa, xb, .ref f] /\ In X.K H3 Z da xa /\ In X.K H3 Z db xb /\ H3 f = some (tO f qn params body scope clos pm c' ctv) /\ H3 c' = some (lN c' qn)) I
  ⟨Z, oz, en, fun xa H1 s1 i1 => ⟨Z, oz.same s1, en.same s1, fun xb H2 s2 i2 => ⟨(s1.trans s2).tabs oz.tb, fun f c' pm ctv H3 s3 q1 q2 => ⟨(s1.trans s2).trans s3, xa, xb, f, c', pm, ctv, rfl, ((i1.plain oz).same s2).same s3, (i2.plain (oz.same s1)).same s3, q1, q2⟩⟩⟩⟩) fun us s1 ⟨vs, H3, I3, r3, sm, xa, xb, f, c', pm, ctv, ev, ia, ib, q1, q2⟩ => ⟨I3.Be, ?_⟩) h1 (by rw [h2]; rfl)
 subst ev;have hv : ∀ q ∈ caps, ∃ v, σ[q.2]? = some (some v) := fun q hq => by
  obtain ⟨j, hj⟩ := List.getElem?_of_mem hq;obtain ⟨dd, _, e2⟩ := Ae hcap (j := j) (i := q.2) (by rw [getElem?_map, hj]; rfl);obtain ⟨v, e, _⟩ := en q.2 dd e2;exact ⟨v, e⟩
 have C := Bx LO I3 hv;have FF := hF _ _ f c' pm ctv (by unfold rJ; rw [map_map]; rfl) C;have cells : ∀ cc ∈ clos.map (·.2), H3 cc = none /\ cc ∉ oR X.stack := fun cc hcc => by
  obtain ⟨⟨y, cc'⟩, hm, rfl⟩ := mem_map.mp hcc;have lk := hlk _ hm;exact ⟨I3.freeC y cc' (LO.sub y cc' lk), wg I3 (hfn y cc' lk) (LO.sub y cc' lk)⟩
 have dat : aH X.K H3 Z dcs ((rJ caps σ).map (·.2)) := by
  have hl : dcs.length = caps.length := by have z := congrArg List.length hcap; simpa [dh] using z.symm
  refine aH.of_get (by simp [rJ, hl]) fun j dd v e1 e2 => ?_;unfold rJ at e2;rw [map_map, getElem?_map] at e2
  cases q0 : caps[j]? with
  | none => rw [q0] at e2; cases e2
  | some q =>
   rw [q0] at e2;obtain ⟨d2, z1, z2⟩ := Ae hcap (j := j) (i := q.2) (by rw [getElem?_map, q0]; rfl);rw [e1] at z1;cases z1;obtain ⟨v2, z3, z4⟩ := en q.2 dd z2;have e4 : ((σ[q.2]?).join).getD .non = v := by simpa using e2
   rw [z3] at e4;have e5 : v2 = v := e4;rw [<- e5];exact z4.same sm
 refine wpAny_call (codeAny_mono (FF.run X.A X.stack s1 H3 ⟨us, []⟩ us [xa, xb, .ref f] Q E0 hr (tT I3.fb cells) ?_ r3 ⟨Z, [xa, xb], rfl, oz.same sm, ?_, ⟨q1, q2, dat⟩, fun v H' s' i' => kq v H' (sm.trans s') (i'.later sm)⟩) fun r s' hq => ?_)
 . have z := hbd s1 us I3.Be (by rw [append_nil, <- r3.length]; rfl);rw [append_nil] at z;exact z
 . exact ao.mpr ⟨_, _, rfl, ia, aH.one ib⟩
 . match r, hq with
   | .ok (.ret u), hq => exact I3.after hq
   | .error e, hq => exact hx pins σ H3 s1 e s' I3 hq
end
end Y
namespace Y
open PySem PySem.Spec PyProof.Rows L2
variable [b0]
def mh (rows : HQ) (p q : Ij) : Bool := aP .lt (iq rows p) (iq rows q)
theorem dt (rows : HQ) (p : Ij) : uy (iq rows p) := ⟨_, p, rfl⟩
theorem B4 {p q : Ij} (h : bK p = bK q) : p = q := by
 unfold bK at h;injection h with h;injection h with h1 h;injection h with h2 h;injection h1 with h1;injection h2 with h2;exact Prod.ext (by omega) (by omega)
theorem xT {rows : HQ} {p q : Ij} (h : iq rows p = iq rows q) : p = q := by
 unfold iq at h;injection h with h;injection h with h1 h;injection h with h2 h;exact B4 h2
theorem zD (rows : HQ) (p : Ij) : mh rows p p = false := jI.ir _ (dt rows p)
theorem zp {rows : HQ} {p q r : Ij} (a : mh rows p q = true) (b : mh rows q r = true) : mh rows p r = true := jI.tr _ _ _ (dt rows p) (dt rows q) (dt rows r) a b
theorem xp {rows : HQ} {p q : Ij} (n : p ≠ q) (a : mh rows q p = false) : mh rows p q = true := by
 cases h : mh rows p q with
 | true => rfl
 | false => exact absurd (xT (jI.tt _ _ (dt rows p) (dt rows q) h a)) n
theorem El {rows : HQ} {p q : Ij} (a : mh rows p q = true) : mh rows q p = false := by
 cases h : mh rows q p with
 | false => rfl
 | true => have := zp a h; rw [zD] at this; cases this
def ab (rows : HQ) : List Ij := (bx rows).mergeSort fun x y => !mh rows y x
theorem zx (rows : HQ) : xF rows = cT (ab rows) := by
 unfold xF cT ab g6;congr 1;refine (List.map_mergeSort (f := bK) (r := fun x y => !mh rows y x) (s := fun x y => !aP .lt (vA rows y) (vA rows x)) fun a _ b _ => ?_).symm;rw [gm, gm];rfl
theorem eX (rows : HQ) : (ab rows).Perm (bx rows) := List.mergeSort_perm _ _
theorem fX (rows : HQ) : (ab rows).length = h9 rows := by rw [(eX rows).length_eq, iG]
theorem r0 {α β : Type} (l : List α) (f : α -> List β) (hl : l.Nodup) (h1 : ∀ a ∈ l, (f a).Nodup) (h2 : ∀ a b x, x ∈ f a -> x ∈ f b -> a = b) : (l.flatMap f).Nodup := by
 induction l with
 | nil => simp
 | cons a l ih =>
  rw [List.flatMap_cons, List.nodup_append];rw [nodup_cons] at hl;refine ⟨h1 a (by simp), ih hl.2 fun b hb => h1 b (by simp [hb]), fun x hx y hy e => ?_⟩;subst e;obtain ⟨b, hb, hy⟩ := List.mem_flatMap.mp hy;have := h2 a b x hx hy;subst this;exact hl.1 hb
theorem tW (rows : HQ) : (bx rows).Nodup := by
 unfold bx cz;refine r0 _ _ List.nodup_range (fun n _ => ?_) fun a b x ha hb => ?_
 . rw [List.nodup_iff_pairwise_ne, List.pairwise_map];refine List.Pairwise.imp ?_ (List.nodup_iff_pairwise_ne.mp List.nodup_range);intro a b h e;injection e with _ e;exact h e
 . obtain ⟨_, _, rfl⟩ := mem_map.mp ha;obtain ⟨_, _, e⟩ := mem_map.mp hb;injection e with e _;exact e.symm
theorem r9 (rows : HQ) : (ab rows).Nodup := (eX rows).nodup_iff.mpr (tW rows)
theorem ez {rows : HQ} {p : Ij} : p ∈ ab rows ↔ p ∈ bx rows := (eX rows).mem_iff
theorem qO (rows : HQ) : (ab rows).Pairwise fun x y => mh rows x y = true := by
 have h : (ab rows).Pairwise fun x y => (!mh rows y x) = true := by
  unfold ab;refine List.pairwise_mergeSort (le := fun x y => !mh rows y x) (fun a b c h1 h2 => ?_) (fun a b => ?_) _
  . simp only [Bool.not_eq_true'] at *
    cases q : mh rows c a with
    | false => rfl
    | true =>
     by_cases e : b = c
     . subst e; rw [h1] at q; cases q
     . have := zp (xp e h2) q;rw [h1] at this; cases this
  . cases q : mh rows b a with
    | false => simp
    | true => rw [El q]; simp
 have n := List.nodup_iff_pairwise_ne.mp (r9 rows);refine (h.and n).imp fun {x y} h => xp h.2 (by simpa using h.1)
def Gq (rows : HQ) (ps : HS) : Prop := ∀ p ∈ ps, p ∈ bx rows
def G0 (d : D) : Prop := ∃ p, d = bK p
theorem iT : gk G0 := (gY fun _ => jQ).sub fun d ⟨p, e⟩ => ⟨_, e, ⟨p.1, rfl⟩, ⟨p.2, rfl⟩, trivial⟩
theorem qL (rows : HQ) : Gq rows (ab rows) := fun p hp => ez.mp hp
theorem nU (ws : Ie) : CT isStr (ae ws) := ⟨_, rfl, hV fun d hd => by obtain ⟨w, _, rfl⟩ := mem_map.mp hd; exact ⟨w, rfl⟩⟩
theorem Ao (ws : Ie) : aP .lt (ae ws) (ae ws) = false := (gh eU).ir _ (nU ws)
theorem ri (a b : Ie) : bR (ae a) (ae b) = true := (gh eU).cm _ _ (nU a) (nU b)
theorem zb (rows : HQ) (p q : Ij) : (aP .lt (ae (endAt rows p)) (ae (endAt rows q)) || (aJ (ae (endAt rows p)) (ae (endAt rows q)) && aP .lt (bK p) (bK q))) = mh rows p q := by
 unfold mh iq;simp only [aP, bC];by_cases h : endAt rows p = endAt rows q
 . rw [h, Ao, bQ, if_pos rfl];by_cases h2 : p = q
   . subst h2;rw [bQ, if_pos rfl, iT.ir _ ⟨p, rfl⟩];rfl
   . rw [yA, if_neg (by simpa using h2)];rfl
 . rw [iN, if_neg (by simpa using h), decide_eq_false h];simp
theorem DD {rows : HQ} {p q : Ij} (h : mh rows p q = true) : aP .lt (ae (endAt rows p)) (ae (endAt rows q)) = true \/ (endAt rows p = endAt rows q /\ aP .lt (bK p) (bK q) = true) := by
 rw [<- zb] at h;rw [Bool.or_eq_true, Bool.and_eq_true, iN, decide_eq_true_eq] at h;exact h
def slt (a b : Ie) : Bool := aP .lt (ae a) (ae b)
theorem tu (a : Ie) : slt a a = false := (gh eU).ir _ (nU a)
theorem tf {a b c : Ie} (h : slt a b = true) (k : slt b c = true) : slt a c = true := (gh eU).tr _ _ _ (nU a) (nU b) (nU c) h k
theorem wx {a b : Ie} (h : ae a = ae b) : a = b := by
 unfold ae at h;injection h with h;exact List.map_inj_right (f := D.str) (fun x y e => by injection e) |>.mp h
theorem pO {a b : Ie} (h : slt a b = false) (k : slt b a = false) : a = b := wx ((gh eU).tt _ _ (nU a) (nU b) h k)
theorem uo {a b : Ie} (h : slt a b = true) : slt b a = false := by
 cases q : slt b a with
 | false => rfl
 | true => have z := tf h q; rw [tu] at z; cases z
theorem jO (a : Ie) : slt a [] = false := by
 cases a <;> simp [slt, ae, aP, bC, Od.sz]
theorem uw {x : Str} {a : Ie} : slt [] (x :: a) = true := by
 simp [slt, ae, aP, bC, Od.sz]
theorem gR (x y : Str) (a b : Ie) : slt (x :: a) (y :: b) = if x = y then slt a b else Od.str .lt x y := by
 unfold slt ae;rw [map_cons, map_cons, aP, bC, aP];by_cases h : x = y
 . rw [if_pos h, if_pos (by simp [aJ, h]), aP]
 . rw [if_neg h, if_neg (by simp [aJ, h])]
theorem nJ : ∀ (a b : Ie), aP .le (ae a) (ae b) = !slt b a
 | [], b => by rw [jO]; simp [ae, aP, bC, Od.sz]
 | x :: a, [] => by rw [uw]; simp [ae, aP, bC, Od.sz]
 | x :: a, y :: b => by
  have ih := nJ a b;unfold ae at ih ⊢;rw [aP] at ih;rw [gR, map_cons, map_cons, aP, bC, aP];by_cases h : x = y
  . rw [if_pos (by simp [aJ, h]), if_pos h.symm];exact ih
  . rw [if_neg (by simp [aJ, h]), if_neg (Ne.symm h)];rfl
theorem g5 : ∀ (k : Nat) (a b : Ie), slt b a = false -> slt (b.take k) (a.take k) = false
 | 0, a, b, _ => by simpa using jO []
 | k + 1, [], b, _ => by simpa using jO _
 | k + 1, x :: a, [], h => by rw [uw] at h; cases h
 | k + 1, x :: a, y :: b, h => by
  rw [List.take_succ_cons, List.take_succ_cons, gR];rw [gR] at h;by_cases e : y = x
  . rw [if_pos e] at h ⊢;exact g5 k a b h
  . rw [if_neg e] at h ⊢;exact h
theorem eS : ∀ (ws e : Ie), e.take ws.length = ws -> slt e ws = false
 | [], e, _ => jO e
 | y :: ws, [], h => by simp at h
 | y :: ws, x :: e, h => by
  rw [length_cons, List.take_succ_cons] at h;injection h with h1 h2;rw [gR, if_pos h1];exact eS ws e h2
theorem Az (e ws : Ie) : slt (e.take ws.length) ws = slt e ws := by
 cases h : slt e ws with
 | false =>
  have z := g5 ws.length ws e h
  rwa [take_length] at z
 | true =>
  cases q : slt (e.take ws.length) ws with
  | true => rfl
  | false =>
   have z := g5 ws.length e ws (uo h);rw [take_length] at z;rw [eS ws e (pO q z)] at h;cases h
theorem zC (e ws : Ie) : aP .le (ae (e.take ws.length)) (ae ws) = (slt e ws || decide (e.take ws.length = ws)) := by
 rw [nJ, <- Az e ws];generalize e.take ws.length = t
 cases h : slt t ws with
 | true => rw [uo h]; rfl
 | false =>
  by_cases q : t = ws
  . rw [q, tu]; simp
  . cases z : slt ws t with
    | true => simp [q]
    | false => exact absurd (pO h z) q
def cS (rows : HQ) (ps : HS) (ws : Ie) : Nat := ps.countP fun p => slt (endAt rows p) ws
def manyN (rows : HQ) (ps : HS) (ws : Ie) : Nat := ps.countP fun p => decide ((endAt rows p).take ws.length = ws)
theorem rj {α : Type} {a b : α -> Bool} (h : ∀ x, a x = true -> b x = false) : ∀ l : List α, l.countP (fun x => a x || b x) = l.countP a + l.countP b
 | [] => rfl
 | x :: l => by
  rw [List.countP_cons, List.countP_cons, List.countP_cons, rj h l]
  cases q : a x with
  | true => rw [h x q]; simp; omega
  | false => cases b x <;> simp <;> omega
theorem uA (rows : HQ) (ps : HS) (ws : Ie) : (ps.countP fun p => aP .le (ae ((endAt rows p).take ws.length)) (ae ws)) = cS rows ps ws + manyN rows ps ws := by
 unfold cS manyN;rw [<- rj (a := fun p => slt (endAt rows p) ws) (b := fun p => decide ((endAt rows p).take ws.length = ws)) fun p h => ?_]
 . congr 1;funext p;exact zC _ _
 . cases q : decide ((endAt rows p).take ws.length = ws) with
   | false => rfl
   | true => rw [eS ws _ (of_decide_eq_true q)] at h; cases h
theorem mP {rows : HQ} {i j : Nat} (h : i < j) (hj : j < (ab rows).length) : slt (endAt rows ((ab rows).getD j (0, 0))) (endAt rows ((ab rows).getD i (0, 0))) = false := by
 have up := qO rows;have z := List.pairwise_iff_getElem.mp up i j (by omega) hj h;have e1 : (ab rows).getD i (0, 0) = (ab rows)[i] := by simp [show i < (ab rows).length by omega]
 have e2 : (ab rows).getD j (0, 0) = (ab rows)[j] := by simp [hj]
 rw [e1, e2];rcases DD z with q | ⟨q, _⟩
 . exact uo q
 . rw [q]; exact tu _
def sI (rows : HQ) (ps : HS) (g : List Str -> Bool) : Prop := ∀ i j, i < j -> j < ps.length -> g (endAt rows (ps.getD j (0, 0))) = true -> g (endAt rows (ps.getD i (0, 0))) = true
theorem se (rows : HQ) (ws : Ie) : sI rows (ab rows) fun e => slt e ws := fun i j h hj q => by
 have z := mP h hj
 cases y : slt (endAt rows ((ab rows).getD i (0, 0))) (endAt rows ((ab rows).getD j (0, 0))) with
 | true => exact tf y q
 | false => rw [pO y z]; exact q
theorem rH (rows : HQ) (ws : Ie) : sI rows (ab rows) fun e => aP .le (ae (e.take ws.length)) (ae ws) := fun i j h hj q => by
 have z := g5 ws.length _ _ (mP h hj);dsimp only at q ⊢;rw [nJ] at q ⊢;generalize (endAt rows ((ab rows).getD i (0, 0))).take ws.length = a at z ⊢;generalize (endAt rows ((ab rows).getD j (0, 0))).take ws.length = b at z q
 cases y : slt ws a with
 | false => rfl
 | true =>
  exfalso;have hb : slt ws b = true := by
   cases x : slt a b with
   | true => exact tf y x
   | false => rw [<- pO x z]; exact y
  rw [hb] at q;cases q
theorem count_at {α : Type} {g : α -> Bool} {x : α} : ∀ (l : List α) (n : Nat), n <= l.length -> (∀ i, i < n -> g (l.getD i x) = true) -> (∀ i, n <= i -> i < l.length -> g (l.getD i x) = false) -> l.countP g = n
 | [], n, h, _, _ => by simp at h; simp [h]
 | y :: l, 0, _, _, h => by
  have h0 := h 0 (Nat.le_refl _) (by simp);rw [List.getD_cons_zero] at h0;rw [List.countP_cons, h0, count_at (x := x) l 0 (Nat.zero_le _) (fun i hi => absurd hi (by omega)) fun i _ hi => by simpa using h (i + 1) (Nat.zero_le _) (by simpa using hi)];rfl
 | y :: l, n + 1, hn, h1, h2 => by
  have h0 := h1 0 (by omega);rw [List.getD_cons_zero] at h0;rw [List.countP_cons, h0, count_at (x := x) l n (by simpa using hn) (fun i hi => by simpa using h1 (i + 1) (by omega)) fun i hi hl => by simpa using h2 (i + 1) (by omega) (by simpa using hl)];rfl
def strsOf : D -> List Str
 | .lst ds => ds.map fun d => match d with | .str x => x | _ => ""
 | _ => []
theorem jd (e : Ie) : strsOf (ae e) = e := by
 show (e.map D.str).map _ = e;rw [map_map];exact (map_congr_left (fun x _ => rfl)).trans (List.map_id e)
def mN (ds : List D) (d : D) : Prop := ∃ (rows : HQ) (ws : Ie), ds = [aQ rows, cT (ab rows), ae ws] /\ d = .tup [.int ((cS rows (ab rows) ws : Nat) : Int), .int ((cS rows (ab rows) ws + manyN rows (ab rows) ws : Nat) : Int)]
theorem gA {α : Type} (g : α -> Bool) : ∀ (ps : List α), (∀ i j : Nat, i < j -> ∀ a b, ps[i]? = some a -> ps[j]? = some b -> g b = true -> g a = true) -> ps.filter g = ps.take (ps.countP g) /\ ps.filter (fun a => !g a) = ps.drop (ps.countP g)
 | [], _ => by simp
 | p :: ps, h => by
  have ih := gA g ps fun i j hij a b ha hb => h (i + 1) (j + 1) (by omega) a b (by simpa using ha) (by simpa using hb)
  cases q : g p with
  | true =>
   rw [List.filter_cons_of_pos q, List.countP_cons_of_pos q, List.take_succ_cons, List.drop_succ_cons, List.filter_cons_of_neg (by simp [q]), ih.1, ih.2];exact ⟨rfl, rfl⟩
  | false =>
   have no : ∀ a ∈ ps, g a = false := fun a ha => by
    obtain ⟨j, hj, rfl⟩ := List.mem_iff_getElem.mp ha
    cases w : g ps[j] with
    | false => rfl
    | true =>
     have := h 0 (j + 1) (by omega) p ps[j] rfl (by simp [hj]) w;rw [q] at this; cases this
   have c0 : ps.countP g = 0 := List.countP_eq_zero.mpr fun a ha => by simp [no a ha]
   rw [List.filter_cons_of_neg (by simp [q]), List.countP_cons_of_neg (by simp [q]), c0, List.filter_cons_of_pos (by simp [q])];refine ⟨by rw [List.take_zero]; exact List.filter_eq_nil_iff.mpr fun a ha => by simp [no a ha], ?_⟩;rw [List.drop_zero, List.filter_eq_self.mpr fun a ha => by simp [no a ha]]
def mn (rows : HQ) (ws : Ie) (p : Ij) : Bool := decide ((endAt rows p).take ws.length = ws)
theorem sI.of {rows : HQ} {ps : HS} {g : List Str -> Bool} (h : sI rows ps g) : ∀ i j : Nat, i < j -> ∀ a b, ps[i]? = some a -> ps[j]? = some b -> g (endAt rows b) = true -> g (endAt rows a) = true := fun i j hij a b ha hb q => by
 have hj := (List.getElem?_eq_some_iff.mp hb).1;have := h i j hij hj;rw [List.getD_eq_getElem?_getD, List.getD_eq_getElem?_getD, ha, hb] at this;exact this q
theorem DH (rows : HQ) (ws : Ie) (p : Ij) : mn rows ws p = (aP .le (ae ((endAt rows p).take ws.length)) (ae ws) && !slt (endAt rows p) ws) := by
 rw [zC];unfold mn
 cases q : decide ((endAt rows p).take ws.length = ws) with
 | true => rw [eS ws _ (of_decide_eq_true q)]; rfl
 | false => cases slt (endAt rows p) ws <;> rfl
theorem yC (rows : HQ) (ws : Ie) : ((ab rows).drop (cS rows (ab rows) ws)).take (manyN rows (ab rows) ws) = (ab rows).filter (mn rows ws) := by
 have f1 := gA (fun p => slt (endAt rows p) ws) (ab rows) (se rows ws).of;have f2 := gA (fun p => aP .le (ae ((endAt rows p).take ws.length)) (ae ws)) (ab rows) (rH rows ws).of;rw [uA] at f2;have e : (ab rows).filter (mn rows ws) = ((ab rows).filter fun p => aP .le (ae ((endAt rows p).take ws.length)) (ae ws)).filter fun p => !slt (endAt rows p) ws := by
  rw [List.filter_filter];congr 1;funext p;rw [DH, Bool.and_comm]
 rw [e, f2.1, List.take_add, filter_append];have a1 : ((ab rows).take (cS rows (ab rows) ws)).filter (fun p => !slt (endAt rows p) ws) = [] := by
  have : (ab rows).take (cS rows (ab rows) ws) = (ab rows).filter fun p => slt (endAt rows p) ws := f1.1.symm;rw [this, List.filter_filter];exact List.filter_eq_nil_iff.mpr fun p _ => by simp
 have a2 : (((ab rows).drop (cS rows (ab rows) ws)).take (manyN rows (ab rows) ws)).filter (fun p => !slt (endAt rows p) ws) = ((ab rows).drop (cS rows (ab rows) ws)).take (manyN rows (ab rows) ws) := by
  refine List.filter_eq_self.mpr fun p hp => ?_;have : (ab rows).drop (cS rows (ab rows) ws) = (ab rows).filter fun p => !slt (endAt rows p) ws := f1.2.symm;rw [this] at hp;exact (mem_filter.mp (List.mem_of_mem_take hp)).2
 rw [a1, a2, List.nil_append]
def aL (rows : HQ) (ws : Ie) : List Ij := (bx rows).filter (mn rows ws)
def FH (p q : Ij) : Prop := p.1 < q.1 \/ p.1 = q.1 /\ p.2 < q.2
theorem A7 (rows : HQ) : (bx rows).Pairwise FH := by
 unfold bx cz;rw [List.pairwise_flatMap];refine ⟨fun r _ => ?_, List.pairwise_lt_range.imp fun {a b} h p hp q hq => ?_⟩
 . rw [List.pairwise_map];exact List.pairwise_lt_range.imp fun {a b} h => .inr ⟨rfl, h⟩
 . obtain ⟨_, _, rfl⟩ := mem_map.mp hp;obtain ⟨_, _, rfl⟩ := mem_map.mp hq;exact .inl h
theorem xB {p q : Ij} (h : FH p q) : aP .lt (bK p) (bK q) = true := by
 unfold bK;rw [aP, bC];rcases h with h | ⟨h, h2⟩
 . have ne : ¬ ((p.1 : Int) = (q.1 : Int)) := by omega
   simp [aJ, ne, aP, Od.int];omega
 . have ne : ¬ ((p.2 : Int) = (q.2 : Int)) := by omega
   simp [aJ, h, bC, aP, Od.int, ne];omega
theorem zL {rows : HQ} {ws : Ie} {ps : HS} (h : ps.Perm (aL rows ws)) : g6 id (ps.map bK) = (aL rows ws).map bK := by
 refine (g8 iT (f := id) (fun d hd => ?_) (fun _ _ _ _ e => e) (h.symm.map bK) ?_).symm
 . obtain ⟨p, _, rfl⟩ := mem_map.mp hd;exact ⟨p, rfl⟩
 . rw [List.pairwise_map];refine ((A7 rows).sublist List.filter_sublist).imp fun {a b} h => ?_;have := xB h
   cases q : aP .lt (bK b) (bK a) with
   | false => exact q
   | true =>
    have z := iT.tr _ _ _ ⟨a, rfl⟩ ⟨b, rfl⟩ ⟨a, rfl⟩ this q;rw [iT.ir _ ⟨a, rfl⟩] at z; cases z
theorem sG (rows : HQ) (ws : Ie) : (((ab rows).drop (cS rows (ab rows) ws)).take (manyN rows (ab rows) ws)).Perm (aL rows ws) := by
 rw [yC];exact (eX rows).filter _
theorem BN (rows : HQ) (ws : Ie) : cut ((ab rows).map bK) (some ((cS rows (ab rows) ws : Nat) : Int)) (some ((cS rows (ab rows) ws + manyN rows (ab rows) ws : Nat) : Int)) = (((ab rows).drop (cS rows (ab rows) ws)).take (manyN rows (ab rows) ws)).map bK := by
 rw [iJ, List.map_take, List.map_drop];congr 1;omega
def bA (rows : HQ) : List Ie := (((ab rows).zip (kN rows (ab rows))).filter fun q => decide (0 < q.2)).map fun q => (endAt rows q.1).take q.2
def bI (rows : HQ) : List Ie := (bL (bA rows)).mergeSort fun x y => !aP .lt (tupS y) (tupS x)
theorem rW (rows : HQ) : Gf (bA rows) = (bI rows).map tupS := by
 unfold Gf bI g6;exact (List.map_mergeSort (f := tupS) (r := fun x y => !aP .lt (tupS y) (tupS x)) (s := fun x y => !aP .lt (id y) (id x)) fun a _ b _ => rfl).symm
theorem cu {rows : HQ} {t : Ie} : t ∈ bI rows ↔ t ∈ bA rows := (List.mergeSort_perm _ _).mem_iff.trans fL
theorem i7 (rows : HQ) : (bI rows).Nodup := (List.mergeSort_perm _ _).nodup_iff.mpr (sF _)
theorem mG (rows : HQ) : (bA rows).length <= h9 rows := by
 unfold bA;rw [length_map];have := length_filter_le (fun q : Ij × Nat => decide (0 < q.2)) ((ab rows).zip (kN rows (ab rows)));rw [List.length_zip, fX] at this;omega
theorem mH (rows : HQ) : (bI rows).length <= h9 rows := by
 have := fW (bA rows);have := mG rows;unfold bI;rw [List.length_mergeSort];omega
theorem fB {rows : HQ} : ∀ t ∈ bA rows, t ≠ [] := fun t ht => by
 obtain ⟨q, hq, rfl⟩ := mem_map.mp ht;obtain ⟨hz, h0⟩ := mem_filter.mp hq;have h0 : 0 < q.2 := by simpa using h0
 obtain ⟨p, hp, hpl⟩ : ∃ p, p ∈ bx rows /\ p = q.1 := ⟨q.1, ez.mp (List.of_mem_zip hz).1, rfl⟩
 have := (cb hp).2;intro z;have l := congrArg List.length z;rw [length_take] at l;unfold endAt at l;rw [length_drop, List.length_nil] at l;subst hpl;omega
theorem zO (rows : HQ) : (bI rows).Pairwise fun x y => aP .lt (tupS x) (tupS y) = true := by
 have hP : ∀ d ∈ (bL (bA rows)).map tupS, tQ (id d) := fun d hd => by
  obtain ⟨x, hx, rfl⟩ := mem_map.mp hd;exact ⟨x, fB x (fL.mp hx), rfl⟩
 have h := xZ (f := id) iW hP;have e : g6 id ((bL (bA rows)).map tupS) = (bI rows).map tupS := rW rows;rw [e, List.pairwise_map] at h;refine (h.and (List.nodup_iff_pairwise_ne.mp (i7 rows))).imp_of_mem fun {x y} hx hy h => ?_;have ne : ∀ z ∈ bI rows, tQ (tupS z) := fun z hz => ⟨z, fB z (cu.mp hz), rfl⟩
 cases q : aP .lt (tupS x) (tupS y) with
 | true => rfl
 | false => exact absurd (rC (iW.tt _ _ (ne x hx) (ne y hy) q h.1)) h.2
inductive Node (H : Hp) : V -> List (Bool × Int) -> V -> Prop
 | here (v : V) : Node H v [] v
 | lst {a : Addr} {xs : List V} {j : Int} {w u : V} {p : List (Bool × Int)} (h : H a = some (.lst xs)) (e : gS xs j = some w) (n : Node H w p u) : Node H (.ref a) ((true, j) :: p) u
 | tup {a : Addr} {xs : List V} {j : Int} {w u : V} {p : List (Bool × Int)} (h : H a = some (.tup xs)) (e : gS xs j = some w) (n : Node H w p u) : Node H (.ref a) ((false, j) :: p) u
inductive CO (e : D) (n : Nat) : List (Bool × Int) -> D -> D -> Prop
 | here {ds : List D} (h : ds.length = n) : CO e n [] (.lst ds) (.lst (ds ++ [e]))
 | lst {ds : List D} {j : Int} {k : Nat} {d d' : D} {p : List (Bool × Int)} (hk : Al ds.length j = some k) (hd : ds[k]? = some d) (u : CO e n p d d') : CO e n ((true, j) :: p) (.lst ds) (.lst (ds.set k d'))
 | tup {ds : List D} {j : Int} {k : Nat} {d d' : D} {p : List (Bool × Int)} (hk : Al ds.length j = some k) (hd : ds[k]? = some d) (u : CO e n p d d') : CO e n ((false, j) :: p) (.tup ds) (.tup (ds.set k d'))
section
variable {K : Frag} {H H' : Hp}
theorem dg.length : ∀ {ds : List D} {vs : List V} {as : List Addr}, dg K H ds vs as -> ds.length = vs.length
 | [], _, _, h => by rw [(di.mp h).1]; rfl
 | d :: ds, _, _, h => by
  obtain ⟨v, r, bs, cs, rfl, _, _, j⟩ := bj.mp h;rw [length_cons, length_cons, dg.length j]
theorem dg.one {d : D} {v : V} {as : List Addr} (h : Tr K H d v as) : dg K H [d] [v] as := bj.mpr ⟨v, [], as, [], rfl, by simp, h, di.mpr ⟨rfl, rfl⟩⟩
theorem dg.append : ∀ {ds es : List D} {vs ws : List V} {as bs : List Addr}, dg K H ds vs as -> dg K H es ws bs -> dg K H (ds ++ es) (vs ++ ws) (as ++ bs)
 | [], _, _, _, _, _, h, k => by obtain ⟨rfl, rfl⟩ := di.mp h; exact k
 | d :: ds, _, _, _, _, _, h, k => by
  obtain ⟨v, r, bs, cs, rfl, rfl, a, j⟩ := bj.mp h;exact bj.mpr ⟨v, r ++ _, bs, cs ++ _, rfl, by rw [List.append_assoc], a, dg.append j k⟩
theorem dg.at : ∀ {ds : List D} {vs : List V} {as : List Addr} {k : Nat} {d : D}, dg K H ds vs as -> ds[k]? = some d ->
 ∃ w b1 b2 b3, vs[k]? = some w /\ as = b1 ++ (b2 ++ b3) /\ Tr K H d w b2 /\ ∀ (H2 : Hp) (d' : D) (b2' : List Addr), (∀ a (xs : List V), H a = some (.tup xs) -> H2 a = some (.tup xs)) -> (∀ a (xs : List V), a ∈ b1 ++ b3 -> H a = some (.lst xs) -> H2 a = some (.lst xs)) -> Tr K H2 d' w b2' -> dg K H2 (ds.set k d') vs (b1 ++ (b2' ++ b3))
 | [], _, _, _, _, _, e => by simp at e
 | d :: ds, _, _, 0, d0, h, e => by
  obtain ⟨v, r, bs, cs, rfl, rfl, a, j⟩ := bj.mp h;simp at e;subst e;exact ⟨v, [], bs, cs, rfl, rfl, a, fun H2 d' b2' t k h' => bj.mpr ⟨v, r, b2', cs, rfl, rfl, h', j.carry t fun b xs hb => k b xs (by simpa using hb)⟩⟩
 | d :: ds, _, _, k + 1, d0, h, e => by
  obtain ⟨v, r, bs, cs, rfl, rfl, a, j⟩ := bj.mp h;obtain ⟨w, b1, b2, b3, e1, rfl, i, f⟩ := dg.at (k := k) (d := d0) j (by simpa using e);refine ⟨w, bs ++ b1, b2, b3, by simpa using e1, by rw [List.append_assoc], i, fun H2 d' b2' t kk h' => bj.mpr ⟨v, r, bs, b1 ++ (b2' ++ b3), rfl, by rw [List.append_assoc], a.carry t fun b xs hb => kk b xs (by simp [hb]), f H2 d' b2' t (fun b xs hb => kk b xs ?_) h'⟩⟩;rcases mem_append.mp hb with hb | hb <;> simp [hb]
theorem xH {α : Type} {xs : List α} {j : Int} {k : Nat} {x : α} (h : Al xs.length j = some k) (e : xs[k]? = some x) : gS xs j = some x := by
 unfold gS; rw [h]; exact e
theorem Tr.app {e : D} {n : Nat} {p : List (Bool × Int)} {d d' : D} (u : CO e n p d d') : ∀ {v : V} {as : List Addr}, Tr K H d v as -> as.Nodup ->
 ∃ a xs, Node H v p (.ref a) /\ a ∈ as /\ H a = some (.lst xs) /\ xs.length = n /\ ∀ (H2 : Hp) (w : V) (bs : List Addr), (∀ a (xs : List V), H a = some (.tup xs) -> H2 a = some (.tup xs)) -> (∀ b (ys : List V), b ∈ as -> b ≠ a -> H b = some (.lst ys) -> H2 b = some (.lst ys)) -> H2 a = some (.lst (xs ++ [w])) -> Tr K H2 e w bs ->
  ∃ as', Tr K H2 d' v as' /\ as'.Perm (as ++ bs) := by
 induction u with
 | here hn =>
  intro v as h nd;obtain ⟨a, xs, bs, rfl, rfl, ha, i⟩ := ed.mp h;refine ⟨a, xs, .here _, mem_cons_self, ha, by rw [<- i.length]; exact hn, fun H2 w cs t k h2 hw => ?_⟩;have na := (nodup_cons.mp nd).1;exact ⟨a :: (bs ++ cs), ed.mpr ⟨a, xs ++ [w], bs ++ cs, rfl, rfl, h2, (i.carry t fun b ys hb => k b ys (mem_cons_of_mem _ hb) fun z => na (z ▸ hb)).append (dg.one hw)⟩, List.Perm.refl _⟩
 | lst hk hd u ih =>
  intro v as h nd;obtain ⟨a0, xs, bs, rfl, rfl, ha, i⟩ := ed.mp h;obtain ⟨w0, b1, b2, b3, e1, rfl, i2, f⟩ := i.at hd;obtain ⟨n0, nd1⟩ := nodup_cons.mp nd;have nd2 : b2.Nodup := nd1.sublist ((List.sublist_append_left b2 b3).trans (List.sublist_append_right b1 _));obtain ⟨a, ys, q1, q2, q3, q4, q5⟩ := ih i2 nd2;have a0n : a ≠ a0 := fun z => n0 (by rw [<- z]; simp [q2]);have out13 : ∀ b, b ∈ b1 ++ b3 -> b ≠ a := fun b hb z => by
   subst z;rw [List.nodup_append] at nd1;obtain ⟨_, nd3, dj⟩ := nd1;rcases mem_append.mp hb with hb | hb
   . exact dj b hb b (by simp [q2]) rfl
   . rw [List.nodup_append] at nd3;exact nd3.2.2 b q2 b hb rfl
  refine ⟨a, ys, .lst ha (xH (by rw [<- i.length]; exact hk) e1) q1, by simp [q2], q3, q4, fun H2 w cs t k h2 hw => ?_⟩;obtain ⟨as', z1, z2⟩ := q5 H2 w cs t (fun b zs hb hn => k b zs (by simp [hb]) hn) h2 hw;refine ⟨a0 :: (b1 ++ (as' ++ b3)), ed.mpr ⟨a0, xs, _, rfl, rfl, k a0 xs mem_cons_self (Ne.symm a0n) ha, f H2 _ as' t (fun b zs hb => k b zs ?_ (out13 b hb)) z1⟩, ?_⟩
  . rcases mem_append.mp hb with hb | hb <;> simp [hb]
  . rw [cons_append];refine List.Perm.cons _ ?_;rw [List.append_assoc];refine List.Perm.append_left _ ?_;rw [List.append_assoc];exact (z2.append_right b3).trans (by rw [List.append_assoc]; exact List.Perm.append_left _ List.perm_append_comm)
 | tup hk hd u ih =>
  intro v as h nd;obtain ⟨a0, xs, rfl, ha, i⟩ := fo.mp h;obtain ⟨w0, b1, b2, b3, e1, rfl, i2, f⟩ := i.at hd;have nd2 : b2.Nodup := nd.sublist ((List.sublist_append_left b2 b3).trans (List.sublist_append_right b1 _));obtain ⟨a, ys, q1, q2, q3, q4, q5⟩ := ih i2 nd2;have out13 : ∀ b, b ∈ b1 ++ b3 -> b ≠ a := fun b hb z => by
   subst z;rw [List.nodup_append] at nd;obtain ⟨_, nd3, dj⟩ := nd;rcases mem_append.mp hb with hb | hb
   . exact dj b hb b (by simp [q2]) rfl
   . rw [List.nodup_append] at nd3;exact nd3.2.2 b q2 b hb rfl
  refine ⟨a, ys, .tup ha (xH (by rw [<- i.length]; exact hk) e1) q1, by simp [q2], q3, q4, fun H2 w cs t k h2 hw => ?_⟩;obtain ⟨as', z1, z2⟩ := q5 H2 w cs t (fun b zs hb hn => k b zs (by simp [hb]) hn) h2 hw;refine ⟨b1 ++ (as' ++ b3), fo.mpr ⟨a0, xs, rfl, t a0 xs ha, f H2 _ as' t (fun b zs hb => k b zs ?_ (out13 b hb)) z1⟩, ?_⟩
  . rcases mem_append.mp hb with hb | hb <;> simp [hb]
  . rw [List.append_assoc];refine List.Perm.append_left _ ?_;rw [List.append_assoc];exact (z2.append_right b3).trans (by rw [List.append_assoc]; exact List.Perm.append_left _ List.perm_append_comm)
end
def HB (K : Frag) (ρ : List (Option D)) (d : D) : TE := fun σ H Q => ∃ Z : aA, Z.Open H /\ bM K H Z σ ρ /\ ∀ v H' as, aq H H' -> Tr K H' d v as -> as.Nodup -> (∀ a ∈ as, H a = none) -> Q v H'
def ET (X : Cx) (ρ : List (Option D)) (e : Expr) (d : D) : Prop := PE X e (HB X.K ρ d)
def Gm (K : Frag) (ρ : List (Option D)) (ds : List D) : TA := fun σ H Q => ∃ Z : aA, Z.Open H /\ bM K H Z σ ρ /\ ∀ vs H' as, aq H H' -> dg K H' ds vs as -> as.Nodup -> (∀ a ∈ as, H a = none) -> Q vs H'
def Ht (X : Cx) (ρ : List (Option D)) (es : List Expr) (ds : List D) : Prop := PA X es (Gm X.K ρ ds)
section
variable {X : Cx} {ρ : List (Option D)} {m : Bool} {e : Expr} {es : List Expr} {d : D} {ds : List D} {pos : Pos}
theorem Dq (he : E X true ρ e (.lst ds)) (fl : aV ds = true) : ET X ρ e (.lst ds) := PE.mono he fun σ H Q z0 => aO z0 fun Z oz en k => ⟨Z, oz, en, fun v H' s i => by
 obtain ⟨a, xs, rfl, at', j⟩ := ar.mp i;obtain ⟨e1, e2⟩ : H' a = some (.lst xs) /\ H a = none := by
  rcases at' with z | z
  . exact z
  . exact absurd z.1 (by simp [out, nw])
 exact k _ H' [a] s (ed.mpr ⟨a, xs, [], rfl, rfl, e1, dg.fN fl j⟩) kC fun b hb => by
  have : b = a := by simpa using hb
  rw [this]; exact e2⟩
theorem BG : Ht X ρ [] [] := PA.mono bh fun σ H Q z0 => aO z0 fun Z oz en k => k [] H [] (aq.refl H) (di.mpr ⟨rfl, rfl⟩) List.nodup_nil fun a ha => (by cases ha)
theorem DX (h : Ht X ρ es ds) (hz : ds.length <= 1000 := by exact of_decide_eq_true rfl) : ET X ρ (.List es pos) (.lst ds) :=
 PE.mono (tM h) fun σ H Q z0 => aO z0 fun Z oz en k => ⟨Z, oz, en, fun vs H1 as s1 t1 n1 w1 => ⟨by rw [<- t1.length]; exact d8 hz, fun p hp => by
  have s2 : aq H1 (upd H1 p (.lst vs)) := az hp;refine k _ _ (p :: as) (s1.trans s2) (ed.mpr ⟨p, vs, as, rfl, rfl, ax, t1.carry (fun a xs h => s2.at h) fun a xs _ h => s2.at h⟩) (nodup_cons.mpr ⟨fun z => ?_, n1⟩) fun a ha => ?_
  . obtain ⟨xs, q⟩ := t1.rF p z;rw [hp] at q; cases q
  . rcases mem_cons.mp ha with rfl | ha
    . exact s1.free hp
    . exact w1 a ha⟩⟩
end
def tN (K : Frag) (i : Nat) (ρ : List (Option D)) (p : List (Bool × Int)) : TE := fun σ H Q => ∃ (v u : V) (Z : aA), σ[i]? = some (some v) /\ Node H v p u /\ Z.Open H /\ bM K H Z σ ρ /\ ∀ H', aq H H' -> Q u H'
def EN (X : Cx) (i : Nat) (ρ : List (Option D)) (p : List (Bool × Int)) (o : Expr) : Prop := PE X o (tN X.K i ρ p)
section
variable {X : Cx} {ρ : List (Option D)} {m : Bool} {o ix : Expr} {pos : Pos} {i : Nat} {p : List (Bool × Int)} {j : Int} {x : Str}
theorem BH (hN : X.N[i]? = some x := by rfl) (hv : zw X.env.scope x := by first | exact Or.inl rfl | exact Or.inr (Or.inl rfl) | exact Or.inr (Or.inr rfl)) (hd : (x == ("__debug__" : Str)) = false := by decide) (hcd : (x == ("__classdict__" : Str)) = false := by decide) : EN X i ρ [] (.Name x pos) :=
 PE.mono (fv hN hv hd hcd) fun σ H Q ⟨v, u, Z, e, n, oz, en, k⟩ => by cases n; exact ⟨v, e, k H (aq.refl H)⟩
end
section
variable {X : Cx} {F : Fn} {ρ : cR} {Q : jv} {rest : List Stmt} {e o : Expr} {d d' e' : D} {pos p : Pos}
def kH (mk : D -> Slot) (c : V -> Prop) : Prop := ∀ (K : Frag) (F : Fn) (H : Hp) (O : Addr -> Prop) (mine : List Addr) (v : V) (d : D), cX K F H O mine v (mk d) ↔ c v /\ Tr K H d v mine
theorem u6 : kH Slot.tr (fun _ => True) := fun K F H O mine v d => ⟨fun h => ⟨trivial, h⟩, fun h => h.2⟩
theorem aZ.Hg {K : Frag} {H : Hp} {σ hv : St} {hρ : cR} {A : Nat -> List Addr} {i : Nat} {mk : D -> Slot} {c : V -> Prop} (S : aZ K F H (σ ++ hv) (ρ ++ hρ) A) (hm : kH mk c) (hl : σ.length = ρ.length) (h : ρ[i]? = some (some (mk d))) : ∃ v, σ[i]? = some (some v) /\ c v /\ Tr K H d v (A i) := by
 have il : i < ρ.length := (List.getElem?_eq_some_iff.mp h).1;obtain ⟨v, e1, e2⟩ := S.at' i (mk d) (by rw [getElem?_append_left il]; exact h);rw [getElem?_append_left (by omega)] at e1;exact ⟨v, e1, (hm _ _ _ _ _ _ _).mp e2⟩
theorem aZ.tr {K : Frag} {H : Hp} {σ hv : St} {hρ : cR} {A : Nat -> List Addr} {i : Nat} (S : aZ K F H (σ ++ hv) (ρ ++ hρ) A) (hl : σ.length = ρ.length) (h : ρ[i]? = some (some (.tr d))) : ∃ v, σ[i]? = some (some v) /\ Tr K H d v (A i) :=
 let ⟨v, a, _, b⟩ := S.Hg u6 hl h
 ⟨v, a, b⟩
theorem vq (i : Nat) {x : Str} {d : D} (he : ET X (view true false ρ) e d) (hr : SD X F rest (ρ.set i (some (.tr d))) Q) (hN : X.N.Nodup) (hi : X.N[i]? = some x := by rfl)
 (hx : Loc X.env.scope x := by first | exact Or.inl rfl | exact Or.inr rfl) (hρ : i < ρ.length := by exact of_decide_eq_true rfl) (hs : swapsWith e (some (.Name x p)) pos.line X.env = pure false := by rfl) (hf : X.fn x = true \/ X.env.scope.names.lookup x = some .local := by first | exact .inl rfl | exact .inr rfl) :
 SD X F (.Assign [.Name x p] e pos :: rest) ρ Q :=
 cH (PS.mono (lJ hN hi hx he hs hf) fun Q' σ H z0 => fc z0 fun hv hρ' A hl S f => ⟨_, aU S true false, S.env hl true false, fun v H1 as s1 t1 n1 w1 => by
  refine f.nx _ H1 ⟨_, bD A i as, by simp [hl], ?_, rfl⟩;rw [<- bG (by omega), <- bG hρ];exact S.put (by rw [List.length_append]; omega) (by rw [List.length_append]; omega) s1 n1 (fun a ha => ⟨w1 a ha, let ⟨xs, q⟩ := t1.rF a ha; ⟨.l xs, q⟩⟩) t1⟩) hr
theorem BW (i : Nat) {x : Str} (h : ρ[i]? = some (some (.tr d))) (hq : Q.rtT d) (hN : X.N[i]? = some x := by rfl) (hv : zw X.env.scope x := by first | exact Or.inl rfl | exact Or.inr (Or.inl rfl) | exact Or.inr (Or.inr rfl))
 (hd : (x == ("__debug__" : Str)) = false := by decide) (hcd : (x == ("__classdict__" : Str)) = false := by decide) : SD X F (.Return (some (.Name x p)) pos :: rest) ρ Q :=
 gN (N := fun _ => False) (PS.mono (zd (fv hN hv hd hcd)) fun Q' σ H z0 => fc z0 fun hv hρ A hl S f => by
  obtain ⟨v, e1, tv⟩ := S.tr hl h;exact ⟨v, e1, f.rtT v d H (A i) S.same tv (S.nd i) (S.new i) hq⟩) fun _ n => n.elim
end
def spT (K : Frag) (G : List D -> D -> Prop) : Sp := fun vs H Q _ => ∃ (Z : aA) (ds : List D) (d : D), Z.Open H /\ aH K H Z ds vs /\ G ds d /\ ∀ v H' as, aq H H' -> Tr K H' d v as -> as.Nodup -> (∀ a ∈ as, H a = none) -> Q v H'
structure yf (P : Program) (w : World) (K : Frag) (mg : HV) (base : Heap) (k : Nat) (x : Str) (G : List D -> D -> Prop) : Prop where
 ex : ∃ f fd ps, eB P w K mg base lP k f fd ps (spT K G) /\ mg x = some (.ref f) /\ keepIn K (.ref f) = true /\ Binds K fd ps []
section
variable {P : Program} {w : World} {K : Frag} {mg : HV} {base : Heap}
theorem A8 {x qual : Str} {st : Stmt} {f : Addr} {fd : FuncData} {N ps : Ie} {k : Nat} {G : List D -> D -> Prop} (Fx : gr K x qual st f fd) (S : aE N ps (ah st)) (hmg : mg x = some (.ref f)) (hb : Binds K fd ps [])
 (hlen : ∀ ds d, G ds d -> ds.length = ps.length)
 (body : ∀ (cdv : Value) (A : Around) (outer : List Env) (s : Shared) (H : Hp) (E : XK) (Z : aA) (ds : List D) (d : D), bt k (A.deeper (envOfC qual (ah st) s.heap.objs.size f cdv)) -> G ds d ->
  SD (kl lP P w K mg base N qual (ah st) f cdv A outer s H E).Am ⟨true, Z, H⟩ (bb st) (cF N ds) { nx := fun _ => False, rt := fun _ => False, rtT := fun d' => d' = d }) : yf P w K mg base (k + 1) x G := by
 refine ⟨f, fd, ps, Fx.ok S (fun vs H Q E ⟨Z, ds, d, oz, i, g, kk⟩ => ?_) (fun cdv A outer s H vs Q E hr ⟨Z, ds, d, oz, i, g, kk⟩ => ?_), hmg, Fx.kp, hb⟩
 . rw [<- i.length]; exact hlen ds d g
 . refine ⟨_, body cdv A outer s H E Z ds d hr g, [], [], fun _ => [], ?_, iH oz i, ⟨rfl, fun σ H' ⟨_, _, _, _, e⟩ => e.elim, fun σ H' ⟨_, _, _, _, e⟩ => e.elim, fun σ H' ⟨_, _, _, _, e⟩ => e.elim, fun _ _ _ _ _ e => e.elim, fun v d' H' as s' t n w e => ?_, fun _ _ _ _ _ _ _ _ _ _ _ _ _ e => e.elim⟩⟩
   . have := i.length;simp [L2.start, cF]; omega
   . subst e;exact kk v H' as s' t n w
theorem yf.GI {k : Nat} {x : Str} {G : List D -> D -> Prop} (h : yf P w K mg base k x G) : Def P w K mg base k x true G := by
 obtain ⟨f, fd, ps, a, b, c, d⟩ := h.ex;exact ⟨f, fd, ps, a.imp fun vs H Q E ⟨Z, ds, d, oz, i, g, kk⟩ => ⟨Z, ds, d, oz, i, g, fun v H' as s t n w => kk v H' s (t.wd w)⟩, b, c, d⟩
end
section
variable {K : Frag} {F : Fn} {H : Hp} {vs : St} {ρ : cR} {A : Nat -> List Addr}
theorem aZ.uO {i j : Nat} {v w : V} {si sj : Option Slot} {l1 l2 : List Addr} (hij : i ≠ j) (S : aZ K F H vs ρ A) (hi : i < ρ.length) (hiv : i < vs.length) (hj : j < ρ.length) (hjv : j < vs.length) (nd1 : l1.Nodup) (nd2 : l2.Nodup) (dj : ∀ a ∈ l1, a ∉ l2)
 (eq : ∀ a, (a ∈ l1 \/ a ∈ l2) ↔ (a ∈ A i \/ a ∈ A j)) (h1 : ∀ sl, si = some sl -> cX K F H (bc A) l1 v sl) (h2 : ∀ sl, sj = some sl -> cX K F H (bc A) l2 w sl) :
 aZ K F H ((vs.set i (some v)).set j (some w)) ((ρ.set i si).set j sj) (bD (bD A i l1) j l2) := by
 have ai : bD (bD A i l1) j l2 i = l1 := by rw [bw hij, aR]
 have aj : bD (bD A i l1) j l2 j = l2 := aR;have ak : ∀ {k : Nat}, k ≠ i -> k ≠ j -> bD (bD A i l1) j l2 k = A k := fun {k} q1 q2 => by rw [bw q2, bw q1]
 have two : ∀ {k : Nat} {a : Addr}, (k = i \/ k = j) -> a ∈ bD (bD A i l1) j l2 k -> a ∈ A i \/ a ∈ A j := fun {k a} hk ha => by
  rcases hk with rfl | rfl
  . rw [ai] at ha; exact (eq a).mp (.inl ha)
  . rw [aj] at ha; exact (eq a).mp (.inr ha)
 have own : bc (bD (bD A i l1) j l2) = bc A := by
  funext a;refine propext ⟨fun ⟨k, hk⟩ => ?_, fun ⟨k, hk⟩ => ?_⟩
  . by_cases q : k = i \/ k = j
    . rcases two q hk with z | z
      . exact ⟨i, z⟩
      . exact ⟨j, z⟩
    . rw [ak (fun z => q (.inl z)) fun z => q (.inr z)] at hk;exact ⟨k, hk⟩
  . by_cases q : k = i \/ k = j
    . have z : a ∈ A i \/ a ∈ A j := by
       rcases q with rfl | rfl
       . exact .inl hk
       . exact .inr hk
      rcases (eq a).mpr z with z | z
      . exact ⟨i, by rw [ai]; exact z⟩
      . exact ⟨j, by rw [aj]; exact z⟩
    . exact ⟨k, by rw [ak (fun z => q (.inl z)) fun z => q (.inr z)]; exact hk⟩
 have apart : ∀ {k : Nat} {a : Addr}, k ≠ i -> k ≠ j -> a ∈ A k -> ¬ (a ∈ A i \/ a ∈ A j) := fun {k a} q1 q2 ha z => by
  rcases z with z | z
  . exact q1 (S.one k i a ha z)
  . exact q2 (S.one k j a ha z)
 refine ⟨S.same, S.opn, fun k => ?_, fun k k' a hk hk' => ?_, fun k a ha => ?_, fun k a ha => ?_, fun k sl e => ?_⟩
 . by_cases q1 : k = i
   . rw [q1, ai]; exact nd1
   . by_cases q2 : k = j
     . rw [q2, aj]; exact nd2
     . rw [ak q1 q2]; exact S.nd k
 . by_cases q : k = i \/ k = j
   . by_cases q' : k' = i \/ k' = j
     . rcases q with rfl | rfl <;> rcases q' with rfl | rfl
       . rfl
       . rw [ai] at hk; rw [aj] at hk'; exact absurd hk' (dj a hk)
       . rw [aj] at hk; rw [ai] at hk'; exact absurd hk (dj a hk')
       . rfl
     . have z := two q hk;rw [ak (fun z => q' (.inl z)) fun z => q' (.inr z)] at hk';exact absurd z (apart (fun z => q' (.inl z)) (fun z => q' (.inr z)) hk')
   . by_cases q' : k' = i \/ k' = j
     . have z := two q' hk';rw [ak (fun z => q (.inl z)) fun z => q (.inr z)] at hk;exact absurd z (apart (fun z => q (.inl z)) (fun z => q (.inr z)) hk)
     . rw [ak (fun z => q (.inl z)) fun z => q (.inr z)] at hk;rw [ak (fun z => q' (.inl z)) fun z => q' (.inr z)] at hk';exact S.one k k' a hk hk'
 . have : ∃ k', a ∈ A k' := by
    have z : bc (bD (bD A i l1) j l2) a := ⟨k, ha⟩
    rw [own] at z;exact z
   obtain ⟨k', z⟩ := this;exact S.new k' a z
 . have : ∃ k', a ∈ A k' := by
    have z : bc (bD (bD A i l1) j l2) a := ⟨k, ha⟩
    rw [own] at z;exact z
   obtain ⟨k', z⟩ := this;exact S.lst k' a z
 . rw [own];by_cases q2 : k = j
   . subst q2;rw [List.getElem?_set_self (by rw [List.length_set]; exact hj)] at e;exact ⟨w, by rw [List.getElem?_set_self (by rw [List.length_set]; exact hjv)], by rw [aj]; exact h2 sl (Option.some.inj e)⟩
   . rw [List.getElem?_set_ne (Ne.symm q2)] at e;by_cases q1 : k = i
     . subst q1;rw [List.getElem?_set_self hi] at e;exact ⟨v, by rw [List.getElem?_set_ne (Ne.symm q2), List.getElem?_set_self hiv], by rw [ai]; exact h1 sl (Option.some.inj e)⟩
     . rw [List.getElem?_set_ne (Ne.symm q1)] at e;obtain ⟨u, a, b⟩ := S.at' k sl e;exact ⟨u, by rw [List.getElem?_set_ne (Ne.symm q2), List.getElem?_set_ne (Ne.symm q1)]; exact a, by rw [ak q1 q2]; exact b⟩
theorem aZ.HK {i j : Nat} {v w : V} {si sj : Option Slot} {l1 l2 : List Addr} {H2 : Hp} (hij : i ≠ j) (S : aZ K F H vs ρ A) (hi : i < ρ.length) (hiv : i < vs.length) (hj : j < ρ.length) (hjv : j < vs.length) (sm : aq F.H H2)
 (k : ∀ b o, H b = some o -> AO o = false -> b ∉ A i -> b ∉ A j -> H2 b = some o) (nd1 : l1.Nodup) (nd2 : l2.Nodup) (dj : ∀ a ∈ l1, a ∉ l2) (hl : ∀ a, a ∈ l1 \/ a ∈ l2 -> (a ∈ A i \/ a ∈ A j \/ H a = none) /\ ∃ xs : MO, H2 a = some xs.ho)
 (h1 : ∀ sl O, si = some sl -> cX K F H2 O l1 v sl) (h2 : ∀ sl O, sj = some sl -> cX K F H2 O l2 w sl) : ∃ A', aZ K F H2 ((vs.set i (some v)).set j (some w)) ((ρ.set i si).set j sj) A' := by
 obtain ⟨vi, evi⟩ : ∃ x, vs[i]? = some x := ⟨_, List.getElem?_eq_getElem hiv⟩
 have nij : (A i ++ A j).Nodup := List.nodup_append.mpr ⟨S.nd i, S.nd j, fun a ha b hb z => hij (S.one i j a ha (z ▸ hb))⟩;have S1 := S.uO (v := v) (w := w) (si := none) (sj := none) (l1 := A i ++ A j) (l2 := []) hij hi hiv hj hjv nij List.nodup_nil (fun _ _ z => by cases z) (fun a => by simp) (fun _ z => by cases z) fun _ z => by cases z
 have n12 : (l1 ++ l2).Nodup := List.nodup_append.mpr ⟨nd1, nd2, fun a ha b hb z => dj a ha (z ▸ hb)⟩;have ai : bD (bD A i (A i ++ A j)) j [] i = A i ++ A j := by rw [bw hij, aR]
 have S2 := S1.re (i := i) (v := v) (sl := .rf v) (l := l1 ++ l2) (H2 := H2) (by simp [hi]) (by simp [hiv]) sm (fun b o e n hb => k b o e n (fun z => hb (by rw [ai]; simp [z])) fun z => hb (by rw [ai]; simp [z])) n12 (fun a ha => ?_) rfl
 . have S3 := S2.uO (i := i) (j := j) (v := v) (w := w) (si := si) (sj := sj) (l1 := l1) (l2 := l2) hij (by simp [hi]) (by simp [hiv]) (by simp [hj]) (by simp [hjv]) nd1 nd2 dj (fun a => ?_) (fun sl e => h1 sl _ e) fun sl e => h2 sl _ e
   . have e1 : ((((vs.set i (some v)).set j (some w)).set i (some v)).set i (some v)).set j (some w) = (vs.set i (some v)).set j (some w) := by
      rw [List.set_set, List.set_comm _ _ (Ne.symm hij), List.set_set, List.set_set]
     have e2 : ((((ρ.set i none).set j none).set i (some (Slot.rf v))).set i si).set j sj = (ρ.set i si).set j sj := by
      rw [List.set_set, List.set_comm _ _ (Ne.symm hij), List.set_set, List.set_set]
     rw [e1, e2] at S3;exact ⟨_, S3⟩
   . rw [aR, bw (Ne.symm hij), aR];simp
 . rcases hl a (mem_append.mp ha) with ⟨z, q⟩;refine ⟨?_, q⟩;rw [ai];rcases z with z | z | z
   . exact .inl (by simp [z])
   . exact .inl (by simp [z])
   . exact .inr z
end
def Hv (K : Frag) (j : Nat) (ρ : List (Option D)) (dj d : D) : TE := fun σ H Q => ∃ (Z : aA) (v : V) (as : List Addr), Z.Open H /\ bM K H Z σ ρ /\ σ[j]? = some (some v) /\ Tr K H dj v as /\ ∀ u H', aq H H' -> Tr K H' d u as -> Q u H'
def EM (X : Cx) (j : Nat) (ρ : List (Option D)) (dj : D) (e : Expr) (d : D) : Prop := PE X e (Hv X.K j ρ dj d)
theorem Tr.same {K : Frag} {H H' : Hp} {d : D} {v : V} {as : List Addr} (s : aq H H') (h : Tr K H d v as) : Tr K H' d v as := h.carry (fun a xs e => s.at e) fun a xs _ e => s.at e
section
variable {X : Cx} {ρ : List (Option D)} {m : Bool} {e e1 e2 : Expr} {pos : Pos} {j : Nat} {x : Str} {dj d d1 d2 : D}
theorem Cf (hN : X.N[j]? = some x := by rfl) (hv : zw X.env.scope x := by first | exact Or.inl rfl | exact Or.inr (Or.inl rfl) | exact Or.inr (Or.inr rfl)) (hd : (x == ("__debug__" : Str)) = false := by decide) (hcd : (x == ("__classdict__" : Str)) = false := by decide) : EM X j ρ dj (.Name x pos) dj :=
 PE.mono (fv hN hv hd hcd) fun σ H Q ⟨Z, v, as, oz, en, e, t, k⟩ => ⟨v, e, k v H (aq.refl H) t⟩
theorem Em {x1} (h1 : E X m ρ e1 d1) (fl : d1.flat = true) (h2 : EM X j ρ dj e2 d2) (hs : starEach [e1, e2] X.env = [(false, eval e1 X.env), (false, eval e2 X.env)] := by rfl) (hs2 : starEach [e2] X.env = [(false, eval e2 X.env)] := by rfl) : EM X j ρ dj (.Tuple [e1, e2] x1 pos) (.tup [d1, d2]) :=
 PE.mono (zi (aM h1 (aM h2 bh (by rw [hs2]; rfl)) (by rw [hs, hs2]))) fun σ H Q ⟨Z, v, as, oz, en, e, t, k⟩ => ⟨Z, oz, en, fun y H1 s1 i1 => ⟨Z, v, as, oz.same s1, en.same s1, e, t.same s1, fun u H2 s2 t2 => ⟨by show 2 <= sizeLine; decide, fun p hp => by
  have s3 : aq H2 (upd H2 p (.tup [y, u])) := az hp;refine k _ _ ((s1.trans s2).trans s3) (fo.mpr ⟨p, [y, u], rfl, ax, ?_⟩);exact bj.mpr ⟨y, [u], [], as, rfl, rfl, Tr.fN fl ((i1.same s2).same s3), dg.one (t2.same s3)⟩⟩⟩⟩
end
section
variable {X : Cx} {F : Fn} {ρ : cR} {Q : jv} {rest : List Stmt} {e o : Expr} {d d' e' dj : D} {pos p : Pos}
theorem sL (mk : D -> Slot) {cc : V -> Prop} (hm : kH mk cc) (i j : Nat) {n : Nat} {pt : List (Bool × Int)} {ap cp : Pos} (hij : i ≠ j) (h : ρ[i]? = some (some (mk d))) (hj : ρ[j]? = some (some (.tr dj))) (ho : EN X i (view true false ρ) pt o) (up : CO e' n pt d d') (hz : n < 100000) (he : EM X j (view true false ρ) dj e e') (hr : SD X F rest ((ρ.set i (some (mk d'))).set j none) Q)
 (hbase : attributeBase o "append" X.env (eval o X.env) = eval o X.env := by rfl) (hline : (ap.endLine == cp.line) = true := by rfl) (hs : starEach [e] X.env = [(false, eval e X.env)] := by rfl) (hsw : swapsWith (.Call (.Attribute o "append" ap) [e] [] cp) none pos.line X.env = pure false := by rfl) :
 SD X F (.Expr (.Call (.Attribute o "append" ap) [e] [] cp) pos :: rest) ρ Q := by
 refine cH (PS.mono (om (mO PySem.F.plainAttrs_list PySem.F.slot_list_append PySem.F.type_list_append iS ho (aM he bh (by rw [hs]; rfl)) hbase (by rw [hs]; rfl) hline (by rw [hs]; rfl) rfl) hsw) ?_) hr;rintro Q' σ H ⟨hv, hρ, A, hl, S, f⟩;obtain ⟨v, e1, cv, tv⟩ := S.Hg hm hl h;obtain ⟨w, e2, tw⟩ := S.tr hl hj;have hi : i < σ.length := (List.getElem?_eq_some_iff.mp e1).1;have hj' : j < σ.length := (List.getElem?_eq_some_iff.mp e2).1;obtain ⟨a, xs, q1, q2, q3, q4, q5⟩ := tv.app up (S.nd i);have na : a ∉ A j := fun z => hij (S.one i j a q2 z);refine ⟨v, .ref a, _, e1, q1, aU S true false, S.env hl true false, fun H1 s1 => ⟨.inl ⟨rfl, xs, dM.of (s1.at q3)⟩, _, w, A j, (aU S true false).same s1, (S.env hl true false).same s1, e2, tw.same s1, fun u H2 s2 t2 => ?_⟩⟩;have s12 := s1.trans s2;refine ⟨a, xs, u, rfl, rfl, s12.at q3, by rw [q4]; exact Nat.lt_of_lt_of_le hz (by decide), f.nx _ _ ?_⟩;have kk : ∀ b o, H b = some o -> AO o = false -> b ≠ a -> (upd H2 a (.lst (xs ++ [u]))) b = some o := fun b o e n hb => by rw [ag hb]; exact s12.get b o e n
 obtain ⟨as', t3, pm⟩ := q5 (upd H2 a (.lst (xs ++ [u]))) u (A j) (fun b ys q => kk b _ q rfl fun z => by rw [z, q3] at q; cases q) (fun b ys _ hn q => kk b _ q rfl hn) ax
  (t2.carry (fun b ys q => by rw [ag (show b ≠ a from fun z => by rw [z, s12.at q3] at q; cases q)]; exact q) fun b ys hb q => by rw [ag (show b ≠ a from fun z => na (z ▸ hb))]; exact q)
 have nd' : as'.Nodup := pm.nodup_iff.mpr (List.nodup_append.mpr ⟨S.nd i, S.nd j, fun b hb c hc z => hij (S.one i j b hb (z ▸ hc))⟩);have hx := S.HK (i := i) (j := j) (v := v) (w := w) (si := some (mk d')) (sj := none) (l1 := as') (l2 := []) (H2 := upd H2 a (.lst (xs ++ [u]))) hij (by rw [List.length_append]; omega) (by rw [List.length_append]; omega) (by rw [List.length_append]; omega) (by rw [List.length_append]; omega) ((S.same.trans s12).write (S.new i a q2) (s12.at q3))
  (fun b o e n hb _ => kk b o e n fun z => hb (z ▸ q2)) nd' List.nodup_nil (fun _ _ z => by cases z) (fun b hb => ?_) (fun sl O e => by cases e; exact (hm _ _ _ _ _ _ _).mpr ⟨cv, t3⟩) fun sl O e => by cases e
 . obtain ⟨A', key⟩ := hx;refine ⟨_, A', by simp [hl], ?_, rfl⟩;have z1 : (σ ++ hv).set i (some v) = σ ++ hv := fj (by rw [getElem?_append_left hi]; exact e1);have z2 : (σ ++ hv).set j (some w) = σ ++ hv := fj (by rw [getElem?_append_left hj']; exact e2);rw [z1, z2, bG (by omega), bG (by rw [List.length_set]; omega)] at key;exact key
 . have hb' : b ∈ as' := by simpa using hb
   refine ⟨?_, ?_⟩
   . rcases mem_append.mp (pm.mem_iff.mp hb') with z | z
     . exact .inl z
     . exact .inr (.inl z)
   . obtain ⟨ys, q⟩ := t3.rF b hb';exact ⟨.l ys, q⟩
theorem xn (i j : Nat) {n : Nat} {pt : List (Bool × Int)} {ap cp : Pos} (hij : i ≠ j) (h : ρ[i]? = some (some (.tr d))) (hj : ρ[j]? = some (some (.tr dj))) (ho : EN X i (view true false ρ) pt o) (up : CO e' n pt d d') (hz : n < 100000) (he : EM X j (view true false ρ) dj e e') (hr : SD X F rest ((ρ.set i (some (.tr d'))).set j none) Q)
 (hbase : attributeBase o "append" X.env (eval o X.env) = eval o X.env := by rfl) (hline : (ap.endLine == cp.line) = true := by rfl) (hs : starEach [e] X.env = [(false, eval e X.env)] := by rfl) (hsw : swapsWith (.Call (.Attribute o "append" ap) [e] [] cp) none pos.line X.env = pure false := by rfl) :
 SD X F (.Expr (.Call (.Attribute o "append" ap) [e] [] cp) pos :: rest) ρ Q :=
 sL .tr u6 i j hij h hj ho up hz he hr hbase hline hs hsw
end
mutual
def tP : Pt -> List Nat
 | .word w => cl w
 | .beg w => cl w ++ [42]
 | .fin w => 42 :: cl w
 | .any => [63]
 | .upto n => [46, 46, 48 + n]
 | .wd q => [40, 32] ++ zu [32, 124, 32] (Hl q) ++ [32, 41]
def Hh : List Pt -> List Ih
 | [] => []
 | p :: ps => tP p :: Hh ps
def Hl : List (List Pt) -> List Ih
 | [] => []
 | ps :: q => zu [32] (Hh ps) :: Hl q
end
def Gu (w : Str) : Prop := cl w ≠ [] /\ (∀ c ∈ cl w, gO c = true) /\ (cl w).length <= 40
mutual
def pW : Nat -> Pt -> Prop
 | _, .word w => Gu w
 | _, .beg w => Gu w
 | _, .fin w => Gu w
 | _, .any => True
 | _, .upto n => n < 10
 | k, .wd q => ∃ j, k = j + 1 /\ q ≠ [] /\ Hq j q
def Hm : Nat -> List Pt -> Prop
 | _, [] => True
 | k, p :: ps => pW k p /\ Hm k ps
def Hq : Nat -> List (List Pt) -> Prop
 | _, [] => True
 | k, ps :: q => (ps ≠ [] /\ Hm k ps) /\ Hq k q
end
def y9 (q : List (List Pt)) : List Pt := q.getLastD []
def EU (q : List (List Pt)) (p : Pt) : List (List Pt) := q.dropLast ++ [y9 q ++ [p]]
def DM (t : Ih) : Bool := !t.isEmpty && t.all gO
def E3 (t : Ih) : Option Pt :=
 if DM t then some (.word (FY t))
 else if t = [63] then some .any
 else if t.length = 3 /\ t.take 2 = [46, 46] /\ 48 <= t.getD 2 0 /\ t.getD 2 0 <= 57 then some (.upto (t.getD 2 0 - 48))
 else if t.getLast? = some 42 /\ DM t.dropLast = true then some (.beg (FY t.dropLast))
 else if t.head? = some 42 /\ DM (t.drop 1) = true then some (.fin (FY (t.drop 1)))
 else none
def Fc (st : List (List (List Pt))) (t : Ih) : List (List (List Pt)) :=
 if t = [40] then st ++ [[[]]]
 else if t = [124] then st.dropLast ++ [st.getLastD [] ++ [[]]]
 else if t = [41] then st.dropLast.dropLast ++ [EU (st.dropLast.getLastD []) (.wd (st.getLastD []))]
 else st.dropLast ++ [EU (st.getLastD []) ((E3 t).getD .any)]
def Hw (st : List (List (List Pt))) (t : Ih) : Prop :=
 (t = [40] /\ st.length <= 20) \/ (t = [124] /\ y9 (st.getLastD []) ≠ []) \/ (t = [41] /\ y9 (st.getLastD []) ≠ [] /\ 2 <= st.length) \/ (∃ p k, t = tP p /\ pW k p /\ ∀ q, p ≠ .wd q)
def Good : List (List (List Pt)) -> List Ih -> Prop
 | _, [] => True
 | st, t :: ts => Hw st t /\ Good (Fc st t) ts
def CY : List Str := ["..0", "..1", "..2", "..3", "..4", "..5", "..6", "..7", "..8", "..9"]
def pZ (rows : HQ) (p : Ij) : Str := if 0 < p.2 then (rows.getD p.1 []).getD (p.2 - 1) "" else ""
def FN (ds : List D) (d : D) : Prop := ∃ (rows : HQ) (p : Ij), p.1 < rows.length /\ p.2 < (rows.getD p.1 []).length /\ ds = [aQ rows, bK p] /\ d = .str (pZ rows p)
def jB (ws : Ie) : Bool := ws.all fun x => decide (x ≠ "") && decide (x = ws.getD 0 "")
theorem Bu {ws : Ie} (h : ws ≠ []) : jB ws = (decide (ws.getD 0 "" ≠ "") && decide (ws.countP (fun x => decide (x = ws.getD 0 "")) = ws.length)) := by
 rw [Bool.eq_iff_iff, Bool.and_eq_true, decide_eq_true_eq, decide_eq_true_eq, List.countP_eq_length];unfold jB;rw [List.all_eq_true];constructor
 . intro a;refine ⟨?_, fun x hx => ?_⟩
   . have := a (ws.getD 0 "") (getD_mem (List.length_pos_iff.mpr h));rw [Bool.and_eq_true, decide_eq_true_eq] at this;exact this.1
   . have := a x hx;rw [Bool.and_eq_true] at this;exact this.2
 . rintro ⟨a, b⟩ x hx;have e := of_decide_eq_true (b x hx);rw [Bool.and_eq_true, decide_eq_true_eq, decide_eq_true_eq];exact ⟨e ▸ a, e⟩
def rX (ds : List D) (d : D) : Prop := ∃ ws : List Str, ws ≠ [] /\ ws.length <= 900 /\ ds = [ae ws] /\ d = .bl (jB ws)
def sH (ds : List D) (d : D) : Prop := ∃ rows : List Ie, h9 rows < 64 /\ ds = [aQ rows, cT (ab rows)] /\ d = .lst ((bI rows).map tupS)
def fG (rows : HQ) (t : Ie) : Bool := !jB ((aL rows t).map (pZ rows))
def mX (rows : HQ) (n : Nat) : List Ie := ((bI rows).take n).filter (fG rows)
def aW (rows : HQ) : List Ie := (bI rows).filter (fG rows)
def EH (rows : HQ) (t : Ie) : D := .tup [tupS t, cT (aL rows t)]
def tY (ds : List D) (d : D) : Prop := ∃ rows : List Ie, h9 rows < 64 /\ rows.length <= 900 /\ ds = [aQ rows] /\ d = .lst ((aW rows).map (EH rows))
theorem gW (rows : HQ) (t : Ie) : (aL rows t).length <= h9 rows := by
 have := length_filter_le (mn rows t) (bx rows);rw [iG] at this;exact this
theorem eW {rows : HQ} {t : Ie} {p : Ij} : p ∈ aL rows t ↔ p ∈ bx rows /\ (endAt rows p).take t.length = t := by
 unfold aL mn;rw [mem_filter, decide_eq_true_eq]
theorem vC {rows : HQ} {t : Ie} (h : t ∈ bA rows) : ∃ p q, p ∈ bx rows /\ q ∈ bx rows /\ mh rows p q = true /\ 0 < comm (endAt rows p) (endAt rows q) /\ t = (endAt rows q).take (comm (endAt rows p) (endAt rows q)) := by
 obtain ⟨z, hz, rfl⟩ := mem_map.mp h;obtain ⟨hz, h0⟩ := mem_filter.mp hz;have h0 : 0 < z.2 := by simpa using h0
 obtain ⟨i, hi, e⟩ := List.mem_iff_getElem.mp hz;rw [List.length_zip, hE, Nat.min_self] at hi;have e1 : z.1 = (ab rows)[i] := by rw [<- e]; simp
 have hs : i < (kN rows (ab rows)).length := by rw [hE]; exact hi
 have e2 : z.2 = comm (iC rows ((ab rows).take i)) (endAt rows ((ab rows).getD i (0, 0))) := by
  rw [<- e, List.getElem_zip];simp [kN]
 have gi : (ab rows).getD i (0, 0) = (ab rows)[i] := by simp [hi]
 rw [gi] at e2;by_cases w : i = 0
 . subst w;rw [e2] at h0;simp [iC, comm] at h0
 . have hi1 : i - 1 < (ab rows).length := by omega
   have gj : (ab rows).getD (i - 1) (0, 0) = (ab rows)[i - 1] := by simp [hi1]
   rw [kK (by omega) hi, gj] at e2;refine ⟨(ab rows)[i - 1], (ab rows)[i], ez.mp (getElem_mem _), ez.mp (getElem_mem _), List.pairwise_iff_getElem.mp (qO rows) (i - 1) i hi1 hi (by omega), ?_, ?_⟩
   . rw [<- e2]; exact h0
   . rw [<- e2, e1]
theorem oD {rows : HQ} {t : Ie} (h : t ∈ bA rows) : ∃ p q, p ∈ aL rows t /\ q ∈ aL rows t /\ p ≠ q /\ t.length = comm (endAt rows p) (endAt rows q) := by
 obtain ⟨p, q, hp, hq, hlt, h0, rfl⟩ := vC h;have hc := dU (endAt rows p) (endAt rows q);have e := du (endAt rows p) (endAt rows q);have l : ((endAt rows q).take (comm (endAt rows p) (endAt rows q))).length = comm (endAt rows p) (endAt rows q) := by rw [length_take]; omega
 refine ⟨p, q, eW.mpr ⟨hp, ?_⟩, eW.mpr ⟨hq, ?_⟩, fun z => ?_, l⟩
 . rw [l, e]
 . rw [l]
 . subst z; rw [zD] at hlt; cases hlt
theorem xN {rows : HQ} {t : Ie} (h : t ∈ bI rows) : aL rows t ≠ [] := fun z => by
 obtain ⟨p, q, hp, _⟩ := oD (cu.mp h);rw [z] at hp;cases hp
def zc (d : D) : Prop := ∃ p : Nat × Nat, d = bK p
theorem Bm : gk zc := (gY (uN jQ jQ)).sub fun d ⟨p, e⟩ => ⟨_, e, ⟨_, rfl⟩, ⟨_, rfl⟩, trivial⟩
theorem xP : cL zc (tuples' true) := .tup "int" (.inl rfl) fun d ⟨p, e⟩ => ⟨.int p.1, [.int p.2], e, rfl, rfl⟩
theorem n5 {g : Nat -> Bool} {M N : Nat} (h : N <= M) (hg : ∀ a, g a = true -> a < N) : (List.range M).filter g = (List.range N).filter g := by
 obtain ⟨d, rfl⟩ : ∃ d, M = N + d := ⟨M - N, by omega⟩
 rw [List.range_add, filter_append];have : ((List.range d).map (N + ·)).filter g = [] := List.filter_eq_nil_iff.mpr fun a ha => by
  obtain ⟨b, _, rfl⟩ := mem_map.mp ha;intro z;have := hg _ z;omega
 rw [this, append_nil]
def fI (row : Ie) (t : Ie) (m : Nat) : List Nat := (List.range m).filter fun a => decide ((row.drop a).take t.length = t)
def kz (rows : HQ) (t : Ie) (n : Nat) : List Ij := (List.range n).flatMap fun r => (fI (rows.getD r []) t ((rows.getD r []).length + 1 - t.length)).map fun a => (r, a)
theorem rB {rows : HQ} {t : Ie} (h : t ≠ []) : kz rows t rows.length = aL rows t := by
 have hk : 0 < t.length := List.length_pos_iff.mpr h;unfold kz aL bx cz;rw [List.filter_flatMap];congr 1;funext r;rw [filter_map];congr 1;unfold fI;have e : (mn rows t) ∘ (fun a => (r, a)) = fun a => decide (((rows.getD r []).drop a).take t.length = t) := rfl;rw [e];refine (n5 (by omega) fun a ha => ?_).symm;have z := congrArg List.length (of_decide_eq_true ha);rw [length_take, length_drop] at z;omega
theorem vB (rows : HQ) (t : Ie) (n : Nat) : kz rows t (n + 1) = kz rows t n ++ (fI (rows.getD n []) t ((rows.getD n []).length + 1 - t.length)).map fun a => (n, a) := by
 unfold kz;rw [range_succ, List.flatMap_append];simp
theorem lz (row t : Ie) (m : Nat) : fI row t (m + 1) = fI row t m ++ (if (row.drop m).take t.length = t then [m] else []) := by
 unfold fI;rw [range_succ, filter_append];congr 1;by_cases h : (row.drop m).take t.length = t
 . rw [if_pos h]; simp [h]
 . rw [if_neg h]; simp [h]
theorem vK (row t : Ie) (m : Nat) : (fI row t m).length <= m := by
 unfold fI;have := length_filter_le (fun a => decide ((row.drop a).take t.length = t)) (List.range m);simpa using this
theorem BQ {rows : HQ} {t : Ie} (h : t ≠ []) {n : Nat} (hn : n <= rows.length) : (kz rows t n).length <= h9 rows := by
 have a := gW rows t;rw [<- rB h] at a;have e : kz rows t rows.length = kz rows t n ++ ((List.range (rows.length - n)).map (n + ·)).flatMap fun r => (fI (rows.getD r []) t ((rows.getD r []).length + 1 - t.length)).map fun a => (r, a) := by
  unfold kz;rw [<- List.flatMap_append, <- List.range_add, show n + (rows.length - n) = rows.length by omega]
 rw [e, List.length_append] at a;omega
def kR (ds : List D) (d : D) : Prop := ∃ (rows : HQ) (t : Ie), t ≠ [] /\ t.length <= 900 /\ h9 rows <= 400 /\ rows.length <= 900 /\ ds = [aQ rows, tupS t] /\ d = cT (aL rows t)
def DJ (rows : HQ) (t : Ie) (p : Ij) : Str := (rows.getD p.1 []).getD (p.2 + t.length) ""
def Cg (ds : List D) (d : D) : Prop := ∃ ws : List Str, ws.length <= 900 /\ ds = [ae ws] /\ d = .bl (jB ws)
theorem n8 {ws : Ie} {x y : Str} (hx : x ∈ ws) (hy : y ∈ ws) (h : x = "" \/ y = "" \/ x ≠ y) : jB ws = false := by
 cases q : jB ws with
 | false => rfl
 | true =>
  unfold jB at q;rw [List.all_eq_true] at q;have a := q x hx;have b := q y hy;rw [Bool.and_eq_true, decide_eq_true_eq, decide_eq_true_eq] at a b;rcases h with h | h | h
  . exact absurd h a.1
  . exact absurd h b.1
  . exact absurd (a.2.trans b.2.symm) h
theorem uk {rows : HQ} {t : Ie} (h : t ∈ bI rows) : jB ((aL rows t).map (DJ rows t)) = false := by
 obtain ⟨p, q, hp, hq, _, hl⟩ := oD (cu.mp h);refine n8 (mem_map.mpr ⟨p, hp, rfl⟩) (mem_map.mpr ⟨q, hq, rfl⟩) ?_;have gp : ∀ r : Nat × Nat, DJ rows t r = ((endAt rows r)[t.length]?).getD "" := fun r => by
  unfold DJ endAt;rw [List.getElem?_drop, List.getD_eq_getElem?_getD]
 rw [gp, gp, hl]
 cases a : (endAt rows p)[comm (endAt rows p) (endAt rows q)]? with
 | none => exact .inl rfl
 | some x =>
  cases b : (endAt rows q)[comm (endAt rows p) (endAt rows q)]? with
  | none => exact .inr (.inl rfl)
  | some y => exact .inr (.inr (er _ _ x y a b))
theorem BR {rows : HQ} {t : Ie} (h : t ∈ bI rows) : 1 < (aL rows t).length := by
 obtain ⟨p, q, hp, hq, ne, _⟩ := oD (cu.mp h)
 match hm : aL rows t with
 | [] => rw [hm] at hp; cases hp
 | [a] =>
  rw [hm, List.mem_singleton] at hp hq;exact absurd (hp.trans hq.symm) ne
 | a :: b :: r => simp
def tX (ds : List D) (d : D) : Prop := ∃ (rows : HQ) (t : Ie), t ∈ aW rows /\ h9 rows < 64 /\ rows.length <= 900 /\ ds = [aQ rows, tupS t, cT (aL rows t)] /\ d = .bl true
theorem fO {rows : HQ} {t : Ie} : t ∈ aW rows ↔ t ∈ bI rows /\ jB ((aL rows t).map (pZ rows)) = false := by
 unfold aW fG;rw [mem_filter, Bool.not_eq_true']
theorem zI (rows : HQ) : (aW rows).Pairwise fun x y => aP .lt (tupS x) (tupS y) = true := (zO rows).sublist List.filter_sublist
theorem vW (rows : HQ) : (aW rows).length <= h9 rows := Nat.le_trans (length_filter_le ..) (mH rows)
theorem Ce {rows : HQ} {t : Ie} (h : t ∈ bI rows) : t.length <= h9 rows := by
 obtain ⟨p, q, hp, _⟩ := oD (cu.mp h);obtain ⟨hm, e⟩ := eW.mp hp;obtain ⟨a, b⟩ := cb hm;have := congrArg List.length e;rw [length_take] at this;have l : (endAt rows p).length <= (rows.getD p.1 []).length := by unfold endAt; rw [length_drop]; omega
 have r := gc (rows := rows) (n := p.1) (row := rows.getD p.1 []) (by simp [a]) (rows.getD p.1 []).length (Nat.le_refl _);omega
theorem uv {a b : Ie} {n : Nat} (ha : n <= a.length) (ht : a.take n = b.take n) : n <= comm a b := by
 rcases Nat.lt_or_ge (comm a b) n with h | h
 . exfalso;have e : a[comm a b]? = b[comm a b]? := by
    have := congrArg (fun l : List Str => l[comm a b]?) ht;simpa [List.getElem?_take, h] using this
   have la : comm a b < a.length := by omega
   obtain ⟨x, hx⟩ : ∃ x, a[comm a b]? = some x := ⟨_, List.getElem?_eq_getElem la⟩
   exact er a b x x hx (e ▸ hx) rfl
 . exact h
theorem qB {a b : Ie} {n : Nat} (h : n < comm a b) : a[n]? = b[n]? := by
 have := congrArg (fun l : List Str => l[n]?) (du a b);simpa [List.getElem?_take, h] using this
theorem dw {a b : Ie} {n : Nat} (h : n <= comm a b) (ha : n < a.length) (hb : n < b.length) : a.getD n "" = b.getD n "" ↔ n < comm a b := by
 rw [List.getD_eq_getElem?_getD, List.getD_eq_getElem?_getD];constructor
 . intro e;rcases Nat.lt_or_ge n (comm a b) with z | z
   . exact z
   . exfalso;obtain rfl : n = comm a b := by omega
     refine er a b _ _ (List.getElem?_eq_getElem ha) (List.getElem?_eq_getElem hb) ?_;rw [List.getElem?_eq_getElem ha, List.getElem?_eq_getElem hb] at e;exact e
 . intro z;rw [qB z]
theorem zv {rows : HQ} {i : Nat} (h : i + 1 < (ab rows).length) (h0 : 0 < comm (endAt rows ((ab rows).getD i (0, 0))) (endAt rows ((ab rows).getD (i + 1) (0, 0)))) :
 (endAt rows ((ab rows).getD (i + 1) (0, 0))).take (comm (endAt rows ((ab rows).getD i (0, 0))) (endAt rows ((ab rows).getD (i + 1) (0, 0)))) ∈ bA rows := by
 have hs : i + 1 < (kN rows (ab rows)).length := by rw [hE]; exact h
 have e2 : (kN rows (ab rows))[i + 1] = comm (endAt rows ((ab rows).getD i (0, 0))) (endAt rows ((ab rows).getD (i + 1) (0, 0))) := by
  have := kK (rows := rows) (ps := ab rows) (n := i + 1) (by omega) h;rw [Nat.add_sub_cancel] at this;rw [<- this];simp [kN]
 have e1 : (ab rows).getD (i + 1) (0, 0) = (ab rows)[i + 1] := by simp [h]
 unfold bA;refine mem_map.mpr ⟨((ab rows)[i + 1], (kN rows (ab rows))[i + 1]), mem_filter.mpr ⟨?_, ?_⟩, ?_⟩
 . refine List.mem_iff_getElem.mpr ⟨i + 1, ?_, List.getElem_zip⟩;rw [List.length_zip];omega
 . rw [decide_eq_true_eq, e2]; exact h0
 . show (endAt rows (ab rows)[i + 1]).take (kN rows (ab rows))[i + 1] = _;rw [e2, e1]
theorem xW {rows : HQ} {t : Ie} {p q : Ij} (hp : p ∈ aL rows t) (hq : q ∈ aL rows t) (ne : p ≠ q) (h0 : t ≠ []) (hl : t.length = comm (endAt rows p) (endAt rows q)) : t ∈ bI rows := by
 refine cu.mpr (Classical.byContradiction fun no => ?_);have hM := yC rows t;have inM : ∀ x, x ∈ aL rows t -> x ∈ (ab rows).filter (mn rows t) := fun x hx => by
  obtain ⟨a, b⟩ := mem_filter.mp hx;exact mem_filter.mpr ⟨ez.mpr a, b⟩
 generalize hlow : cS rows (ab rows) t = low at hM;generalize hmany : manyN rows (ab rows) t = many at hM;generalize hMd : (ab rows).filter (mn rows t) = M at hM inM;have beg : ∀ x ∈ M, (endAt rows x).take t.length = t := fun x hx => by
  rw [<- hMd] at hx;exact of_decide_eq_true (mem_filter.mp hx).2
 have tl : ∀ x ∈ M, t.length <= (endAt rows x).length := fun x hx => by
  have := congrArg List.length (beg x hx);rw [length_take] at this;omega
 have hM' : ∀ i, i < M.length -> M.getD i (0, 0) = (ab rows).getD (low + i) (0, 0) /\ low + i < (ab rows).length := fun i hi => by
  rw [<- hM, length_take, length_drop] at hi;refine ⟨?_, by omega⟩;rw [<- hM, List.getD_eq_getElem?_getD, List.getD_eq_getElem?_getD, List.getElem?_take_of_lt (by omega), List.getElem?_drop]
 have mm : ∀ i, i < M.length -> M.getD i (0, 0) ∈ M := fun i hi => by
  rw [List.getD_eq_getElem?_getD, List.getElem?_eq_getElem hi];exact getElem_mem hi
 have step : ∀ i, i + 1 < M.length -> t.length < comm (endAt rows (M.getD i (0, 0))) (endAt rows (M.getD (i + 1) (0, 0))) := fun i hi => by
  have a := mm i (by omega);have b := mm (i + 1) hi;have ge := uv (tl _ a) ((beg _ a).trans (beg _ b).symm);rcases Nat.lt_or_ge t.length (comm (endAt rows (M.getD i (0, 0))) (endAt rows (M.getD (i + 1) (0, 0)))) with z | z
  . exact z
  . exfalso;apply no;have e : comm (endAt rows (M.getD i (0, 0))) (endAt rows (M.getD (i + 1) (0, 0))) = t.length := by omega
    obtain ⟨m1, _⟩ := hM' i (by omega);obtain ⟨m2, l2⟩ := hM' (i + 1) hi;have f := zv (rows := rows) (i := low + i) l2;rw [show low + i + 1 = low + (i + 1) from rfl, <- m1, <- m2, e, beg _ b] at f;exact f (List.length_pos_iff.mpr h0)
 have all : ∀ i, i < M.length -> 0 < i -> (endAt rows (M.getD i (0, 0))).take (t.length + 1) = (endAt rows (M.getD 0 (0, 0))).take (t.length + 1) := fun i => by
  induction i with
  | zero => intro _ h; omega
  | succ i ih =>
   intro hi _;have s := step i hi;have e := congrArg (List.take (t.length + 1)) (du (endAt rows (M.getD i (0, 0))) (endAt rows (M.getD (i + 1) (0, 0))));rw [List.take_take, List.take_take, Nat.min_eq_left (by omega)] at e;by_cases z : i = 0
   . subst z; exact e.symm
   . rw [<- e]; exact ih (by omega) (by omega)
 have al : ∀ i, i < M.length -> (endAt rows (M.getD i (0, 0))).take (t.length + 1) = (endAt rows (M.getD 0 (0, 0))).take (t.length + 1) := fun i hi => by
  by_cases z : i = 0
  . subst z; rfl
  . exact all i hi (by omega)
 obtain ⟨i, hi, ei⟩ := List.mem_iff_getElem.mp (inM p hp);obtain ⟨j, hj, ej⟩ := List.mem_iff_getElem.mp (inM q hq);have gi : M.getD i (0, 0) = p := by simp [hi, ei]
 have gj : M.getD j (0, 0) = q := by simp [hj, ej]
 have ij : i ≠ j := fun z => by subst z; exact ne (ei.symm.trans ej)
 have big : ∀ i, i < M.length -> 1 < M.length -> t.length + 1 <= (endAt rows (M.getD i (0, 0))).length := fun i hi h1 => by
  rcases Nat.lt_or_ge (i + 1) M.length with z | z
  . have := step i z;have := (dU (endAt rows (M.getD i (0, 0))) (endAt rows (M.getD (i + 1) (0, 0)))).1;omega
  . have s := step (i - 1) (by omega);rw [show i - 1 + 1 = i by omega] at s;have := (dU (endAt rows (M.getD (i - 1) (0, 0))) (endAt rows (M.getD i (0, 0)))).2;omega
 have fin := uv (big i hi (by omega)) ((al i hi).trans (al j hj).symm);rw [gi, gj] at fin;omega
theorem uX {rows : HQ} {p : Ij} (h1 : p.1 < rows.length) (h2 : p.2 < (rows.getD p.1 []).length) : p ∈ bx rows := by
 unfold bx cz;exact List.mem_flatMap.mpr ⟨p.1, List.mem_range.mpr h1, mem_map.mpr ⟨p.2, List.mem_range.mpr h2, rfl⟩⟩
def bU (rows : HQ) (p q : Ij) : Nat := comm ((rows.getD p.1 []).take p.2).reverse ((rows.getD q.1 []).take q.2).reverse
def kF (rows : HQ) (p q : Ij) : Nat × Nat := (p.1, p.2 - bU rows p q)
def lY (rows : HQ) (p q : Ij) : Nat × Nat := (q.1, q.2 - bU rows p q)
def tp (rows : HQ) (p q : Ij) : Nat := comm (endAt rows (kF rows p q)) (endAt rows (lY rows p q))
def kZ (rows : HQ) (p q : Ij) : List Str := (endAt rows (kF rows p q)).take (tp rows p q)
def EE (rows : HQ) (p : Ij) : Str := (rows.getD p.1 []).getD p.2 ""
theorem d5 {l : Ie} {i n : Nat} (hi : i <= l.length) (h : n < i) : ((l.take i).reverse).getD n "" = l.getD (i - n - 1) "" := by
 rw [List.getD_eq_getElem?_getD, List.getD_eq_getElem?_getD, List.getElem?_reverse (by rw [length_take]; omega), length_take, Nat.min_eq_left hi, List.getElem?_take_of_lt (by omega)];congr 2;omega
theorem uS (rows : HQ) (p q : Ij) : bU rows p q <= p.2 /\ bU rows p q <= q.2 := by
 have := dU ((rows.getD p.1 []).take p.2).reverse ((rows.getD q.1 []).take q.2).reverse;rw [List.length_reverse, List.length_reverse, length_take, length_take] at this;unfold bU;omega
theorem yG {rows : HQ} {p q : Ij} (hp : p ∈ bx rows) (hq : q ∈ bx rows) (ne : p ≠ q) (hw : EE rows p = EE rows q) :
 kZ rows p q ∈ aW rows /\ kF rows p q ∈ aL rows (kZ rows p q) /\ lY rows p q ∈ aL rows (kZ rows p q) := by
 obtain ⟨p1, p2⟩ := cb hp;obtain ⟨q1, q2⟩ := cb hq;obtain ⟨lp, lq⟩ := uS rows p q;have hP : kF rows p q ∈ bx rows := uX p1 (show p.2 - bU rows p q < (rows.getD p.1 []).length by omega);have hQ : lY rows p q ∈ bx rows := uX q1 (show q.2 - bU rows p q < (rows.getD q.1 []).length by omega);have gE : ∀ r : Nat × Nat, (endAt rows r).getD 0 "" = EE rows r := fun r => by
  unfold endAt EE;rw [List.getD_eq_getElem?_getD, List.getElem?_drop, Nat.add_zero];exact (List.getD_eq_getElem?_getD ..).symm
 have lE : ∀ r : Nat × Nat, (endAt rows r).length = (rows.getD r.1 []).length - r.2 := fun r => by unfold endAt; rw [length_drop]
 have hw2 : EE rows (kF rows p q) = EE rows (lY rows p q) := by
  by_cases z : bU rows p q = 0
  . have e1 : kF rows p q = p := by unfold kF; rw [z]; rfl
    have e2 : lY rows p q = q := by unfold lY; rw [z]; rfl
    rw [e1, e2]; exact hw
  . have s := congrArg (fun x : Option Str => x.getD "") (qB (a := ((rows.getD p.1 []).take p.2).reverse) (b := ((rows.getD q.1 []).take q.2).reverse) (n := bU rows p q - 1) (by show _ < bU rows p q; omega));have s' : ((rows.getD p.1 []).take p.2).reverse.getD (bU rows p q - 1) "" = ((rows.getD q.1 []).take q.2).reverse.getD (bU rows p q - 1) "" := by
     rw [List.getD_eq_getElem?_getD, List.getD_eq_getElem?_getD]; exact s
    rw [d5 (by omega) (by omega), d5 (by omega) (by omega), show p.2 - (bU rows p q - 1) - 1 = p.2 - bU rows p q by omega, show q.2 - (bU rows p q - 1) - 1 = q.2 - bU rows p q by omega] at s';exact s'
 have n0 : 0 < tp rows p q := by
  refine (dw (Nat.zero_le _) ?_ ?_).mp ?_
  . rw [lE]; show 0 < (rows.getD p.1 []).length - (p.2 - bU rows p q); omega
  . rw [lE]; show 0 < (rows.getD q.1 []).length - (q.2 - bU rows p q); omega
  . rw [gE, gE]; exact hw2
 obtain ⟨c1, c2⟩ := dU (endAt rows (kF rows p q)) (endAt rows (lY rows p q));have tl : (kZ rows p q).length = tp rows p q := by unfold kZ; rw [length_take]; unfold tp; omega
 have iP : kF rows p q ∈ aL rows (kZ rows p q) := eW.mpr ⟨hP, by rw [tl]; rfl⟩;have iQ : lY rows p q ∈ aL rows (kZ rows p q) := eW.mpr ⟨hQ, by rw [tl]; exact (du _ _).symm⟩;refine ⟨fO.mpr ⟨xW iP iQ (fun z => ne ?_) (fun z => ?_) tl, ?_⟩, iP, iQ⟩
 . have e1 := congrArg Prod.fst z;have e2 := congrArg Prod.snd z;have e1 : p.1 = q.1 := e1;have e2 : p.2 - bU rows p q = q.2 - bU rows p q := e2;exact Prod.ext e1 (by omega)
 . rw [z] at tl; simp at tl; omega
 . refine n8 (mem_map.mpr ⟨_, iP, rfl⟩) (mem_map.mpr ⟨_, iQ, rfl⟩) ?_;by_cases z1 : p.2 - bU rows p q = 0
   . refine .inl ?_;unfold pZ kF;rw [if_neg (by show ¬ 0 < p.2 - bU rows p q; omega)]
   by_cases z2 : q.2 - bU rows p q = 0
   . refine .inr (.inl ?_);unfold pZ lY;rw [if_neg (by show ¬ 0 < q.2 - bU rows p q; omega)]
   refine .inr (.inr fun e => ?_);unfold pZ kF lY at e;rw [if_pos (by show 0 < p.2 - bU rows p q; omega), if_pos (by show 0 < q.2 - bU rows p q; omega)] at e;have e : (rows.getD p.1 []).getD (p.2 - bU rows p q - 1) "" = (rows.getD q.1 []).getD (q.2 - bU rows p q - 1) "" := e;have := (dw (a := ((rows.getD p.1 []).take p.2).reverse) (b := ((rows.getD q.1 []).take q.2).reverse) (n := bU rows p q) (Nat.le_refl _) (by rw [List.length_reverse, length_take]; omega) (by rw [List.length_reverse, length_take]; omega)).mp (by rw [d5 (by omega) (by omega), d5 (by omega) (by omega)]; exact e);exact Nat.lt_irrefl _ this
theorem ym (rows : HQ) : (bA rows).length < max 1 (h9 rows) := by
 unfold bA;rw [length_map]
 cases h : ab rows with
 | nil => simp; omega
 | cons p ps =>
  have e := fX rows;have hs : (kN rows (p :: ps)).length = (p :: ps).length := hE _ _;have h0 : (kN rows (p :: ps))[0]? = some 0 := by
   unfold kN;rw [getElem?_map, List.getElem?_range (by simp)];simp [iC, comm]
  cases hq : kN rows (p :: ps) with
  | nil => rw [hq] at h0; cases h0
  | cons n ns =>
   rw [hq] at h0;cases h0;rw [List.zip_cons_cons, List.filter_cons_of_neg (by simp)];have := length_filter_le (fun q : Ij × Nat => decide (0 < q.2)) (ps.zip ns);rw [List.length_zip] at this;rw [h, length_cons] at e;omega
theorem x5 (rows : HQ) : (aW rows).length < max 1 (h9 rows) := by
 have a := length_filter_le (fG rows) (bI rows);have b := fW (bA rows);have c := ym rows;have d : (bI rows).length = (bL (bA rows)).length := by unfold bI; rw [List.length_mergeSort]
 unfold aW;omega
theorem r8 (rows : HQ) : (aW rows).Nodup := (i7 rows).sublist List.filter_sublist
end Y
namespace Y
open PySem PySem.Spec PyProof.Rows L2
open AutoSeq1 in
theorem tm (d : Addr) (es : Array DictEntry) (ep : Nat) (de : HY) (sm : HU) (hn : (d == sysModules) = false) :
 Meets (Builtin.«dict.__len__» ⟨[.ref d], []⟩) (fun A R s => s.heap.get? d = some ⟨.type "dict", de, .dict es ep, sm⟩ /\ R (.ok (.ret (.int es.size s.toks))) { s with toks := s.toks + 1 }) :=
 .of_wp fun prog w A R s h => by
  obtain ⟨hp, g, dm, tk, os⟩ := s;obtain ⟨hl, h⟩ := h;wp_walk using wpAny_loadPart' hl;exact ⟨_, rfl, h⟩
section
variable {prog : Program} {w : World} {A : Around} {E : HR} {s : Shared} {d : Addr} {ep : Nat} {es : Array DictEntry}
open AutoSeq1 in
theorem wN {Q : HR} {de : HY} {sm : HU} (hn : (d == sysModules) = false) (ho : s.heap.get? d = some ⟨.type "dict", de, .dict es ep, sm⟩) (hz : (es.size : Int) < 2 ^ 63) (h : Q (.int es.size (s.toks + 1)) { s with toks := s.toks + 1 + 1 }) :
 wpAny (model prog w) A (call (.builtin "len") [.ref d]) Q E s := by
 refine Calls.call_function_entry kind_len plain_len entry_len (args_len1 _) ?_;have hT : s.TypeIs (.ref d) "dict" := ⟨_, ho, rfl⟩
 have z1 : ¬ ((es.size : Nat) : Int) < 0 := by omega
 have z2 : ¬ ((es.size : Nat) : Int) ≥ 2 ^ 63 := by omega
 unfold Builtin.«len»;wp_walk using (wpAny_callSpecial?_slot (name := Str.ofString "__len__") hT F.slot_dict_len (call_meets F.slot_dict_len hT F.entry_dict_len (F.args_dict_len_1 _) (tm d es ep de sm hn) ⟨ho, ?_⟩));rw [if_neg z2];wp_walk;exact ⟨_, rfl, h⟩
end
section
variable [b0] {X : Cx} {ρ : List (Option D)} {m m1 : Bool} {a : Expr} {pos p : Pos}
theorem wk : jg X (.builtin "len") (fun xs H Q => ∃ a kvs, xs = [V.ref a] /\ H a = some (.dT kvs) /\ Q (.int kvs.length) H) := by
 intro pins s σ H xs us Q I r h;obtain ⟨a, kvs, rfl, ha, q⟩ := h;obtain ⟨u, rfl, ru⟩ := vals1 r;cases ru;obtain ⟨z, hd, xs, kt, ⟨⟨c, dc, da, sl⟩, es, ep, h1, ⟨h2, h3⟩, h4, h5, h6, h7⟩⟩ := zU I.hok ha;subst h2 h4;have e : es.size = kvs.length := by rw [size_of_entries h5]; exact kt.length.symm
 refine wN hd h1 (by rw [e]; rw [sizeLine_eq] at z; omega) ?_;rw [e];exact ⟨.int kvs.length, H, I.tok _, ⟨_, rfl⟩, q⟩
theorem Bk {kvs : List (List Key × V)} (ha : E X m1 ρ a (.dct (.t kvs))) (hm : X.mg "len" = none) (hg : Gl X "len" := by rfl) (hs : starEach [a] X.env = [(false, eval a X.env)] := by rfl) : E X true ρ (.Call (.Name "len" p) [a] [] pos) (.int kvs.length) :=
 PE.mono (fg wk hg hm PySem.boot_len (aM ha bh (by rw [hs]; rfl)) (by decide) (by decide) (by rw [hs]; rfl) rfl) fun σ H Q z0 => aO z0 fun Z oz en k => ⟨Z, oz, en, fun x H1 s1 i1 => by
  obtain ⟨a, rfl, e, _⟩ := bq.mp (i1.plain oz);exact ⟨a, kvs, rfl, e, k _ H1 s1 (au.mpr rfl)⟩⟩
end
end Y
namespace Y
open PySem PySem.Spec PyProof.Rows L2
variable [b0]
theorem mU {α : Type} {p : List α -> Prop} (h0 : p []) (hs : ∀ l a, p l -> p (l ++ [a])) (l : List α) : p l := by
 have : ∀ l : List α, p l.reverse := fun l => by
  induction l with
  | nil => exact h0
  | cons a l ih => rw [List.reverse_cons]; exact hs _ _ ih
 have := this l.reverse
 rwa [List.reverse_reverse] at this
def Gh (k : Nat) : Nat := [0, 0, 0, 1, 2, 3].getD k 0
def sY (k : Nat) : Str := ([" ", ", ", "-", " ", ". ", " (", "\n"] : Ie).getD k " "
def qX (ws : Ie) (c : Int) : Str := ws.getD (Gh (part c 21 6).toNat) ""
def iB (ws : Ie) (c : Int) : Str := if part c 22 2 = 1 then Txt.upper (qX ws c) else qX ws c
def jq (c : Int) : Str := sY (part c 23 7).toNat
def cZ (ws : Ie) (cells : List Int) : Str := cells.foldl (fun z c => z ++ iB ws c ++ jq c) ""
theorem gC (ws : Ie) (cells : List Int) (c : Int) : cZ ws (cells ++ [c]) = cZ ws cells ++ iB ws c ++ jq c := by simp [cZ]
structure w5 (ws : Ie) : Prop where
 n : ws.length = 4
 w : ∀ z ∈ ws, Bg z
 l : ∀ z ∈ ws, z.length <= 12
theorem yt : ∀ k, k < 6 -> Gh k < 4 := by decide
theorem ze {ws : Ie} (h : w5 ws) (c : Int) : qX ws c ∈ ws := getD_mem (by
 have p0 := gf c 21 (show (0 : Int) < 6 by decide);have p9 := g4 c 21 (show (0 : Int) < 6 by decide);have := yt (part c 21 6).toNat (by omega);rw [h.n]; exact this)
theorem BZ : ∀ k, k < 7 -> (Part (cl (sY k)) \/ (Quiet (cl (sY k)) /\ 10 ∈ cl (sY k))) /\ (∀ c ∈ cl (sY k), c < 128) /\ (sY k).length <= 2 := by
 intro k hk
 match k, hk with
 | 0, _ => exact ⟨.inl ⟨by decide +kernel, by decide +kernel⟩, by decide +kernel, by decide +kernel⟩
 | 1, _ => exact ⟨.inl ⟨by decide +kernel, by decide +kernel⟩, by decide +kernel, by decide +kernel⟩
 | 2, _ => exact ⟨.inl ⟨by decide +kernel, by decide +kernel⟩, by decide +kernel, by decide +kernel⟩
 | 3, _ => exact ⟨.inl ⟨by decide +kernel, by decide +kernel⟩, by decide +kernel, by decide +kernel⟩
 | 4, _ => exact ⟨.inl ⟨by decide +kernel, by decide +kernel⟩, by decide +kernel, by decide +kernel⟩
 | 5, _ => exact ⟨.inl ⟨by decide +kernel, by decide +kernel⟩, by decide +kernel, by decide +kernel⟩
 | 6, _ => exact ⟨.inr ⟨by unfold Quiet; decide +kernel, by decide +kernel⟩, by decide +kernel, by decide +kernel⟩
theorem nM {ws : Ie} (h : w5 ws) (c : Int) : Gk (cl (iB ws c)) /\ eQ (iB ws c) /\ (iB ws c).length <= 12 := by
 have hm := ze h c;have hw := h.w _ hm;have hl := h.l _ hm;unfold iB;split
 . have e : cl (Txt.upper (qX ws c)) = (cl (qX ws c)).map up1 := by
    rw [upper_ascii (jN hw)];show ((qX ws c).cps.map up1).toList = _;rw [Array.toList_map]
   exact ⟨e ▸ hw.up.1, ou (jN hw), by rw [vE (jN hw)]; exact hl⟩
 . exact ⟨hw.w, jN hw, hl⟩
def rM (rows : List (List Ih)) : Nat := (rows.map List.length).sum
theorem mY (row : List Ih) : rM (jw row) = row.length := by
 unfold jw rM;split
 . rename_i e; rw [e]; rfl
 . simp
theorem zZ (a b : List (List Ih)) : rM (a ++ b) = rM a + rM b := by unfold rM; rw [map_append, List.sum_append]
theorem qC {f g : Int -> List Nat} : ∀ (cells : List Int), (∀ c ∈ cells, Gk (f c) /\ (Part (g c) \/ (Quiet (g c) /\ 10 ∈ g c))) -> ∀ row, rM (scan (cells.flatMap fun c => f c ++ g c) row []) = row.length + cells.length
 | [], _, row => by
  have := kJ [] row [] (fun c hc => by simp at hc);rw [List.flatMap_nil, this, mY];simp [e9]
 | c :: cells, h, row => by
  obtain ⟨w, s⟩ := h c (by simp);have ih := qC cells fun x hx => h x (mem_cons_of_mem _ hx);rw [List.flatMap_cons, List.append_assoc, nC _ _ _ _ w.sg w.nl, List.nil_append];have ne : (f c).map lo1 ≠ [] := fun e => w.ne (List.map_eq_nil_iff.mp e);rcases s with s | ⟨s1, s2⟩
  . rw [vO s, ih, u4 ne, List.length_append];simp;omega
  . rw [jm _ _ _ _ s1 s2, zZ, mY, ih, u4 ne, List.length_append];simp;omega
theorem uF (ws : Ie) (cells : List Int) : cl (cZ ws cells) = cells.flatMap fun c => cl (iB ws c) ++ cl (jq c) := by
 refine mU (p := fun cells => cl (cZ ws cells) = cells.flatMap fun c => cl (iB ws c) ++ cl (jq c)) rfl (fun l c ih => ?_) cells;rw [gC, bW, bW, ih, List.flatMap_append];simp
theorem jT (c : Int) : (Part (cl (jq c)) \/ (Quiet (cl (jq c)) /\ 10 ∈ cl (jq c))) /\ (∀ k ∈ cl (jq c), k < 128) /\ (jq c).length <= 2 := by
 have p0 := gf c 23 (show (0 : Int) < 7 by decide);have p9 := g4 c 23 (show (0 : Int) < 7 by decide);exact BZ _ (by omega)
theorem pE {ws : Ie} (h : w5 ws) (cells : List Int) : eQ (cZ ws cells) /\ (cZ ws cells).length <= 14 * cells.length /\ h9 (dr (cZ ws cells)) = cells.length := by
 have ha : eQ (cZ ws cells) := fun k hk => by
  rw [uF] at hk;obtain ⟨c, _, hk⟩ := List.mem_flatMap.mp hk;rcases mem_append.mp hk with hk | hk
  . exact (nM h c).2.1 k hk
  . exact (jT c).2.1 k hk
 refine ⟨ha, ?_, ?_⟩
 . refine mU (p := fun cells => (cZ ws cells).length <= 14 * cells.length) (by show ("" : Str).length <= 0; decide +kernel) (fun l c ih => ?_) cells;rw [gC, <- bZ, bW, bW, List.length_append, List.length_append, bZ, bZ, bZ, List.length_append, List.length_singleton];have := (nM h c).2.2;have := (jT c).2.2;omega
 . have e := lj ha;have s := qC (f := fun c => cl (iB ws c)) (g := fun c => cl (jq c)) cells (fun c _ => ⟨(nM h c).1, (jT c).1⟩) [];rw [uF] at e;rw [<- e] at s;unfold rM at s;rw [map_map] at s;have : (List.length ∘ fun x : List Str => x.map cl) = List.length := funext fun x => by simp
   rw [this] at s;simpa [h9] using s
theorem vF {ws : Ie} (h : w5 ws) (cells : List Int) : (dr (cZ ws cells)).length <= cells.length := by
 obtain ⟨a, _, c⟩ := pE h cells;rw [<- c];exact ly fun r hr => List.length_pos_iff.mpr (qN a r hr).1
def yX (ds : List D) (d : D) : Prop := ∃ (ws : Ie) (cells : List Int), w5 ws /\ cells.length <= 60 /\ ds = [ae ws, vt cells] /\ d = .str (cZ ws cells)
theorem HL {k : Int} (h0 : 0 <= k) (h : k < 6) : gS [D.int 0, .int 0, .int 0, .int 1, .int 2, .int 3] k = some (.int ((Gh k.toNat : Nat) : Int)) := by
 obtain ⟨n, rfl⟩ := Int.eq_ofNat_of_zero_le h0;have : n < 6 := by omega
 match n, this with
 | 0, _ => rfl
 | 1, _ => rfl
 | 2, _ => rfl
 | 3, _ => rfl
 | 4, _ => rfl
 | 5, _ => rfl
theorem Hz {k : Int} (h0 : 0 <= k) (h : k < 7) : gS [D.str " ", .str ", ", .str "-", .str " ", .str ". ", .str " (", .str "\n"] k = some (.str (sY k.toNat)) := by
 obtain ⟨n, rfl⟩ := Int.eq_ofNat_of_zero_le h0;have : n < 7 := by omega
 match n, this with
 | 0, _ => rfl
 | 1, _ => rfl
 | 2, _ => rfl
 | 3, _ => rfl
 | 4, _ => rfl
 | 5, _ => rfl
 | 6, _ => rfl
def FV (ds : List D) (d : D) : Prop := ∃ (rows : HQ) (p q : Ij), p ∈ bx rows /\ q ∈ bx rows /\ ds = [aQ rows, bK p, bK q] /\ d = tupS (kZ rows p q)
def p8 (ts : HQ) : List (List Key × V) := ts.map fun t => (t.map Sum.inr, V.bl true)
theorem jf : ∀ {a b : Ie}, (a.map Sum.inr : List Key) = b.map Sum.inr -> a = b
 | [], [], _ => rfl
 | [], _ :: _, h => by cases h
 | _ :: _, [], h => by cases h
 | x :: a, y :: b, h => by
  rw [map_cons, map_cons] at h;injection h with h1 h2;injection h1 with h1;rw [h1, jf h2]
theorem CQ {ts : HQ} {t : Ie} : (dq (p8 ts) (t.map Sum.inr : List Key)).isSome = decide (t ∈ ts) := by
 induction ts with
 | nil => rfl
 | cons a ts ih =>
  have ec : p8 (a :: ts) = ((a.map Sum.inr : List Key), V.bl true) :: p8 ts := rfl;rw [ec];by_cases e : t = a
  . subst e;simp [dq]
  . have n : ¬ (a.map Sum.inr : List Key) = t.map Sum.inr := fun z => e (jf z).symm;have i2 : dq (((a.map Sum.inr : List Key), V.bl true) :: p8 ts) (t.map Sum.inr : List Key) = dq (p8 ts) (t.map Sum.inr : List Key) := by
     simp [dq, n]
    rw [i2, ih];simp [e]
theorem Dn {ts : HQ} {t : Ie} (h : t ∉ ts) : putK (p8 ts) (t.map Sum.inr : List Key) (.bl true) = p8 (ts ++ [t]) := by
 have : dq (p8 ts) (t.map Sum.inr : List Key) = none := by
  have := CQ (ts := ts) (t := t);rw [decide_eq_false h] at this
  cases q : dq (p8 ts) (t.map Sum.inr : List Key) with
  | none => rfl
  | some v => rw [q] at this; cases this
 rw [zm _ this];unfold p8;rw [map_append];rfl
theorem yB (ts : HQ) : (p8 ts).length = ts.length := by unfold p8; rw [length_map]
end Y
namespace Z
open PySem PySem.Spec PyProof.Rows L2 Y
section
variable [b0]
def top (i : Nat) : Stmt := PySem.Challenge.pw_besidewords_k25_whole_stretches_of_a_tex.main.body.getD i (.Pass ⟨0, 0, 0, 0⟩)
abbrev eP : Stmt := top 1
abbrev lh : Stmt := top 2
abbrev gM : Stmt := top 3
abbrev n9 : Stmt := top 4
abbrev fu : Stmt := top 5
abbrev kT : Stmt := top 6
abbrev cC : Stmt := top 7
abbrev cB : Stmt := top 8
abbrev i5 : Stmt := top 11
abbrev gJ : Stmt := top 12
abbrev eM : Stmt := top 14
abbrev eg : Stmt := top 15
abbrev bY : Stmt := top 16
abbrev cM : Stmt := top 17
abbrev d9 : Stmt := top 19
abbrev gG : Stmt := top 20
abbrev fH : Stmt := top 21
abbrev gy : Stmt := top 22
abbrev eO : Stmt := top 23
abbrev dI : Stmt := top 24
abbrev gB : Stmt := top 25
abbrev cU : Stmt := top 26
abbrev iK : Stmt := top 27
theorem fs {N P : Ie} {c : Scope} (a : c.kind = .function := by rfl) (b : c.isCoroutine = false := by rfl) (d : c.isGenerator = false := by rfl) (e : N.Nodup := by decide +kernel) (f : N.take P.length = P := by rfl) (g : ∀ x ∈ P, c.names.lookup x = some .local \/ c.names.lookup x = some .cell := by decide +kernel) (h : ∀ y ∈ c.names, y.2 ≠ .free := by decide +kernel) : aE N P c := ⟨a, b, d, e, f, g, h⟩
theorem gx : aE ["rows", "places", "row", "words", "at"] ["rows"] (ah eP) := fs
theorem vL : aE ["rows", "place"] ["rows", "place"] (ah lh) := fs
theorem qz : aE ["rows", "place"] ["rows", "place"] (ah gM) := fs
theorem Bz : aE ["rows"] ["rows"] (ah n9) := fs
theorem iE : aE ["one", "other", "many", "word", "beside"] ["one", "other"] (ah fu) := fs
theorem mK : aE ["rows", "places", "told", "ahead", "place", "end"] ["rows", "places"] (ah kT) := fs
theorem gu : aE ["rows", "places", "words", "low", "high"] ["rows", "places", "words"] (ah cC) := fs
theorem e7 : aE ["rows", "places", "is_ahead", "low", "high", "middle"] ["rows", "places", "is_ahead"] (ah cB) := fs
theorem j9 : aE ["text", "rows"] ["text"] (ah i5) := fs
theorem jo : aE ["part", "parted"] ["part"] (ah gJ) := fs
theorem lX : aE ["rows", "place"] ["rows", "place"] (ah eM) := fs
theorem kW : aE ["words"] ["words"] (ah eg) := fs
theorem cN : aE ["rows", "places", "numbers", "found"] ["rows", "places"] (ah bY) := fs
theorem dQ : aE ["rows", "order", "told", "stretch", "span", "places"] ["rows"] (ah cM) := fs
theorem kO : aE ["_law_script", "_law_k"] ["_law_script", "_law_k"] (ah d9) := fs
theorem rP : aE ["_law_cell", "_law_k", "_law_many"] ["_law_cell", "_law_k", "_law_many"] (ah gG) := fs
theorem h8 : aE ["_law_one", "_law_other", "_law_signs", "_law_size", "_law_at", "_law_words_here", "_law_k", "_law_word", "_law_j", "_law_number"] ["_law_one", "_law_other"] (ah fH) := fs
theorem je : aE ["_law_words_here", "_law_cells", "_law_text_here", "_law_cell", "_law_word"] ["_law_words_here", "_law_cells"] (ah gy) := fs
theorem gv : aE ["_law_rows", "_law_stretch", "_law_places_here", "_law_number", "_law_at"] ["_law_rows", "_law_stretch"] (ah eO) := fs
theorem eZ : aE ["_law_words_here", "_law_word"] ["_law_words_here"] (ah dI) := fs
theorem jk : aE ["_law_rows", "_law_stretch", "_law_places_here", "_law_ahead", "_law_behind", "_law_number", "_law_at", "_law_padded"] ["_law_rows", "_law_stretch", "_law_places_here"] (ah gB) := fs
theorem eo : aE ["_law_rows", "_law_one", "_law_other", "_law_here", "_law_there", "_law_left", "_law_low", "_law_far", "_law_size"] ["_law_rows", "_law_one", "_law_other"] (ah cU) := fs
theorem zS : aE ["_law_script", "_law_words_here", "_law_rows", "_law_known", "_law_last", "_law_stretch", "_law_places_here", "_law_spots", "_law_number", "_law_one", "_law_other"] ["_law_script"] (ah iK) := fs
abbrev Fl : List Str := ["_law_cell", "_law_k", "_law_many"]
structure jW (mg : HV) : Prop where
 enumerate : mg "enumerate" = none
 len : mg "len" = none
 list : mg "list" = none
 max : mg "max" = none
 range : mg "range" = none
 set : mg "set" = none
 sorted : mg "sorted" = none
 tuple : mg "tuple" = none
 zip : mg "zip" = none
 WORD_SIGNS : ∃ t, mg "WORD_SIGNS" = some (.str "abcdefghijklmnopqrstuvwxyz0123456789" t)
section
variable {P : Program} {w : World} {K : Frag} {mg : HV} {base : Heap} {f : Addr} {fd : FuncData}
theorem lK (Fx : gr K "_law_cell_at" "_law_cell_at" d9 f fd) (hmg : mg "_law_cell_at" = some (.ref f)) (hb : Binds K fd ["_law_script", "_law_k"] []) (B : jW mg) : Def P w K mg base 1 "_law_cell_at" true vh := by
 refine bJ Fx kO hmg hb (by rintro ds d ⟨ns, k, hz, e1, e2⟩; subst e1; rfl) ?_;rintro cdv A outer s H Ex Z ds d hr ⟨ns, k, hz, e1, e2⟩;subst e1 e2;refine ig (mV (aa 1) (cK (aa 0) B.len)) (fun h => ?_) (fun h => ?_)
 . refine aY false (m1 := true) (E.flat (bz (d := .int (cellAt ns k)) (aa 0) (aa 1) ?_) rfl) rfl;simp at h;refine aX ?_;simp [cellAt, h]
 . refine aB ?_;refine aY false (E.cast ay ?_) rfl;simp at h;simp [cellAt, h]
theorem sd (Fx : gr K "_law_part" "_law_part" gG f fd) (hmg : mg "_law_part" = some (.ref f)) (hb : Binds K fd Fl []) (B : jW mg) : Def P w K mg base 1 "_law_part" true z8 := by
 refine bJ Fx rP hmg hb (by rintro ds d ⟨c, k, m, hm, e1, e2⟩; subst e1; rfl) ?_;rintro cdv A outer s H Ex Z ds d hr ⟨c, k, m, hm, e1, e2⟩;subst e1 e2;have h1 := Int.emod_nonneg c (show (99991 : Int) ≠ 0 by decide);have h2 := Int.emod_lt_of_pos c (show (0 : Int) < 99991 by decide);have h3 := Int.emod_nonneg ((c % 99991 + 17) * (48271 + 7919 * k)) (show (65537 : Int) ≠ 0 by decide);have h4 := Int.emod_lt_of_pos ((c % 99991 + 17) * (48271 + 7919 * k)) (show (0 : Int) < 65537 by decide);exact aY false (mC (mC (yi (mC (yi (bX (mC (aa 0) ay (by decide)) ay) (bX ay (yi ay (aa 1) (.inl ⟨by decide, by decide⟩))) (.inl ⟨by omega, by omega⟩)) ay (by decide)) (bX (aa 1) ay) (.inl ⟨by omega, by omega⟩)) ay (by decide)) (aa 2) hm) rfl
theorem nR (Fx : gr K "_law_words" "_law_words" fH f fd) (hmg : mg "_law_words" = some (.ref f)) (hb : Binds K fd ["_law_one", "_law_other"] []) (B : jW mg) (dP : Def P w K mg base 1 "_law_part" true z8) : Def P w K mg base 2 "_law_words" true ve := by
 refine bJ Fx h8 hmg hb (by rintro ds d ⟨one, other, e1, e2⟩; subst e1; rfl) ?_;rintro cdv A outer s H Ex Z ds d hr ⟨one, other, e1, e2⟩;subst e1 e2;have nd := h8.nd;have hsz : 1 <= cP one := by have := gf one 0 (show (0 : Int) < 12 by decide); unfold cP; omega
 refine aI 2 cJ rfl ?_ nd;refine aI 3 (d := .int (cP one)) (bX ay (aK dP hr (aw (aa 0) (aw ay (aC ay))) ⟨_, _, _, by decide, rfl, rfl⟩)) rfl ?_ nd;refine aI 4 (d := .int (EV one other)) (aK dP hr (aw (aa 1) (aw ay (aC (aa 3)))) ⟨_, _, _, by omega, rfl, rfl⟩) rfl ?_ nd;refine gK 5 (cY dG) rfl ?_ nd;refine cj 6 (ds := bE 0 4) (fun n r => ∃ o6 o7 o8 o9, r = [some (.pl false (.int one)), some (.pl false (.int other)), some (.pl true (.str lM)), some (.pl true (.int (cP one))), some (.pl true (.int (EV one other))), some (.ow true (((List.range n).map fun k => fx one other (0 + (k : Nat))).map D.str)), o6, o7, o8, o9] /\ n <= 4)
  (fF (n := 4) (m := true) ay (by decide) (by decide) B.range) (fun d hd => by obtain ⟨i, _, rfl⟩ := mem_map.mp hd; rfl) ⟨_, _, _, _, rfl, by decide⟩ (by rintro n r ⟨_, _, _, _, e, _⟩; subst e; simp) ?_ ?_ nd
 . rintro n d r hd ⟨o6, o7, o8, o9, e, hn⟩;subst e;obtain ⟨hn4, rfl⟩ := eC hd;refine aI 7 cJ rfl ?_ nd;refine cj 8 (ds := bE 0 12) (fun m r => ∃ o8 o9, r = [some (.pl false (.int one)), some (.pl false (.int other)), some (.pl true (.str lM)), some (.pl true (.int (cP one))), some (.pl true (.int (EV one other))), some (.ow true (((List.range n).map fun k => fx one other (0 + (k : Nat))).map D.str)), some (.pl true (.int (0 + (n : Nat)))), some (.pl true (.str (cQ one other (0 + (n : Nat)) m))), o8, o9] /\ m <= 12)
    (fF (n := 12) (m := true) ay (by decide) (by decide) B.range) (fun d hd => by obtain ⟨i, _, rfl⟩ := mem_map.mp hd; rfl) ⟨_, _, rfl, by decide⟩ (by rintro n r ⟨_, _, e, _⟩; subst e; simp) (fun m d r hd ⟨o8, o9, e, hm⟩ => ?_) (fun r ⟨o8, o9, e, hm⟩ => ?_) nd
   . subst e;obtain ⟨hm12, rfl⟩ := eC hd;refine aI 9 (aK dP hr (aw (aa 0) (aw (bX (aa 8) ay) (aC ay))) ⟨_, _, _, by decide, rfl, rfl⟩) rfl ?_ nd;have hlen := gg one other (0 + (n : Nat)) m;refine Af [some (.pl false (.int one)), some (.pl false (.int other)), some (.pl true (.str lM)), some (.pl true (.int (cP one))), some (.pl true (.int (EV one other))), some (.ow true (((List.range n).map fun k => fx one other (0 + (k : Nat))).map D.str)), some (.pl true (.int (0 + (n : Nat)))), some (.pl true (.str (cQ one other (0 + (n : Nat)) m))), some (.pl true (.int (0 + (m : Nat)))), some (.pl true (.int (tV one other (0 + (n : Nat)) (0 + (m : Nat)))))]
      (TW.t (i0 (uI (aa 8) (aa 4)) fun _ => jS (uI (aK dP hr (aw (aa 1) (aw ay (aC ay))) ⟨_, _, _, by decide, rfl, rfl⟩) ay))) (fun h => ?_) (fun h => ?_) ?_
     . refine aI 9 (bX (aa 9) (aa 6)) rfl ?_ nd;refine aB ?_;simp at h;unfold tV;rw [if_pos (by simpa using h)];rfl
     . refine aB ?_;unfold tV;rw [if_neg (by simpa using h)];rfl
     . refine aI 7 (tG (aa 7) (FT (aa 2) (mC (aa 9) ay (by decide)) (by decide +kernel) (AF _)) (d8 (by show _ + 1 <= 1000; omega))) rfl ?_ nd;refine aB ⟨some (.pl true (.int (0 + (m : Nat)))), some (.pl true (.int (tV one other (0 + (n : Nat)) (0 + (m : Nat))))), ?_, hm12⟩;rw [ue];rfl
   . subst e;have hlen := gg one other (0 + (n : Nat)) (bE 0 12).length;have h12 : (bE 0 12).length = 12 := bP;rw [h12] at hlen;have nx : ∀ (l : Int), l = (if part other 20 2 = 0 then cP one else 1 + (cP one + (0 + (n : Nat))) % 12) -> ((List.range n).map fun k => fx one other (0 + (k : Nat))).map D.str ++ [D.str (Txt.slice (cQ one other (0 + (n : Nat)) 12) none (some l))] = ((List.range (n + 1)).map fun k => fx one other (0 + (k : Nat))).map D.str := fun l hl => by
      rw [range_succ, map_append, map_append, hl]; rfl
     refine ig (uI (aK dP hr (aw (aa 1) (aw ay (aC ay))) ⟨_, _, _, by decide, rfl, rfl⟩) ay) (fun h => ?_) (fun h => ?_)
     . refine cn 5 true rfl (Cy (aa 7) g7 (bT (aa 3)) (d8 (by rw [h12, hlen]; decide))) rfl (by simp; omega) ?_;refine aB (aB ⟨some (.pl true (.int (0 + (n : Nat)))), some (.pl true (.str (cQ one other (0 + (n : Nat)) 12))), o8, o9, ?_, hn4⟩);rw [h12, <- nx _ (by simp at h; rw [if_pos h])];rfl
     . refine cn 5 true rfl (Cy (aa 7) g7 (bT (bX ay (mC (bX (aa 3) (aa 6)) ay (by decide)))) (d8 (by rw [h12, hlen]; decide))) rfl (by simp; omega) ?_;refine aB (aB ⟨some (.pl true (.int (0 + (n : Nat)))), some (.pl true (.str (cQ one other (0 + (n : Nat)) 12))), o8, o9, ?_, hn4⟩);rw [h12, <- nx _ (by simp at h; rw [if_neg h])];rfl
 . rintro r ⟨o6, o7, o8, o9, e, hn⟩;subst e;have h4 : (bE 0 4).length = 4 := bP;refine aY true (E.cast (aa 5) ?_) rfl;rw [h4];rfl
theorem sD (Fx : gr K "words_in" "words_in" gJ f fd) (hmg : mg "words_in" = some (.ref f)) (hb : Binds K fd ["part"] []) (B : jW mg) : Def P w K mg base 1 "words_in" true qJ := by
 refine bJ Fx jo hmg hb (by rintro ds d ⟨z, h1, h2, e1, e2⟩; subst e1; rfl) ?_;rintro cdv A outer s H Ex Z ds d hr ⟨z, h1, h2, e1, e2⟩;subst e1 e2;have nd := jo.nd;obtain ⟨t, hW⟩ := B.WORD_SIGNS;have hl := xg h2;have hcl : (cl (Txt.lower z)).length <= 2000 := by rw [bZ, hl]; exact h1
 refine aI 1 (d := .str (Txt.join "" ((cl (Txt.lower z)).map fun c => if gO c then (⟨#[c]⟩ : Str) else " "))) (C3 cJ (zs := (cl (Txt.lower z)).map fun c => if gO c then (⟨#[c]⟩ : Str) else " ") (E.cast
  (xw (m := true) (me := true) [] [] (fun d => match d with | .str x => .str (if (!(Builtin.Str.occurrences lM x 0 lM.length 1).isEmpty) then x else " ") | d => d) (DU (m := true) (Au (aa 0) (by omega)))
   (fun C s H fp d hd => ?_) (by simp [iZ]; exact fE (Nat.le_trans (by simpa [cl] using hcl) (by decide)))) ?_) (by decide) ?_) rfl ?_ nd
 . obtain ⟨c, _, rfl⟩ := mem_map.mp hd;refine vo (Ft (aa 0) (Ds hW)) (fun h => ?_) (fun h => ?_)
   . refine E.flat (E.cast (aa 0) ?_) rfl;have h' : (!(Builtin.Str.occurrences lM ⟨#[c]⟩ 0 lM.length 1).isEmpty) = true := h;simp [h']
   . refine E.cast cJ ?_;have h' : (!(Builtin.Str.occurrences lM ⟨#[c]⟩ 0 lM.length 1).isEmpty) = false := h;simp [h']
 . rw [iZ, map_map, map_map];congr 1;apply map_congr_left;intro c _;simp only [Function.comp, FR]
 . have e : (((cl (Txt.lower z)).map fun c => if gO c then (⟨#[c]⟩ : Str) else " ").map (·.length)).sum = (cl (Txt.lower z)).length := by
    rw [map_map];refine qZ _ _ fun c => ?_;simp only [Function.comp];split <;> rfl
   rw [e, length_map]; omega
 . have hlen : (Txt.join "" ((cl (Txt.lower z)).map fun c => if gO c then (⟨#[c]⟩ : Str) else " ")).length <= 2000 := by
    rw [<- bZ, C0, length_map]; exact hcl
   refine aY true (yn (aa 1) (fE (Nat.le_trans hlen (by decide))) (uG (wQ _) (by omega))) rfl
theorem tI (Fx : gr K "rows_of" "rows_of" i5 f fd) (hmg : mg "rows_of" = some (.ref f)) (hb : Binds K fd ["text"] []) (B : jW mg) (dW : Def P w K mg base 1 "words_in" true qJ) : Def P w K mg base 2 "rows_of" true u3 := by
 refine bJ Fx j9 hmg hb (by rintro ds d ⟨z, h1, h2, e1, e2⟩; subst e1; rfl) ?_;rintro cdv A outer s H Ex Z ds d hr ⟨z, h1, h2, e1, e2⟩;subst e1 e2;have nd := j9.nd;have hsp := oM z;refine rz 1 (d := aQ ((Txt.split z "\n").map cO)) (EC.cast (C8 (m := true) (me := true) [] [] (fun d => match d with | .str x => ae (cO x) | d => d) (cE (ye (aa 0) cJ rfl (fE (by omega)) (uG (xi z "\n") (by omega))))
  (fun C s H fp d hd => ?_) (by rw [length_map]; exact fE (by omega))) (by simp [aQ, Function.comp_def])) ?_ nd
 . obtain ⟨x, hx, rfl⟩ := mem_map.mp hd;have hp := zH hx;refine aK dW hr (aC (aa 0)) ⟨x, ?_, fun c hc => h2 c (et hp hc), rfl, rfl⟩;have := cA 10 (cl z) _ hp;rw [bZ, bZ] at this;omega
 . refine aY true (E.cast (yg (m := false) (me := false) [] [] (fun d => !aJ d (.lst [])) (fun d => d) (cE (aa 1)) (fun C s H fp d hd => ?_) (fun C s H fp d hd _ => aa 0) (by rw [length_map, length_map]; exact fE (by omega))) ?_) rfl
   . obtain ⟨r, _, rfl⟩ := mem_map.mp hd;exact xq (CW (aa 0) (FE dG) rfl (kj hr (kE _)))
   . simp only [List.map_id'];unfold aQ dr;rw [filter_map];congr 2;apply List.filter_congr;intro r _;have := iN r [];simp only [Function.comp];rw [show (D.lst [] : D) = ae [] from rfl, this]
theorem nv (Fx : gr K "end_of" "end_of" lh f fd) (hmg : mg "end_of" = some (.ref f)) (hb : Binds K fd ["rows", "place"] []) (B : jW mg) : Def P w K mg base 1 "end_of" true wG := by
 refine bJ Fx vL hmg hb (by rintro ds d ⟨rows, p, hp, e1, e2⟩; subst e1; rfl) ?_;rintro cdv A outer s H Ex Z ds d hr ⟨rows, p, hp, e1, e2⟩;subst e1 e2;refine aY false (E.cast (kr (m := true) (ds := (rows.getD p.1 []).map D.str) (bz (aa 0) (cG (d := .int p.1) (aa 1) ay rfl) (aX ?_)) (bT (cG (d := .int p.2) (aa 1) ay rfl)) g7 ?_) ?_) rfl
 . simp [hp, ae]
 . intro _;exact .inr (fV (cq _))
 . rw [zR];simp [ae, endAt]
theorem oQ (Fx : gr K "in_common" "in_common" fu f fd) (hmg : mg "in_common" = some (.ref f)) (hb : Binds K fd ["one", "other"] []) (B : jW mg) : Def P w K mg base 1 "in_common" true uM := by
 refine bJ Fx iE hmg hb (by rintro ds d ⟨a, b, e1, e2⟩; subst e1; rfl) ?_;rintro cdv A outer s H Ex Z ds d hr ⟨a, b, e1, e2⟩;subst e1 e2;have nd := iE.nd;refine aI 2 ay rfl ?_ nd;refine jP 3 4 false (ds := oY (a.map D.str) (b.map D.str)) (fun n r => (∃ o3 o4, r = [some (.pl false (ae a)), some (.pl false (ae b)), some (.pl true (.int (n : Nat))), o3, o4]) /\ n <= a.length /\ n <= b.length /\ a.take n = b.take n)
  (yS (aa 0) (aa 1) B.zip) ⟨⟨_, _, rfl⟩, by omega, by omega, by simp⟩ (fun n r ⟨⟨_, _, e⟩, _⟩ => by subst e; simp) (fun d hd => by
   obtain ⟨i, _, rfl⟩ := mem_map.mp hd;exact ⟨_, _, rfl⟩) (fun n d1 d2 r hd ⟨⟨o3, o4, e⟩, h1, h2, h3⟩ => ?_) (fun r ⟨⟨o3, o4, e⟩, h1, h2, h3⟩ => ?_) nd
 . subst e;obtain ⟨x1, x2, g1, g2, e⟩ := qV hd;cases e;rw [getElem?_map] at g1 g2
   cases ha : a[n]? with
   | none => rw [ha] at g1; cases g1
   | some x =>
    cases hb' : b[n]? with
    | none => rw [hb'] at g2; cases g2
    | some y =>
     rw [ha] at g1;rw [hb'] at g2;cases g1;cases g2;have hna := (List.getElem?_eq_some_iff.mp ha).1;have hnb := (List.getElem?_eq_some_iff.mp hb').1;refine ig (CF (aa 3) (aa 4)) (fun h => ?_) (fun h => aB ?_)
     . refine aY true (E.cast (aa 2) ?_) rfl;simp at h;rw [vn h1 h2 h3 (.inr (.inr ⟨x, y, ha, hb', h⟩))]
     . simp at h;refine aI 2 (bX (aa 2) ay) rfl ?_ nd;refine aB ⟨⟨some (.pl false (.str x)), some (.pl false (.str y)), ?_⟩, hna, hnb, pM h3 (by rw [ha, hb', h])⟩;rfl
 . subst e;refine aY true (E.cast (aa 2) ?_) rfl;rw [kB, length_map, length_map] at h1 h2 h3 ⊢;rw [vn h1 h2 h3 (by omega)]
theorem wI (Fx : gr K "shares" "shares" kT f fd) (hmg : mg "shares" = some (.ref f)) (hb : Binds K fd ["rows", "places"] []) (B : jW mg) (dE : Def P w K mg base 1 "end_of" true wG) (dC : Def P w K mg base 1 "in_common" true uM) : Def P w K mg base 2 "shares" true uW := by
 refine bJ Fx mK hmg hb (by rintro ds d ⟨rows, ps, h1, h2, e1, e2⟩; subst e1; rfl) ?_;rintro cdv A outer s H Ex Z ds d hr ⟨rows, ps, h1, h2, e1, e2⟩;subst e1 e2;have nd := mK.nd;refine gK 2 (cY dG) rfl ?_ nd;refine dY 3 (d := ae []) (cY dG) ?_ nd;refine cj 4 (ds := ps.map bK) (fun n r => (∃ o4 o5, r = [some (.pl false (aQ rows)), some (.pl false (cT ps)), some (.ow true ((kN rows (ps.take n)).map fun n => .int (n : Nat))), some (.pl true (ae (iC rows (ps.take n)))), o4, o5]))
  (cE (aa 1)) (fun d hd => by obtain ⟨p, _, rfl⟩ := mem_map.mp hd; rfl) ⟨_, _, rfl⟩ (by rintro n r ⟨_, _, e⟩; subst e; simp) ?_ ?_ nd
 . rintro n d r hd ⟨o4, o5, e⟩;subst e;rw [getElem?_map] at hd
   cases hp : ps[n]? with
   | none => rw [hp] at hd; cases hd
   | some p =>
    rw [hp] at hd;cases hd;have hn := (List.getElem?_eq_some_iff.mp hp).1;have hpo := h1 p (mem_of_getElem? hp);have ht : ps.take (n + 1) = ps.take n ++ [p] := by rw [take_add_one, hp]; rfl
    refine dY 5 (d := ae (endAt rows p)) (aK dE hr (aw (aa 0) (aC (aa 4))) ⟨rows, p, hpo, rfl, rfl⟩) ?_ nd;refine cn 2 true rfl (aK dC hr (aw (aa 3) (aC (aa 5))) ⟨_, _, rfl, rfl⟩) rfl (by rw [length_map, hE, length_take]; omega) ?_;refine oy 3 true (d := ae (endAt rows p)) (aa 5) ?_ nd;refine aB ⟨some (.pl true (bK p)), some (.pl true (ae (endAt rows p))), ?_⟩;rw [ht, yR, kI, map_append];rfl
 . rintro r ⟨o4, o5, e⟩;subst e;refine aY true (E.cast (aa 2) ?_) rfl;rw [length_map, take_length];rfl
theorem mf (Fx : gr K "all_places" "all_places" eP f fd) (hmg : mg "all_places" = some (.ref f)) (hb : Binds K fd ["rows"] []) (B : jW mg) : Def P w K mg base 1 "all_places" true E9 := by
 refine bJ Fx gx hmg hb (by rintro ds d ⟨rows, ht, e1, e2⟩; subst e1; rfl) ?_;rintro cdv A outer s H Ex Z ds d hr ⟨rows, ht, e1, e2⟩;subst e1 e2;have nd := gx.nd;refine gK 1 (cY dG) rfl ?_ nd;refine jP 2 3 false (ds := m6 (rows.map ae)) (fun n r => ∃ o2 o3 o4, r = [some (.pl false (aQ rows)), some (.ow true ((cz rows n).map bK)), o2, o3, o4])
  (AS (aa 0) B.enumerate) ⟨_, _, _, rfl⟩ (by rintro n r ⟨_, _, _, e⟩; subst e; simp) (fun d hd => by
   obtain ⟨i, _, rfl⟩ := mem_map.mp hd;exact ⟨_, _, rfl⟩) (fun n d1 d2 r hd ⟨o2, o3, o4, e⟩ => ?_) (fun r ⟨o2, o3, o4, e⟩ => ?_) nd
 . subst e;obtain ⟨d', hd', e⟩ := nc hd;cases e;rw [getElem?_map] at hd'
   cases hrow : rows[n]? with
   | none => rw [hrow] at hd'; cases hd'
   | some row =>
    rw [hrow] at hd';cases hd';have hrl : row.length <= h9 rows := by have := gc hrow row.length (Nat.le_refl _); omega
    refine cj 4 (ds := bE 0 (row.map D.str).length) (fun m r => ∃ o4, r = [some (.pl false (aQ rows)), some (.ow true ((cz rows n ++ (List.range m).map fun a => (n, a)).map bK)), some (.pl false (.int (n : Nat))), some (.pl false (ae row)), o4] /\ m <= row.length)
     (fF (n := ((row.map D.str).length : Int)) (m := true) (cK (aa 3) B.len) (by rw [length_map]; omega) (by omega) B.range) eG ⟨o4, by simp, by omega⟩ (by rintro n r ⟨_, e, _⟩; subst e; simp) (fun m d r hd ⟨o4, e, hm⟩ => ?_) (fun r ⟨o4, e, hm⟩ => ?_) nd
    . subst e;obtain ⟨hm2, rfl⟩ := d4 hd;rw [length_map] at hm2;have hlen := gc hrow m hm;refine cn 1 true rfl (mw (aw (aa 2) (aC (aa 4)))) rfl (by simp; omega) ?_;refine aB ⟨some (.pl true (.int (m : Nat))), ?_, hm2⟩;rw [range_succ];simp [bK, List.set]
    . subst e;refine aB ⟨some (.pl false (.int (n : Nat))), some (.pl false (ae row)), o4, ?_⟩;rw [eR, bP, length_map];simp [hrow]
 . subst e;refine aY true (E.cast (aa 1) ?_) rfl;rw [m8, length_map];rfl
theorem rm (Fx : gr K "order_of" "order_of" gM f fd) (hmg : mg "order_of" = some (.ref f)) (hb : Binds K fd ["rows", "place"] []) (B : jW mg) (dE : Def P w K mg base 1 "end_of" true wG) : Def P w K mg base 2 "order_of" false x9 := by
 refine bJ Fx qz hmg hb (by rintro ds d ⟨rows, p, hp, e1, e2⟩; subst e1; rfl) ?_;rintro cdv A outer s H Ex Z ds d hr ⟨rows, p, hp, e1, e2⟩;subst e1 e2;exact aY false (mw (aw (aK dE hr (aw (aa 0) (aC (aa 1))) ⟨rows, p, hp, rfl, rfl⟩) (aC (aa 1)))) rfl
theorem Bl {f c Pt : Addr} {fd : FuncData} (Fx : sW K "ends" "ends" n9 f fd c) (LK : oX K mg base c Pt "ends.<locals>.<lambda>") (hmg : mg "ends" = some (.ref f)) (hb : Binds K fd ["rows"] []) (B : jW mg) (dA : Def P w K mg base 1 "all_places" true E9) (dO : Def P w K mg base 2 "order_of" false x9) : Def P w K mg base 6 "ends" true CB := by
 refine vd Fx Bz hmg hb (by rintro ds d ⟨rows, ht, e1, e2⟩; subst e1; rfl) fun A outer s H Ex Z ds d hr ⟨rows, ht, e1, e2⟩ => ?_;subst e1 e2;refine aY false (vT (ds := (bx rows).map bK) (g := vA rows) (P := uy) (P0 := fun d => ∃ p, d = bK p /\ p.1 < rows.length) (caps := [("rows", 0)]) (pn := "place") (c := c) (Pt := Pt) (qn := "ends.<locals>.<lambda>") (clos := [("rows", s.heap.objs.size + 1)]) (m1 := true) (mb := false) (aK dA (hr.mono (by decide)) (aC (aa 0)) ⟨rows, by omega, rfl, rfl⟩) ?LC ?LO ?cl ?body ?b jI kind_ord ?P ?inj ?len ?hh ?room ?m) rfl
 case LC => exact oX.cx LK rfl rfl
 case LO =>
  refine ⟨rfl, rfl, rfl, by decide +kernel, rfl, fun q hq => ?_, fun x c h => h, fun x hx => ?_⟩
  . have : q = (("rows" : Str), 0) := by simpa using hq
    subst this;exact ⟨rfl, rfl, rfl, rfl⟩
  . have h := (by decide +kernel : ∀ q ∈ yd n9, q.2 = NameKind.free -> q.1 = ("rows" : Str)) _ (PySem.mem_of_lookup hx) rfl;have h' : x = ("rows" : Str) := h;subst h';exact ⟨_, rfl⟩
 case cl => rfl
 case b => exact fun _ _ _ _ => rfl
 case body =>
  rintro f' c' s' H' R d ⟨p, rfl, hp⟩;rw [gm];exact aK dO (k := 2) (((hr.in1).in1).deeper _) (aw (aa 1) (aC (aa 0))) ⟨rows, p, hp, rfl, rfl⟩
 case P =>
  intro d hd;obtain ⟨p, hp, rfl⟩ := mem_map.mp hd;rw [gm];exact ⟨⟨p, rfl, kQ hp⟩, ⟨_, p, rfl⟩, vD hr⟩
 case inj =>
  intro x hx y hy e;obtain ⟨p, _, rfl⟩ := mem_map.mp hx;obtain ⟨q, _, rfl⟩ := mem_map.mp hy;rw [gm, gm] at e;simp only [iq] at e;injection e with e;injection e with _ e;injection e with e _
 case len => rw [length_map, iG]; exact ht
 case hh => exact hr.hd
 case room => exact hr.depth
 case m => exact B.sorted
def mW (st : Stmt) (n : Nat) : List (Str × NameKind) := match ((bb st)[n]? : Option Stmt) with
 | some (.Assign _ (.Call _ [_, _, .Lambda _ _ sc _] _ _) _) => sc.names
 | _ => []
theorem e8 {f fl c : Addr} {fd : FuncData} (Fx : gr K "first_behind" "first_behind" cB f fd) (B : jW mg) (dE : Def P w K mg base 1 "end_of" true wG)
 {qn pn : Str} {params : Arguments} {lb : Expr} {scope : Scope} {clos : List (Str × Addr)} {pm ctv : Value} {capsv : List (Str × V)} {dcs : List D} (gb : List Str -> Bool) (L : zA base scope clos pn capsv)
 (hbd : ∀ u, bindArgs (PySem.W.kla_fn "<lambda>" qn params lb scope clos pm (.ref c) ctv) ⟨[u], []⟩ = pure [(pn, u)])
 (hbody : ∀ (X0 : Cx) (s : Shared) (H : Hp) (R : Ic) (e : Ie), X0.mg = mg -> bt 2 X0.A -> E (dN X0 X0.A (pn :: capsv.map (·.1)) qn scope clos fl c s H R) false (some (ae e) :: dcs.map some) lb (.bl (gb e)))
 (rows : HQ) (ps : HS) (hp : BS rows ps) (mono : sI rows ps gb) :
 eB P w K mg base lP 3 f fd ["rows", "places", "is_ahead"] (GW K fl (rR K dcs (capsv.map (·.2)) fl c qn params lb scope clos pm ctv) true [aQ rows, cT ps] (.int ((ps.countP fun p => gb (endAt rows p) : Nat) : Int))) := by
 refine HF Fx e7 rfl (by simp) fun cdv A outer s H Ex Z hr gd => ?_;have nd := e7.nd;have kk : ∀ (X : Cx), X.base = base -> X.mg = mg -> X.K = K -> bt 2 X.A -> ∀ σ, sU X X.A σ fl (fun d => .bl (gb (strsOf d))) (fun d => ∃ e, d = ae e) (rR X.K dcs (capsv.map (·.2)) fl c qn params lb scope clos pm ctv) := fun X e1 e2 e3 hr σ =>
  xf (m := false) (e1 ▸ L) hr.hd rfl hr.depth hbd fun s' H' R d ⟨e, he⟩ => by
   subst he;rw [jd];exact hbody X s' H' R e e2 hr
 refine aI 3 ay rfl ?_ nd;refine aI 4 (cK (ds := ps.map bK) (aa 1) B.len) rfl ?_ nd;refine lu (fun r => ∃ (lo hi : Nat) (o5 : Option Slot), r = [some (.pl false (aQ rows)), some (.pl false (cT ps)), some (.rf (.ref fl)), some (.pl true (.int (lo : Int))), some (.pl true (.int (hi : Int))), o5] /\ lo <= hi /\ hi <= ps.length /\ (∀ i, i < lo -> gb (endAt rows (ps.getD i (0, 0))) = true) /\ (∀ i, hi <= i -> i < ps.length -> gb (endAt rows (ps.getD i (0, 0))) = false))
  (fun r => (hX r 4 - hX r 3).toNat) (fun r => decide (hX r 3 < hX r 4)) ⟨0, ps.length, none, by simp [ku, cF, length_map], by omega, by omega, fun i hi => absurd hi (by omega), fun i h1 h2 => absurd h1 (by omega)⟩ (by rintro r ⟨lo, hi, o5, e, _⟩; subst e; rfl) (fun r ⟨lo, hi, o5, e, _⟩ => ?_) (fun r ⟨lo, hi, o5, e, h1, h2, h3, h4⟩ hb => ?_) (fun r ⟨lo, hi, o5, e, h1, h2, h3, h4⟩ hb => ?_)
 . subst e;exact mV (aa 3) (aa 4)
 . subst e;have hlt : lo < hi := by
    have z : decide ((lo : Int) < (hi : Int)) = true := hb;have := of_decide_eq_true z;omega
   refine aI 5 (Dd (bX (aa 3) (aa 4)) ay ⟨by decide, by decide⟩) rfl ?_ nd;obtain ⟨mid, hm⟩ : ∃ mid : Nat, ((lo : Int) + (hi : Int)) / 2 = (mid : Int) := ⟨(lo + hi) / 2, by omega⟩
   have m1 : lo <= mid := by omega
   have m2 : mid < hi := by omega
   rw [hm];have ml : mid < ps.length := by omega
   have g0 := By (ps := ps) (n := mid) ml;refine Eg (i := 2) (f := fl) (b := gb (endAt rows (ps.getD mid (0, 0)))) (d := ae (endAt rows (ps.getD mid (0, 0)))) rfl (aK dE (hr.mono (by decide)) (aw (aa 0) (aC (bz (d := bK (ps.getD mid (0, 0))) (aa 1) (aa 5) (eJ (by omega) (by rw [show ((mid : Nat) : Int).toNat = mid by omega]; exact g0))))) ⟨rows, _, hp _ (getD_mem ml), rfl, rfl⟩)
    (kk _ rfl rfl rfl hr) ⟨_, rfl⟩ (by rw [jd]) gd (fun h => ?_) (fun h => ?_)
   . refine aI 3 (bX (aa 5) ay) rfl (aB (aB ⟨⟨mid + 1, hi, _, rfl, by omega, h2, fun i hi' => ?_, h4⟩, ?_⟩)) nd
     . by_cases e : i = mid
       . rw [e]; exact h
       . exact mono i mid (by omega) ml h
     . show ((hi : Int) - ((mid : Int) + 1)).toNat < ((hi : Int) - (lo : Int)).toNat;omega
   . refine aI 4 (aa 5) rfl (aB (aB ⟨⟨lo, mid, _, rfl, m1, by omega, h3, fun i h5 h6 => ?_⟩, ?_⟩)) nd
     . by_cases e : i = mid
       . rw [e]; exact h
       . cases q : gb (endAt rows (ps.getD i (0, 0))) with
         | false => rfl
         | true => rw [mono mid i (by omega) h6 q] at h; cases h
     . show ((mid : Int) - (lo : Int)).toNat < ((hi : Int) - (lo : Int)).toNat;omega
 . subst e;have hge : lo = hi := by
    have z : decide ((lo : Int) < (hi : Int)) = false := hb;have := of_decide_eq_false z;omega
   refine aY true (E.cast (aa 3) ?_) rfl;rw [count_at (x := (0, 0)) ps lo (by omega) (fun i hi' => h3 i hi') fun i h5 h6 => h4 i (by omega) h6]
theorem lR {f c Pt ff : Addr} {fd ffd : FuncData} (Fx : sW K "stretch_of" "stretch_of" cC f fd c) (LK : oX K mg base c Pt "stretch_of.<locals>.<lambda>") (hmg : mg "stretch_of" = some (.ref f)) (hb : Binds K fd ["rows", "places", "words"] []) (B : jW mg)
 (Ff : gr K "first_behind" "first_behind" cB ff ffd) (af : mg "first_behind" = some (.ref ff)) (bf : Binds K ffd ["rows", "places", "is_ahead"] []) (dE : ∀ base' : Heap, Def P w K mg base' 1 "end_of" true wG) : Def P w K mg base 4 "stretch_of" true mN := by
 refine vd Fx gu hmg hb (by rintro ds d ⟨rows, ws, e1, e2⟩; subst e1; rfl) fun A outer s H Ex Z ds d hr ⟨rows, ws, e1, e2⟩ => ?_;subst e1 e2;have nd := gu.nd;have hpl : BS rows (ab rows) := fun p hp => kQ (qL rows p hp);refine aI 3 (d := .int ((cS rows (ab rows) ws : Nat) : Int)) (u5 (m := true) (c := c) (Pt := Pt) (qn := "stretch_of.<locals>.<lambda>") (pn := "end") (caps := [("words", 2)]) (clos := [("words", s.heap.objs.size + 1)]) (dcs := [ae ws]) (da := aQ rows) (db := cT (ab rows)) (p1 := "rows") (p2 := "places") (p3 := "is_ahead") (fd := ffd) (fa := ff) (k := 3) (aa 0) (aa 1) ?LC ?LO ?cl ?cap ?fn ?lk ?F hr af Ff.kp bf) rfl ?_ nd
 case LC => exact oX.cx LK rfl rfl
 case LO =>
  refine ⟨rfl, rfl, rfl, by decide +kernel, rfl, fun q hq => ?_, fun x c h => h, fun x hx => ?_⟩
  . have : q = (("words" : Str), 2) := by simpa using hq
    subst this;exact ⟨rfl, rfl, rfl, rfl⟩
  . have h := (by decide +kernel : ∀ q ∈ mW cC 0, q.2 = NameKind.free -> q.1 = ("words" : Str)) _ (PySem.mem_of_lookup hx) rfl;have h' : x = ("words" : Str) := h;subst h';exact ⟨_, rfl⟩
 case cl => rfl
 case cap => rfl
 case fn => exact fun _ _ _ => rfl
 case lk =>
  intro q hq;have : q = (("words" : Str), s.heap.objs.size + 1) := by simpa using hq
  subst this;simp
 case F =>
  intro base' capsv f' c' pm ctv hcap C;refine e8 (base := base') Ff B (dE base') (fun e => slt e ws) C (fun u => rfl) (fun X0 s' H' R e hm hr' => ?_) rows (ab rows) hpl (se rows ws);rw [hcap];refine E.yH (FD (aa 0) (aa 1) (ri _ _) (kj (hr'.deeper _) (kE _)))
 refine aI 4 (d := .int ((cS rows (ab rows) ws + manyN rows (ab rows) ws : Nat) : Int)) (u5 (m := true) (c := c) (Pt := Pt) (qn := "stretch_of.<locals>.<lambda>") (pn := "end") (caps := [("words", 2)]) (clos := [("words", s.heap.objs.size + 1)]) (dcs := [ae ws]) (da := aQ rows) (db := cT (ab rows)) (p1 := "rows") (p2 := "places") (p3 := "is_ahead") (fd := ffd) (fa := ff) (k := 3) (aa 0) (aa 1) ?LC ?LO ?cl ?cap ?fn ?lk ?F hr af Ff.kp bf) rfl ?_ nd
 case LC => exact oX.cx LK rfl rfl
 case LO =>
  refine ⟨rfl, rfl, rfl, by decide +kernel, rfl, fun q hq => ?_, fun x c h => h, fun x hx => ?_⟩
  . have : q = (("words" : Str), 2) := by simpa using hq
    subst this;exact ⟨rfl, rfl, rfl, rfl⟩
  . have h := (by decide +kernel : ∀ q ∈ mW cC 1, q.2 = NameKind.free -> q.1 = ("words" : Str)) _ (PySem.mem_of_lookup hx) rfl;have h' : x = ("words" : Str) := h;subst h';exact ⟨_, rfl⟩
 case cl => rfl
 case cap => rfl
 case fn => exact fun _ _ _ => rfl
 case lk =>
  intro q hq;have : q = (("words" : Str), s.heap.objs.size + 1) := by simpa using hq
  subst this;simp
 case F =>
  intro base' capsv f' c' pm ctv hcap C;rw [<- uA];refine e8 (base := base') Ff B (dE base') (fun e => aP .le (ae (e.take ws.length)) (ae ws)) C (fun u => rfl) (fun X0 s' H' R e hm hr' => ?_) rows (ab rows) hpl (rH rows ws);rw [hcap];have hlen : X0.mg "len" = none := by rw [hm]; exact B.len
  refine E.yH (E.cast (EW (d := ae (e.take ws.length)) (E.cast (kr (m := false) (ds := e.map D.str) (aa 0) g7 (bT (cK (ds := ws.map D.str) (aa 1) hlen))) ?_) (aa 1) (ri _ _) (kj (hr'.deeper _) (kE _))) rfl);rw [length_map, y8];simp [ae]
 exact aY true (mw (aw (aa 3) (aC (aa 4)))) rfl
end
theorem Di {k : Nat} {A : Around} {d : D} (r : bt k A) (h : d.dep <= 1) : A.units + 2 + d.dep < cLine := by have := r.un; omega
theorem FX {k : Nat} {A : Around} (r : bt k A) : A.units + 8 < cLine := by have := r.un; omega
section
variable {P : Program} {w : World} {K : Frag} {mg : HV} {base : Heap} {f : Addr} {fd : FuncData}
theorem lU (Fx : gr K "word_ahead" "word_ahead" eM f fd) (hmg : mg "word_ahead" = some (.ref f)) (hb : Binds K fd ["rows", "place"] []) (B : jW mg) : Def P w K mg base 1 "word_ahead" true FN := by
 refine bJ Fx lX hmg hb (by rintro ds d ⟨rows, p, h1, h2, e1, e2⟩; subst e1; rfl) ?_;rintro cdv A outer s H Ex Z ds d hr ⟨rows, p, h1, h2, e1, e2⟩;subst e1 e2;have at1 : (rows.map ae)[p.1]? = some (ae (rows.getD p.1 [])) := by simp [h1]
 refine aY false (E.flat (m := true) (vo (m := false) (CN (cG (i := 1) (d := .int (p.2 : Nat)) (aa 1) ay rfl) ay) (fun h => ?_) (fun h => ?_)) rfl) rfl
 . have h0 : 0 < p.2 := by simpa using h
   have e : pZ rows p = (rows.getD p.1 []).getD (p.2 - 1) "" := by unfold pZ; rw [if_pos h0]
   rw [e];refine E.flat (bz (bz (aa 0) (cG (i := 0) (d := .int (p.1 : Nat)) (aa 1) ay rfl) (aX at1)) (i8 (cG (i := 1) (d := .int (p.2 : Nat)) (aa 1) ay rfl) ay) ?_) rfl;rw [show ((p.2 : Nat) : Int) - 1 = ((p.2 - 1 : Nat) : Int) by omega];exact aX (dz (by omega))
 . have h0 : ¬ 0 < p.2 := by simpa using h
   have e : pZ rows p = "" := by unfold pZ; rw [if_neg h0]
   rw [e];exact E.flat cJ rfl
theorem kM (Fx : gr K "is_one_word" "is_one_word" eg f fd) (hmg : mg "is_one_word" = some (.ref f)) (hb : Binds K fd ["words"] []) (B : jW mg) : Def P w K mg base 1 "is_one_word" true rX := by
 refine bJ Fx kW hmg hb (by rintro ds d ⟨ws, h1, h2, e1, e2⟩; subst e1; rfl) ?_;rintro cdv A outer s H Ex Z ds d hr ⟨ws, h1, h2, e1, e2⟩;subst e1 e2;have g0 : gS (ws.map D.str) 0 = some (.str (ws.getD 0 "")) := eJ (by decide) (dz (List.length_pos_iff.mpr h1));refine aY false (E.cast (yp (Fj (bz (aa 0) ay g0) cJ) fun _ => CC (Fu (zQ (ds := ws.map D.str) (aa 0) (bz (aa 0) ay g0) (DN hr (by rw [fS]; decide))) (cK (aa 0) B.len))) ?_) rfl;have e : (fun x : Str => aJ (D.str x) (D.str (ws.getD 0 ""))) = fun x => decide (x = ws.getD 0 "") := funext fun x => by show (x == ws.getD 0 "") = _; rw [Bool.eq_iff_iff, beq_iff_eq, decide_eq_true_iff]
 rw [Bu h1, List.countP_map, length_map, Function.comp_def, e];congr 2
 . rw [decide_not]
 . rw [Bool.eq_iff_iff, decide_eq_true_iff, decide_eq_true_iff];omega
theorem fD (Fx : gr K "parting_stretches" "parting_stretches" bY f fd) (hmg : mg "parting_stretches" = some (.ref f)) (hb : Binds K fd ["rows", "places"] []) (B : jW mg) (dS : Def P w K mg base 2 "shares" true uW) (dE : Def P w K mg base 1 "end_of" true wG) : Def P w K mg base 3 "parting_stretches" true sH := by
 refine bJ Fx cN hmg hb (by rintro ds d ⟨rows, h1, e1, e2⟩; subst e1; rfl) ?_;rintro cdv A outer s H Ex Z ds d hr ⟨rows, h1, e1, e2⟩;subst e1 e2;have nd := cN.nd;have hr2 : bt 2 _ := hr.mono (by decide);have hr1 : bt 1 _ := hr.mono (by decide);have hpl : BS rows (ab rows) := fun p hp => kQ (qL rows p hp);have hel := fX rows;have hfl := mG rows;refine dY 2 (d := C1 (kN rows (ab rows))) (aK dS hr2 (aw (aa 0) (aC (aa 1))) ⟨rows, ab rows, hpl, by omega, rfl, rfl⟩) ?_ nd;have hpair : ∀ d ∈ oY ((ab rows).map bK) ((kN rows (ab rows)).map fun n : Nat => D.int (n : Nat)), ∃ a b, d = .tup [a, b] := fun d hd => by
  obtain ⟨q, _, rfl⟩ := mem_map.mp hd;exact ⟨_, _, rfl⟩
 have inz : ∀ a b, D.tup [a, b] ∈ oY ((ab rows).map bK) ((kN rows (ab rows)).map fun n : Nat => D.int (n : Nat)) -> ∃ (p : Ij) (n : Nat), p ∈ ab rows /\ a = bK p /\ b = .int (n : Nat) := fun a b h => by
  obtain ⟨q, hq, e⟩ := mem_map.mp h;rw [List.zip_map] at hq;obtain ⟨z, hz, rfl⟩ := mem_map.mp hq;injection e with e;injection e with e1 e;injection e with e2 e;exact ⟨z.1, z.2, (List.of_mem_zip hz).1, e1.symm, e2.symm⟩
 refine rz 3 (d := vc (bA rows)) (EC.cast (yc (m := true) (me := true) ["rows"] [0] (fun a b => match b with | .int n => decide (0 < n) | _ => false) (fun a b => match a, b with | .tup [.int r, .int k], .int n => tupS ((endAt rows (r.toNat, k.toNat)).take n.toNat) | _, _ => .non)
  (yS (aa 1) (aa 2) B.zip) hpair (fun C s H fp a b h => ?_) (fun C s H fp a b h hp => ?_) ?_) ?_) ?_ nd
 . obtain ⟨p, n, hp, rfl, rfl⟩ := inz a b h;exact xq (CN (aa 1) ay)
 . clear hp;obtain ⟨p, n, hp, rfl, rfl⟩ := inz a b h;have hp1 := hpl p hp;show E _ _ _ _ (tupS ((endAt rows (((p.1 : Nat) : Int).toNat, ((p.2 : Nat) : Int).toNat)).take ((n : Nat) : Int).toNat));rw [Int.toNat_natCast, Int.toNat_natCast, Int.toNat_natCast];refine E.cast (kx (m1 := true) (ds := cut ((endAt rows p).map D.str) none (some ((n : Nat) : Int))) (kr (m := true) (ds := (endAt rows p).map D.str) (aK dE hr1 (aw (aa 2) (aC (aa 0))) ⟨rows, p, hp1, rfl, rfl⟩) g7 (bT (aa 1)) fun _ => .inr (fV (cq _))) B.tuple) ?_;rw [y8];simp [tupS]
 . rw [kB, length_map];exact Nat.le_trans (Nat.min_le_left _ _) (fE (by omega))
 . unfold vc bA oY;rw [List.zip_map, map_map, filter_map, map_map, map_map];have e1 : (sJ false fun a b => match b with | .int n => decide (0 < n) | _ => false) ∘ ((fun p : D × D => D.tup [p.1, p.2]) ∘ Prod.map bK fun n : Nat => D.int (n : Nat)) = fun q : Ij × Nat => decide (0 < q.2) := funext fun q => by
    show decide ((0 : Int) < (q.2 : Nat)) = decide (0 < q.2);rw [Bool.eq_iff_iff, decide_eq_true_iff, decide_eq_true_iff];omega
   have e2 : (sJ D.non fun a b => match a, b with | .tup [.int r, .int k], .int n => tupS ((endAt rows (r.toNat, k.toNat)).take n.toNat) | _, _ => .non) ∘ ((fun p : D × D => D.tup [p.1, p.2]) ∘ Prod.map bK fun n : Nat => D.int (n : Nat)) = tupS ∘ fun q : Ij × Nat => (endAt rows q.1).take q.2 := funext fun q => by
    show tupS ((endAt rows (((q.1.1 : Nat) : Int).toNat, ((q.1.2 : Nat) : Int).toNat)).take ((q.2 : Nat) : Int).toNat) = tupS ((endAt rows q.1).take q.2);rw [Int.toNat_natCast, Int.toNat_natCast, Int.toNat_natCast]
   rw [e1, e2]
 . refine aY false (E.cast (pC (m := true) (ts := bA rows) (aa 3) fB (by omega) (FX hr) hr.hd B.sorted B.set) (by rw [rW])) rfl
theorem gQ (Fx : gr K "full_stretches" "full_stretches" cM f fd) (hmg : mg "full_stretches" = some (.ref f)) (hb : Binds K fd ["rows"] []) (B : jW mg) (dEn : Def P w K mg base 6 "ends" true CB) (dPa : Def P w K mg base 3 "parting_stretches" true sH) (dSt : Def P w K mg base 4 "stretch_of" true mN) (dOne : Def P w K mg base 1 "is_one_word" true rX) (dAh : Def P w K mg base 1 "word_ahead" true FN) : yf P w K mg base 7 "full_stretches" tY := by
 refine A8 Fx dQ hmg hb (by rintro ds d ⟨rows, h1, h2, e1, e2⟩; subst e1; rfl) ?_;rintro cdv A outer s H Ex Z ds d hr ⟨rows, h1, h2, e1, e2⟩;subst e1 e2;have nd := dQ.nd;have hr6 : bt 6 _ := hr.mono (by decide);have hr4 : bt 4 _ := hr.mono (by decide);have hr3 : bt 3 _ := hr.mono (by decide);have hr1 : bt 1 _ := hr.mono (by decide);have hel := fX rows;have hpn := mH rows;refine dY 1 (d := cT (ab rows)) (E.cast (aK dEn hr6 (aC (aa 0)) ⟨rows, by omega, rfl, rfl⟩) (zx rows)) ?_ nd;refine vq 2 (DX BG) ?_ nd;refine cj 3 (ds := (bI rows).map tupS) (fun n r => ∃ o3 o4 o5, r = [some (.pl false (aQ rows)), some (.pl true (cT (ab rows))), some (.tr (.lst ((mX rows n).map (EH rows)))), o3, o4, o5])
  (cE (aK dPa hr3 (aw (aa 0) (aC (aa 1))) ⟨rows, h1, rfl, rfl⟩)) (fun d hd => by obtain ⟨t, _, rfl⟩ := mem_map.mp hd; exact mM t) ⟨_, _, _, rfl⟩ (by rintro n r ⟨_, _, _, e⟩; subst e; simp) ?_ ?_ nd
 . rintro n d r hd ⟨o3, o4, o5, e⟩;subst e;rw [getElem?_map] at hd
   cases hq : (bI rows)[n]? with
   | none => rw [hq] at hd; cases hd
   | some t =>
    rw [hq] at hd;cases hd;have htm : t ∈ bI rows := mem_of_getElem? hq;have hn := (List.getElem?_eq_some_iff.mp hq).1;have hnx : mX rows (n + 1) = mX rows n ++ (if fG rows t = true then [t] else []) := by
     unfold mX;rw [take_add_one, hq, filter_append]
     cases q : fG rows t with
     | true => simp [List.filter, q]
     | false => simp [List.filter, q]
    refine aI 4 (aK dSt hr4 (aw (aa 0) (aw (aa 1) (aC (BY (m := false) (aa 3) B.list)))) ⟨rows, t, rfl, rfl⟩) rfl ?_ nd;have hml : (((ab rows).drop (cS rows (ab rows) t)).take (manyN rows (ab rows) t)).length <= h9 rows := by rw [(sG rows t).length_eq]; exact gW rows t
    refine vq 5 (d := cT (aL rows t)) (Dq (E.cast (v9 (m := true) (P := zc) (ds := (((ab rows).drop (cS rows (ab rows) t)).take (manyN rows (ab rows) t)).map bK) (E.cast (kr (m := false) (aa 1) (bT (cG (d := .int ((cS rows (ab rows) t : Nat) : Int)) (aa 4) ay rfl)) (bT (cG (d := .int ((cS rows (ab rows) t + manyN rows (ab rows) t : Nat) : Int)) (aa 4) ay rfl))) (by rw [BN])) Bm xP ?hP ?h64 B.sorted (fun _ => .inr (mZ _))) (by rw [zL (sG rows t)])) (mZ _)) ?_ nd
    case hP =>
     intro d hd;obtain ⟨p, _, rfl⟩ := mem_map.mp hd;have e : (bK p).dep <= 1 := by simp [bK, D.dep, bH]
     exact ⟨⟨p, rfl⟩, Di hr e⟩
    case h64 => rw [length_map]; omega
    have hne := xN htm;have hpl := gW rows t;refine ig (xE (CL (aK dOne hr1 (aC (E.cast (xw (m := true) (me := true) ["rows"] [0] (fun d => match d with | .tup [.int r, .int k] => .str (pZ rows (r.toNat, k.toNat)) | d => d) (cE (aa 5)) (fun C s H fp d hd => ?_) (by rw [length_map]; exact fE (by omega))) (show _ = ae ((aL rows t).map (pZ rows)) from ?_))) ⟨(aL rows t).map (pZ rows), by simpa using hne, by rw [length_map]; omega, rfl, rfl⟩))) (fun h => ?_) (fun h => ?_)
    . obtain ⟨p, hp, rfl⟩ := mem_map.mp hd;obtain ⟨hp1, hp2⟩ := cb (eW.mp hp).1;show E _ _ _ _ (.str (pZ rows (((p.1 : Nat) : Int).toNat, ((p.2 : Nat) : Int).toNat)));rw [Int.toNat_natCast, Int.toNat_natCast];exact aK dAh hr1 (aw (aa 1) (aC (aa 0))) ⟨rows, p, hp1, hp2, rfl, rfl⟩
    . unfold ae;rw [map_map, map_map];congr 1
    . have hB : fG rows t = true := by simpa [fG] using h
      refine xn 2 5 (e' := EH rows t) (by decide) rfl rfl BH (.here rfl) (by rw [length_map]; unfold mX; have := length_filter_le (fG rows) ((bI rows).take n); rw [length_take] at this; omega) (Em (aa 3) (mM t) Cf) ?_;refine aB (aB ⟨some (.pl true (tupS t)), some (.pl true (.tup [.int ((cS rows (ab rows) t : Nat) : Int), .int ((cS rows (ab rows) t + manyN rows (ab rows) t : Nat) : Int)])), none, ?_⟩);rw [hnx, if_pos hB, map_append];rfl
    . have hB : ¬ fG rows t = true := by simpa [fG] using h
      refine aB (aB ⟨some (.pl true (tupS t)), some (.pl true (.tup [.int ((cS rows (ab rows) t : Nat) : Int), .int ((cS rows (ab rows) t + manyN rows (ab rows) t : Nat) : Int)])), some (.tr (cT (aL rows t))), ?_⟩);rw [hnx, if_neg hB, append_nil];rfl
 . rintro r ⟨o3, o4, o5, e⟩;subst e;refine BW 2 (d := .lst ((aW rows).map (EH rows))) ?_ rfl;rw [length_map];unfold mX aW;rw [take_length];rfl
end
theorem kc (row : Ie) (j : Nat) (h : j <= row.length) : ((("" : Str) :: row) ++ [("" : Str)])[j + 1]? = some (row.getD j "") := by
 rw [cons_append, List.getElem?_cons_succ, List.getD_eq_getElem?_getD];by_cases z : j < row.length
 . rw [getElem?_append_left z, List.getElem?_eq_getElem z]; rfl
 . obtain rfl : j = row.length := by omega
   rw [getElem?_append_right (Nat.le_refl _), List.getElem?_eq_none (Nat.le_refl _), Nat.sub_self]; rfl
theorem vM (row : Ie) (k : Nat) (h : k <= row.length) : ((("" : Str) :: row) ++ [("" : Str)])[k]? = some (if 0 < k then row.getD (k - 1) "" else "") := by
 cases k with
 | zero => rfl
 | succ k =>
  rw [kc row k (by omega), if_pos (by omega)];rfl
section
variable {P : Program} {w : World} {K : Frag} {mg : HV} {base : Heap} {f : Addr} {fd : FuncData}
theorem mj (Fx : gr K "_law_places" "_law_places" eO f fd) (hmg : mg "_law_places" = some (.ref f)) (hb : Binds K fd ["_law_rows", "_law_stretch"] []) (B : jW mg) : Def P w K mg base 1 "_law_places" true kR := by
 refine bJ Fx gv hmg hb (by rintro ds d ⟨rows, t, h0, h1, h2, h3, e1, e2⟩; subst e1; rfl) ?_;rintro cdv A outer s H Ex Z ds d hr ⟨rows, t, h0, h1, h2, h3, e1, e2⟩;subst e1 e2;have nd := gv.nd;refine gK 2 (cY dG) rfl ?_ nd;refine cj 3 (ds := bE 0 (rows.map ae).length) (fun n r => ∃ o3 o4, r = [some (.pl false (aQ rows)), some (.pl false (tupS t)), some (.ow true ((kz rows t n).map bK)), o3, o4] /\ n <= rows.length)
  (i4 (cK (aa 0) B.len) B.range) eG ⟨_, _, rfl, Nat.zero_le _⟩ (by rintro n r ⟨_, _, e, _⟩; subst e; simp) ?_ ?_ nd
 . rintro n d r hd ⟨o3, o4, e, hnn⟩;subst e;obtain ⟨hn, rfl⟩ := d4 hd;rw [length_map] at hn;have hrow : (rows.map ae)[n]? = some (ae (rows.getD n [])) := by simp [hn, ae]
   have hrl : (rows.getD n []).length <= h9 rows := by
    have := gc (rows := rows) (n := n) (row := rows.getD n []) (by simp [hn]) (rows.getD n []).length (Nat.le_refl _);omega
   have hpl := BQ (rows := rows) h0 hnn;have hsx := vB rows t n;generalize rows.getD n [] = row at hrow hrl hsx;refine cj 4 (ds := bE 0 (((row.map D.str).length : Int) - ((t.map D.str).length : Int) + 1).toNat) (fun m r => ∃ o4, r = [some (.pl false (aQ rows)), some (.pl false (tupS t)), some (.ow true ((kz rows t n ++ (fI row t m).map fun a => (n, a)).map bK)), some (.pl true (.int (n : Nat))), o4] /\ m <= row.length + 1)
    (fF (n := ((row.map D.str).length : Int) - ((t.map D.str).length : Int) + 1) (m := true) (bX (i8 (cK (bz (aa 0) (aa 3) (aX hrow)) B.len) (um (aa 1) B.len)) ay) (by rw [length_map, length_map]; omega) (by rw [length_map, length_map]; omega) B.range) eG ⟨o4, by simp [fI, List.set], by omega⟩ (by rintro n r ⟨_, e, _⟩; subst e; simp) (fun m d r hd ⟨o4, e, hm⟩ => ?_) (fun r ⟨o4, e, hm⟩ => ?_) nd
   . subst e;obtain ⟨hm2, rfl⟩ := d4 hd;rw [length_map, length_map] at hm2;have il := vK row t m;refine ig (T.Cr (E7 (E.cast (kx (m1 := true) (ds := cut (row.map D.str) (some ((m : Nat) : Int)) (some ((m : Nat) + ((t.map D.str).length : Int)))) (kr (m := true) (bz (aa 0) (aa 3) (aX hrow)) (bT (aa 4)) (bT (bX (aa 4) (um (aa 1) B.len))) fun _ => .inr (fV (cq _))) B.tuple) (show _ = tupS ((row.drop m).take t.length) from ?_)) (aa 1) rfl (kj hr (qY _))) (show _ = decide ((row.drop m).take t.length = t) from wa _ _)) (fun h => ?_) (fun h => ?_)
     . rw [length_map, show ((m : Nat) : Int) + (t.length : Nat) = ((m + t.length : Nat) : Int) by omega, iJ];simp [tupS, show m + t.length - m = t.length by omega]
     . refine cn 2 true rfl (mw (aw (aa 3) (aC (aa 4)))) rfl (by rw [length_map, List.length_append, length_map]; omega) ?_;refine aB (aB ⟨some (.pl true (.int (m : Nat))), ?_, by omega⟩);rw [lz, if_pos (by simpa using h)];simp [bK, List.set]
     . refine aB (aB ⟨some (.pl true (.int (m : Nat))), ?_, by omega⟩);rw [lz, if_neg (by simpa using h)];simp [List.set]
   . subst e;refine aB ⟨some (.pl true (.int (n : Nat))), o4, ?_, by omega⟩;rw [hsx, bP, length_map, length_map, show ((row.length : Int) - (t.length : Int) + 1).toNat = row.length + 1 - t.length by omega]
 . rintro r ⟨o3, o4, e, hnn⟩;subst e;refine aY true (E.cast (aa 2) ?_) rfl;rw [bP, length_map, rB h0];rfl
theorem jt (Fx : gr K "_law_one_word" "_law_one_word" dI f fd) (hmg : mg "_law_one_word" = some (.ref f)) (hb : Binds K fd ["_law_words_here"] []) (B : jW mg) : Def P w K mg base 1 "_law_one_word" true Cg := by
 refine bJ Fx eZ hmg hb (by rintro ds d ⟨ws, h1, e1, e2⟩; subst e1; rfl) ?_;rintro cdv A outer s H Ex Z ds d hr ⟨ws, h1, e1, e2⟩;subst e1 e2;have nd := eZ.nd;refine cj 1 (ds := ws.map D.str) (fun n r => ∃ o1, r = [some (.pl false (ae ws)), o1] /\ ∀ x ∈ ws.take n, x ≠ "" /\ x = ws.getD 0 "")
  (cE (aa 0)) wC ⟨_, rfl, fun x hx => by simp at hx⟩ (by rintro n r ⟨_, e, _⟩; subst e; simp) ?_ ?_ nd
 . rintro n d r hd ⟨o1, e, hv⟩;subst e;rw [getElem?_map] at hd
   cases hx : ws[n]? with
   | none => rw [hx] at hd; cases hd
   | some x =>
    rw [hx] at hd;cases hd;have hxm : x ∈ ws := mem_of_getElem? hx;have h0 : 0 < ws.length := List.length_pos_of_mem hxm;have g0 : gS (ws.map D.str) 0 = some (.str (ws.getD 0 "")) := eJ (by decide) (dz h0);refine ig (TW.t (yP (uq (aa 1) cJ) fun _ => yx (CF (aa 1) (bz (aa 0) ay g0)))) (fun h => ?_) (fun h => aB ?_)
    . refine aY false (E.cast Dv ?_) rfl;have h : x = "" \/ x ≠ ws.getD 0 "" := by simpa using h
      rw [n8 hxm (getD_mem h0) (h.elim .inl fun z => .inr (.inr z))]
    . have h : x ≠ "" /\ x = ws.getD 0 "" := by simpa using h
      refine aB ⟨_, rfl, fun y hy => ?_⟩;rw [take_add_one, hx, mem_append] at hy;rcases hy with hy | hy
      . exact hv y hy
      . have : y = x := by simpa using hy
        rw [this]; exact h
 . rintro r ⟨o1, e, hv⟩;subst e;refine aY false (E.cast Dv ?_) rfl;rw [length_map, take_length] at hv;have : jB ws = true := by
    unfold jB;rw [List.all_eq_true];intro x hx;rw [Bool.and_eq_true, decide_eq_true_eq, decide_eq_true_eq];exact hv x hx
   rw [this]
theorem so (Fx : gr K "_law_full" "_law_full" gB f fd) (hmg : mg "_law_full" = some (.ref f)) (hb : Binds K fd ["_law_rows", "_law_stretch", "_law_places_here"] []) (B : jW mg) (dO : Def P w K mg base 1 "_law_one_word" true Cg) : Def P w K mg base 2 "_law_full" true tX := by
 refine bJ Fx jk hmg hb (by rintro ds d ⟨rows, t, h0, h1, h2, e1, e2⟩; subst e1; rfl) ?_;rintro cdv A outer s H Ex Z ds d hr ⟨rows, t, h0, h1, h2, e1, e2⟩;subst e1 e2;have nd := jk.nd;have hr1 : bt 1 _ := hr.mono (by decide);obtain ⟨hpt, hah⟩ := fO.mp h0;have hbh := uk hpt;have h2p := BR hpt;have hpl := gW rows t;refine gK 3 (cY dG) rfl ?_ nd;refine gK 4 (cY dG) rfl ?_ nd;refine jP 5 6 false (ds := (aL rows t).map bK) (fun n r => ∃ o5 o6 o7, r = [some (.pl false (aQ rows)), some (.pl false (tupS t)), some (.pl false (cT (aL rows t))), some (.ow true ((((aL rows t).take n).map (pZ rows)).map D.str)), some (.ow true ((((aL rows t).take n).map (DJ rows t)).map D.str)), o5, o6, o7])
  (cE (aa 2)) ⟨_, _, _, rfl⟩ (by rintro n r ⟨_, _, _, e⟩; subst e; simp) (fun d hd => by obtain ⟨p, _, rfl⟩ := mem_map.mp hd; exact ⟨_, _, rfl⟩) (fun n d1 d2 r hd ⟨o5, o6, o7, e⟩ => ?_) (fun r ⟨o5, o6, o7, e⟩ => ?_) nd
 . subst e;rw [getElem?_map] at hd
   cases hp : (aL rows t)[n]? with
   | none => rw [hp] at hd; cases hd
   | some p =>
    rw [hp] at hd;cases hd;obtain ⟨hm, het⟩ := eW.mp (mem_of_getElem? hp);obtain ⟨p1, p2⟩ := cb hm;have hn := (List.getElem?_eq_some_iff.mp hp).1;have htk : (aL rows t).take (n + 1) = (aL rows t).take n ++ [p] := by rw [take_add_one, hp]; rfl
    have hrow : (rows.map ae)[p.1]? = some (ae (rows.getD p.1 [])) := by simp [p1, ae]
    have hkl : p.2 + t.length <= (rows.getD p.1 []).length := by
     have := congrArg List.length het;unfold endAt at this;rw [length_take, length_drop] at this;omega
    have ea : ((("" : Str) :: rows.getD p.1 []) ++ [("" : Str)])[p.2]? = some (pZ rows p) := vM _ _ (by omega);have eb : ((("" : Str) :: rows.getD p.1 []) ++ [("" : Str)])[p.2 + 1 + t.length]? = some (DJ rows t p) := by
     rw [show p.2 + 1 + t.length = (p.2 + t.length) + 1 by omega];exact kc _ _ hkl
    have hrl : (rows.getD p.1 []).length <= h9 rows := by
     have := gc (rows := rows) (n := p.1) (row := rows.getD p.1 []) (by simp [p1]) (rows.getD p.1 []).length (Nat.le_refl _);omega
    generalize rows.getD p.1 [] = row at hrow ea eb hrl;refine dY 7 (d := ae ((("" : Str) :: row) ++ [("" : Str)])) (E.cast (Aj (m := true) (ds := (("" : Str) :: row).map D.str) (es := [("" : Str)].map D.str) (E.cast (Aj (m := true) (ds := [("" : Str)].map D.str) (es := row.map D.str) (cY (aC cJ)) (bz (aa 0) (aa 5) (aX hrow)) (d8 (by simp; omega)) fun _ => ⟨.inl rfl, .inr (cq _)⟩) (by simp)) (cY (aC cJ)) (d8 (by simp; omega)) fun _ => ⟨.inl rfl, .inl rfl⟩) (by rw [<- map_append]; rfl)) ?_ nd;have ga : ∀ {i : Nat} {x : Str}, ((("" : Str) :: row) ++ [("" : Str)])[i]? = some x -> (((("" : Str) :: row) ++ [("" : Str)]).map D.str)[i]? = some (.str x) := fun {i x} z => by rw [getElem?_map, z]; rfl
    refine cn 3 true rfl (bz (d := .str (pZ rows p)) (aa 7) (aa 6) (aX (ga ea))) rfl (by rw [length_map, length_map, length_take]; omega) ?_;refine cn 4 true rfl (bz (d := .str (DJ rows t p)) (aa 7) (bX (bX (aa 6) ay) (um (aa 1) B.len)) (by rw [length_map, show ((p.2 : Nat) : Int) + 1 + (t.length : Nat) = ((p.2 + 1 + t.length : Nat) : Int) by omega]; exact aX (ga eb))) rfl (by rw [length_map, length_map, length_take]; omega) ?_;refine aB ⟨some (.pl false (.int (p.1 : Nat))), some (.pl false (.int (p.2 : Nat))), some (.pl true (ae ((("" : Str) :: row) ++ [("" : Str)]))), ?_⟩;rw [htk, map_append, map_append, map_append, map_append];rfl
 . subst e;rw [length_map, take_length];refine aY false (E.cast (yp (F0 (cK (aa 2) B.len) ay) fun _ => yp (CJ (aK dO hr1 (aC (aa 3)) ⟨(aL rows t).map (pZ rows), by rw [length_map]; omega, rfl, rfl⟩)) fun _ => CC (CJ (aK dO hr1 (aC (aa 4)) ⟨(aL rows t).map (DJ rows t), by rw [length_map]; omega, rfl, rfl⟩))) ?_) rfl;rw [hah, hbh, length_map];simp;omega
theorem qE (Fx : gr K "_law_text" "_law_text" gy f fd) (hmg : mg "_law_text" = some (.ref f)) (hb : Binds K fd ["_law_words_here", "_law_cells"] []) (B : jW mg) (dP : Def P w K mg base 1 "_law_part" true z8) : Def P w K mg base 2 "_law_text" true yX := by
 refine bJ Fx je hmg hb (by rintro ds d ⟨ws, cells, hw, hc, e1, e2⟩; subst e1; rfl) ?_;rintro cdv A outer s H Ex Z ds d hr ⟨ws, cells, hw, hc, e1, e2⟩;subst e1 e2;have nd := je.nd;refine aI 2 cJ rfl ?_ nd;refine cj 3 (ds := cells.map D.int) (fun n r => ∃ o3 o4, r = [some (.pl false (ae ws)), some (.pl false (vt cells)), some (.pl true (.str (cZ ws (cells.take n)))), o3, o4])
  (cE (aa 1)) wA ⟨_, _, rfl⟩ (by rintro n r ⟨_, _, e⟩; subst e; simp) ?_ ?_ nd
 . rintro n d r hd ⟨o3, o4, e⟩;subst e;rw [getElem?_map] at hd
   cases hcn : cells[n]? with
   | none => rw [hcn] at hd; cases hd
   | some c =>
    rw [hcn] at hd;cases hd;have ht : cells.take (n + 1) = cells.take n ++ [c] := by rw [take_add_one, hcn]; rfl
    have hz := (pE hw (cells.take n)).2.1;have hnl : (cells.take n).length <= 60 := by rw [length_take]; omega
    rw [ht, gC];generalize cZ ws (cells.take n) = z at hz;have p0 := gf c 21 (show (0 : Int) < 6 by decide);have p9 := g4 c 21 (show (0 : Int) < 6 by decide);have q0 := gf c 23 (show (0 : Int) < 7 by decide);have q9 := g4 c 23 (show (0 : Int) < 7 by decide);have hi := yt (part c 21 6).toNat (by omega);have pk := (nM hw c).2.2;have rl := hw.l _ (ze hw c);have sl := (jT c).2.2;refine aI 4 (d := .str (qX ws c)) (bz (d := .str (qX ws c)) (aa 0) (bz (d := .int ((Gh (part c 21 6).toNat : Nat) : Int)) (cY (aw ay (aw ay (aw ay (aw ay (aw ay (aC ay))))))) (aK dP hr (aw (aa 3) (aw ay (aC ay))) ⟨_, _, _, by decide, rfl, rfl⟩) (HL p0 p9)) (aX (dz (by rw [hw.n]; exact hi)))) rfl ?_ nd;refine Af [some (.pl false (ae ws)), some (.pl false (vt cells)), some (.pl true (.str z)), some (.pl true (.int c)), some (.pl true (.str (iB ws c)))]
     (uI (aK dP hr (aw (aa 3) (aw ay (aC ay))) ⟨_, _, _, by decide, rfl, rfl⟩) ay) (fun h => ?_) (fun h => ?_) ?_
    . refine aI 4 (Aq (aa 4) (by omega)) rfl ?_ nd;refine aB ?_;unfold iB;rw [if_pos (by simpa using h)];rfl
    . refine aB ?_;unfold iB;rw [if_neg (by simpa using h)];rfl
    . refine aI 2 (d := .str (z ++ iB ws c ++ jq c)) (tG (tG (aa 2) (aa 4) (d8 (by omega))) (bz (d := .str (jq c)) (cY (aw cJ (aw cJ (aw cJ (aw cJ (aw cJ (aw cJ (aC cJ)))))))) (aK dP hr (aw (aa 3) (aw ay (aC ay))) ⟨_, _, _, by decide, rfl, rfl⟩) (Hz q0 q9)) (d8 (by rw [<- bZ, bW, List.length_append, bZ, bZ]; omega))) rfl ?_ nd;exact aB ⟨some (.pl true (.int c)), some (.pl true (.str (iB ws c))), rfl⟩
 . rintro r ⟨o3, o4, e⟩;subst e;rw [length_map, take_length];exact aY true (aa 2) rfl
theorem iO (Fx : gr K "_law_drawn_out" "_law_drawn_out" cU f fd) (hmg : mg "_law_drawn_out" = some (.ref f)) (hb : Binds K fd ["_law_rows", "_law_one", "_law_other"] []) (B : jW mg) : Def P w K mg base 1 "_law_drawn_out" true FV := by
 refine bJ Fx eo hmg hb (by rintro ds d ⟨rows, p, q, hp, hq, e1, e2⟩; subst e1; rfl) ?_;rintro cdv A outer s H Ex Z ds d hr ⟨rows, p, q, hp, hq, e1, e2⟩;subst e1 e2;have nd := eo.nd;obtain ⟨p1, p2⟩ := cb hp;obtain ⟨q1, q2⟩ := cb hq;obtain ⟨lp, lq⟩ := uS rows p q;have eL : bU rows p q = comm ((rows.getD p.1 []).take p.2).reverse ((rows.getD q.1 []).take q.2).reverse := rfl;have eN : tp rows p q = comm ((rows.getD p.1 []).drop (p.2 - bU rows p q)) ((rows.getD q.1 []).drop (q.2 - bU rows p q)) := rfl;have eT : kZ rows p q = ((rows.getD p.1 []).drop (p.2 - bU rows p q)).take (tp rows p q) := rfl;refine oy 3 false (d := ae (rows.getD p.1 [])) (bz (aa 0) (cG (d := .int p.1) (aa 1) ay rfl) (aX (by simp [p1, ae]))) ?_ nd;refine oy 4 false (d := ae (rows.getD q.1 [])) (bz (aa 0) (cG (d := .int q.1) (aa 2) ay rfl) (aX (by simp [q1, ae]))) ?_ nd;refine aI 5 ay rfl ?_ nd;rw [eT];generalize bU rows p q = L at lp lq eL eN;generalize tp rows p q = n at eN;generalize rows.getD p.1 [] = a at p2 eL eN;generalize rows.getD q.1 [] = b at q2 eL eN;have la : ((a.take p.2).reverse).length = p.2 := by rw [List.length_reverse, length_take]; omega
 have lb : ((b.take q.2).reverse).length = q.2 := by rw [List.length_reverse, length_take]; omega
 have ga : ∀ i, i < a.length -> gS (a.map D.str) ((i : Nat) : Int) = some (.str (a.getD i "")) := fun i hi => aX (dz hi);have gb : ∀ i, i < b.length -> gS (b.map D.str) ((i : Nat) : Int) = some (.str (b.getD i "")) := fun i hi => aX (dz hi);refine lu (fun r => ∃ m : Nat, r = [some (.pl false (aQ rows)), some (.pl false (bK p)), some (.pl false (bK q)), some (.pl false (ae a)), some (.pl false (ae b)), some (.pl true (.int (m : Nat))), none, none, none] /\ m <= L) (fun r => p.2 - (hX r 5).toNat)
  (fun r => decide (hX r 5 < (p.2 : Int)) && (decide (hX r 5 < (q.2 : Int)) && decide (a.getD (p.2 - (hX r 5).toNat - 1) "" = b.getD (q.2 - (hX r 5).toNat - 1) ""))) ⟨0, rfl, by omega⟩ (by rintro r ⟨m, e, _⟩; subst e; rfl) (fun r ⟨m, e, h1⟩ => ?_) (fun r ⟨m, e, h1⟩ hb => ?_) (fun r ⟨m, e, h1⟩ hb => ?_)
 . subst e;show T _ _ _ (decide ((m : Int) < (p.2 : Int)) && (decide ((m : Int) < (q.2 : Int)) && decide (a.getD (p.2 - m - 1) "" = b.getD (q.2 - m - 1) "")));refine TW.t (i0 (mV (aa 5) (cG (d := .int p.2) (aa 1) ay rfl)) fun g1 => i0 (mV (aa 5) (cG (d := .int q.2) (aa 2) ay rfl)) fun g2 => jS (uq (bz (d := .str (a.getD (p.2 - m - 1) "")) (aa 3) (i8 (i8 (cG (d := .int p.2) (aa 1) ay rfl) (aa 5)) ay) ?_) (bz (d := .str (b.getD (q.2 - m - 1) "")) (aa 4) (i8 (i8 (cG (d := .int q.2) (aa 2) ay rfl) (aa 5)) ay) ?_)))
   . have : m < p.2 := by simpa using g1
     rw [show ((p.2 : Int) - (m : Nat)) - 1 = ((p.2 - m - 1 : Nat) : Int) by omega];exact ga _ (by omega)
   . have : m < q.2 := by simpa using g2
     rw [show ((q.2 : Int) - (m : Nat)) - 1 = ((q.2 - m - 1 : Nat) : Int) by omega];exact gb _ (by omega)
 . subst e;have hb2 : (decide ((m : Int) < (p.2 : Int)) && (decide ((m : Int) < (q.2 : Int)) && decide (a.getD (p.2 - m - 1) "" = b.getD (q.2 - m - 1) ""))) = true := hb;rw [Bool.and_eq_true, Bool.and_eq_true, decide_eq_true_iff, decide_eq_true_iff, decide_eq_true_iff] at hb2;obtain ⟨g1, g2, g3⟩ := hb2;have hm := (dw (a := (a.take p.2).reverse) (b := (b.take q.2).reverse) (n := m) (by omega) (by omega) (by omega)).mp (by rw [d5 (by omega) (by omega), d5 (by omega) (by omega)]; exact g3);refine aI 5 (bX (aa 5) ay) rfl ?_ nd;refine aB ⟨⟨m + 1, rfl, by omega⟩, ?_⟩;show p.2 - ((m : Int) + 1).toNat < p.2 - ((m : Int)).toNat;omega
 . subst e;have hb2 : (decide ((m : Int) < (p.2 : Int)) && (decide ((m : Int) < (q.2 : Int)) && decide (a.getD (p.2 - m - 1) "" = b.getD (q.2 - m - 1) ""))) = false := hb;have hm : m = L := by
    rcases Nat.lt_or_ge m L with z | z
    . exfalso;have c := (dw (a := (a.take p.2).reverse) (b := (b.take q.2).reverse) (n := m) (by omega) (by omega) (by omega)).mpr (by omega);rw [d5 (by omega) (by omega), d5 (by omega) (by omega)] at c;rw [decide_eq_true (by omega : (m : Int) < (p.2 : Int)), decide_eq_true (by omega : (m : Int) < (q.2 : Int)), decide_eq_true c] at hb2;cases hb2
    . omega
   subst hm;refine aI 6 (d := .int ((p.2 - m : Nat) : Int)) (E.cast (i8 (cG (d := .int p.2) (aa 1) ay rfl) (aa 5)) (by rw [show ((p.2 : Int) - (m : Nat)) = ((p.2 - m : Nat) : Int) by omega])) rfl ?_ nd;refine aI 7 (d := .int ((q.2 - m : Nat) : Int)) (E.cast (i8 (cG (d := .int q.2) (aa 2) ay rfl) (aa 5)) (by rw [show ((q.2 : Int) - (m : Nat)) = ((q.2 - m : Nat) : Int) by omega])) rfl ?_ nd;refine aI 8 ay rfl ?_ nd;have pl : p.2 - m < a.length := by omega
   have ql : q.2 - m < b.length := by omega
   generalize p.2 - m = x at pl eN;generalize q.2 - m = y at ql eN;have da : (a.drop x).length = a.length - x := length_drop;have db : (b.drop y).length = b.length - y := length_drop;have nl := dU (a.drop x) (b.drop y);have gd : ∀ (l : Ie) (i k : Nat), (l.drop i).getD k "" = l.getD (i + k) "" := fun l i k => by rw [List.getD_eq_getElem?_getD, List.getElem?_drop, List.getD_eq_getElem?_getD]
   refine lu (fun r => ∃ k : Nat, r = [some (.pl false (aQ rows)), some (.pl false (bK p)), some (.pl false (bK q)), some (.pl false (ae a)), some (.pl false (ae b)), some (.pl true (.int (m : Nat))), some (.pl true (.int (x : Nat))), some (.pl true (.int (y : Nat))), some (.pl true (.int (k : Nat)))] /\ k <= n) (fun r => a.length - (hX r 8).toNat)
    (fun r => decide ((x : Int) + hX r 8 < ((a.map D.str).length : Int)) && (decide ((y : Int) + hX r 8 < ((b.map D.str).length : Int)) && decide (a.getD (x + (hX r 8).toNat) "" = b.getD (y + (hX r 8).toNat) ""))) ⟨0, rfl, by omega⟩ (by rintro r ⟨k, e, _⟩; subst e; rfl) (fun r ⟨k, e, h2⟩ => ?_) (fun r ⟨k, e, h2⟩ hb => ?_) (fun r ⟨k, e, h2⟩ hb => ?_)
   . subst e;show T _ _ _ (decide ((x : Int) + (k : Nat) < ((a.map D.str).length : Int)) && (decide ((y : Int) + (k : Nat) < ((b.map D.str).length : Int)) && decide (a.getD (x + k) "" = b.getD (y + k) "")));refine TW.t (i0 (mV (bX (aa 6) (aa 8)) (cK (aa 3) B.len)) fun g1 => i0 (mV (bX (aa 7) (aa 8)) (cK (aa 4) B.len)) fun g2 => jS (uq (bz (d := .str (a.getD (x + k) "")) (aa 3) (bX (aa 6) (aa 8)) ?_) (bz (d := .str (b.getD (y + k) "")) (aa 4) (bX (aa 7) (aa 8)) ?_)))
     . have : x + k < a.length := by rw [length_map, decide_eq_true_iff] at g1; omega
       rw [show ((x : Int) + (k : Nat)) = ((x + k : Nat) : Int) by omega];exact ga _ this
     . have : y + k < b.length := by rw [length_map, decide_eq_true_iff] at g2; omega
       rw [show ((y : Int) + (k : Nat)) = ((y + k : Nat) : Int) by omega];exact gb _ this
   . subst e;have hb2 : (decide ((x : Int) + (k : Nat) < ((a.map D.str).length : Int)) && (decide ((y : Int) + (k : Nat) < ((b.map D.str).length : Int)) && decide (a.getD (x + k) "" = b.getD (y + k) ""))) = true := hb;rw [Bool.and_eq_true, Bool.and_eq_true, decide_eq_true_iff, decide_eq_true_iff, decide_eq_true_iff, length_map, length_map] at hb2;obtain ⟨g1, g2, g3⟩ := hb2;have hk := (dw (a := a.drop x) (b := b.drop y) (n := k) (by omega) (by omega) (by omega)).mp (by rw [gd, gd]; exact g3);refine aI 8 (bX (aa 8) ay) rfl ?_ nd;refine aB ⟨⟨k + 1, rfl, by omega⟩, ?_⟩;show a.length - ((k : Int) + 1).toNat < a.length - ((k : Int)).toNat;omega
   . subst e;have hb2 : (decide ((x : Int) + (k : Nat) < ((a.map D.str).length : Int)) && (decide ((y : Int) + (k : Nat) < ((b.map D.str).length : Int)) && decide (a.getD (x + k) "" = b.getD (y + k) ""))) = false := hb;have hk : k = n := by
      rcases Nat.lt_or_ge k n with z | z
      . exfalso;have c := (dw (a := a.drop x) (b := b.drop y) (n := k) (by omega) (by omega) (by omega)).mpr (by omega);rw [gd, gd] at c;rw [decide_eq_true c, length_map, length_map, decide_eq_true (by omega : (x : Int) + (k : Nat) < (a.length : Int)), decide_eq_true (by omega : (y : Int) + (k : Nat) < (b.length : Int))] at hb2;cases hb2
      . omega
     subst hk;refine aY false (E.cast (kx (m1 := true) (ds := cut (a.map D.str) (some ((x : Nat) : Int)) (some ((x : Nat) + ((k : Nat) : Int)))) (kr (m := true) (aa 3) (bT (aa 6)) (bT (bX (aa 6) (aa 8))) fun _ => .inr (fV (cq _))) B.tuple) ?_) rfl;rw [show ((x : Nat) : Int) + ((k : Nat) : Int) = ((x + k : Nat) : Int) by omega, iJ, show x + k - x = k by omega];simp [tupS]
theorem DE (Fx : gr K "law" "law" iK f fd) (B : jW mg) (dC : Def P w K mg base 1 "_law_cell_at" true vh) (dW : Def P w K mg base 2 "_law_words" true ve) (dR : Def P w K mg base 2 "rows_of" true u3) (dX : Def P w K mg base 2 "_law_text" true yX) (dF : yf P w K mg base 7 "full_stretches" tY) (dP : Def P w K mg base 1 "_law_places" true kR) (dL : Def P w K mg base 2 "_law_full" true tX) (dO : Def P w K mg base 1 "_law_drawn_out" true FV) : eB P w K mg base lP 9 f fd ["_law_script"] (EJ K false Dl) := by
 refine Hi Fx zS (by rintro ds d ⟨ns, hz, e1, e2⟩; subst e1; rfl) ?_;rintro cdv A outer s H Ex Z ds d hr ⟨ns, hz, e1, e2⟩;subst e1 e2;have nd := zS.nd;have hr1 : bt 1 _ := hr.mono (by decide);have hr2 : bt 2 _ := hr.mono (by decide);have hr7 : bt 7 _ := hr.mono (by decide);refine dY 1 (d := ae (eh (cellAt ns 0) (cellAt ns 1))) (aK dW hr2 (aw (aK dC hr1 (aw (aa 0) (aC ay)) ⟨ns, 0, by omega, rfl, rfl⟩) (aC (aK dC hr1 (aw (aa 0) (aC ay)) ⟨ns, 1, by omega, rfl, rfl⟩))) ⟨_, _, rfl, rfl⟩) ?_ nd;have hws : w5 (eh (cellAt ns 0) (cellAt ns 1)) := ⟨sQ _ _, fun z hz => ud hz, fun z hz => sP hz⟩
 generalize eh (cellAt ns 0) (cellAt ns 1) = ws at hws;have hcut : (cut ns (some ((2 : Nat) : Int)) (some ((42 : Nat) : Int))).length <= 40 := by rw [iJ, length_take]; omega
 have ecut : D.lst (cut (ns.map D.int) (some ((2 : Nat) : Int)) (some ((42 : Nat) : Int))) = vt (cut ns (some ((2 : Nat) : Int)) (some ((42 : Nat) : Int))) := by rw [AZ]; rfl
 obtain ⟨t1, t2, t3⟩ := pE hws (cut ns (some ((2 : Nat) : Int)) (some ((42 : Nat) : Int)));have t4 := vF hws (cut ns (some ((2 : Nat) : Int)) (some ((42 : Nat) : Int)));refine dY 2 (d := aQ (dr (cZ ws (cut ns (some ((2 : Nat) : Int)) (some ((42 : Nat) : Int)))))) (aK dR hr2 (aC (aK dX hr2 (aw (aa 1) (aC (E.cast (kr (m := false) (aa 0) (bT ay) (bT ay)) ecut))) ⟨ws, cut ns (some ((2 : Nat) : Int)) (some ((42 : Nat) : Int)), hws, by omega, rfl, rfl⟩)) ⟨_, by omega, t1, rfl, rfl⟩) ?_ nd;generalize dr (cZ ws (cut ns (some ((2 : Nat) : Int)) (some ((42 : Nat) : Int)))) = rows at t3 t4;have ht : h9 rows < 64 := by omega
 have hl : rows.length <= 900 := by omega
 clear t1 t2 t3 t4;have hfl := vW rows;have hlt := x5 rows;have hnd := r8 rows;have hup := zI rows;refine Ay 3 AM ?_ nd;refine aI 4 (d := tupS []) (mw dG) rfl ?_ nd;have gF : tY [aQ rows] (.lst ((aW rows).map (EH rows))) := ⟨rows, by omega, by omega, rfl, rfl⟩
 refine jP 5 6 false (ds := (aW rows).map (EH rows)) (fun n r => ∃ o5 o6 fr, r = [some (.pl false (.lst (ns.map D.int))), some (.pl true (ae ws)), some (.pl true (aQ rows)), some (.od (.t (p8 ((aW rows).take n)))), some (.pl fr (tupS (if n = 0 then [] else (aW rows).getD (n - 1) []))), o5, o6, none, none, none, none])
  (cE (aK dF.GI hr7 (aC (aa 2)) gF)) ⟨_, _, true, rfl⟩ (by rintro n r ⟨_, _, _, e⟩; subst e; simp) (fun d hd => by obtain ⟨t, _, rfl⟩ := mem_map.mp hd; exact ⟨_, _, rfl⟩) (fun n d1 d2 r hd ⟨o5, o6, fr, e⟩ => ?_) (fun r ⟨o5, o6, fr, e⟩ => ?_) nd
 . subst e;rw [getElem?_map] at hd
   cases hq : (aW rows)[n]? with
   | none => rw [hq] at hd; cases hd
   | some t =>
    rw [hq] at hd;cases hd;have htm : t ∈ aW rows := mem_of_getElem? hq;have hn := (List.getElem?_eq_some_iff.mp hq).1;have gn : (aW rows).getD n [] = t := by rw [List.getD_eq_getElem?_getD, hq]; rfl
    have hpt := (fO.mp htm).1;have htl := Ce hpt;have htn := fB t (cu.mp hpt);have hpl := gW rows t;have tk : (aW rows).take (n + 1) = (aW rows).take n ++ [t] := by rw [take_add_one, hq]; rfl
    have hlast : aP .lt (tupS (if n = 0 then [] else (aW rows).getD (n - 1) [])) (tupS t) = true := by
     by_cases z : n = 0
     . rw [if_pos z]
       cases t with
       | nil => exact absurd rfl htn
       | cons a r => rfl
     . rw [if_neg z];have := List.pairwise_iff_getElem.mp hup (n - 1) n (by omega) hn (by omega);rw [<- gn];simpa [hn, (by omega : n - 1 < (aW rows).length)] using this
    have cm : bR (tupS (if n = 0 then [] else (aW rows).getD (n - 1) [])) (tupS t) = true := by
     by_cases z : n = 0
     . rw [if_pos z]; rfl
     . rw [if_neg z];have hm := getD_mem (l := aW rows) (n := n - 1) (d := []) (by omega);exact iW.cm _ _ ⟨_, fB _ (cu.mp (fO.mp hm).1), rfl⟩ ⟨t, htn, rfl⟩
    generalize (if n = 0 then [] else (aW rows).getD (n - 1) []) = last at hlast cm;have gP : kR [aQ rows, tupS t] (cT (aL rows t)) := ⟨rows, t, htn, by omega, by omega, by omega, rfl, rfl⟩
    have gL : tX [aQ rows, tupS t, cT (aL rows t)] (.bl true) := ⟨rows, t, htm, by omega, by omega, rfl, rfl⟩
    have dep1 := qY last;refine ig (TW.t (yP (xE (Cu (d := tupS last) (d' := tupS t) (aa 4) (aa 5) cm (kj hr dep1))) fun _ => yP (CW (d := cT (aL rows t)) (d' := cT (aL rows t)) (aa 6) (aK dP hr1 (aw (aa 2) (aC (aa 5))) gP) rfl (kj hr (A3 _))) fun _ => yx (xE (CL (aK dL hr2 (aw (aa 2) (aw (aa 5) (aC (aa 6)))) gL))))) (fun h => ?_) (fun h => aB ?_)
    . exfalso;rw [bQ, hlast] at h;simp at h
    . refine oy 4 false (aa 5) ?_ nd;refine B5 3 (o' := .t (p8 ((aW rows).take (n + 1)))) rfl (aa 5) Dv rfl (DO.EX (k := t.map Sum.inr) (by rw [map_map]; rfl) (by rw [yB, length_take]; exact Nat.lt_of_le_of_lt (Nat.min_le_right _ _) (Nat.lt_of_le_of_lt hfl (by rw [sizeLine_eq]; omega))) ?_) (CU hr) ?_
      . rw [tk, Dn];intro z;obtain ⟨i, hi, e⟩ := List.mem_iff_getElem.mp z;rw [length_take] at hi;rw [List.getElem_take] at e;have e2 : (aW rows)[n] = t := by rw [List.getElem?_eq_getElem hn] at hq; exact Option.some.inj hq
        have := (List.getElem_inj hnd (h₀ := by omega) (h₁ := hn)).mp (e.trans e2.symm);omega
      . refine aB ⟨some (.pl false (tupS t)), some (.pl false (cT (aL rows t))), false, ?_⟩;rw [if_neg (by omega : ¬ n + 1 = 0), Nat.add_sub_cancel, gn];rfl
 . subst e;rw [length_map, take_length];generalize hl0 : (if (aW rows).length = 0 then [] else (aW rows).getD ((aW rows).length - 1) []) = last;clear hl0;refine gK 7 (cY dG) rfl ?_ nd;refine cj 8 (ds := bE 0 (rows.map ae).length) (fun n r => ∃ o8, r = [some (.pl false (.lst (ns.map D.int))), some (.pl true (ae ws)), some (.pl true (aQ rows)), some (.od (.t (p8 (aW rows)))), some (.pl fr (tupS last)), o5, o6, some (.ow true ((cz rows n).map bK)), o8, none, none] /\ n <= rows.length)
    (i4 (cK (aa 2) B.len) B.range) eG ⟨_, rfl, Nat.zero_le _⟩ (by rintro n r ⟨_, e, _⟩; subst e; simp) ?_ ?_ nd
   . rintro n d r hd ⟨o8, e, hnn⟩;subst e;obtain ⟨hn, rfl⟩ := d4 hd;rw [length_map] at hn;have hrow : (rows.map ae)[n]? = some (ae (rows.getD n [])) := by simp [hn, ae]
     have hrl : (cz rows n).length + (rows.getD n []).length <= h9 rows := gc (rows := rows) (n := n) (row := rows.getD n []) (by simp [hn]) (rows.getD n []).length (Nat.le_refl _);have hsx := eR rows n;generalize rows.getD n [] = row at hrow hrl hsx;refine tZ 7 true rfl (es := (List.range row.length).map fun a => bK (n, a)) (E.cast (xw (m := true) (me := false) ["_law_number"] [8] (fun d => .tup [.int (n : Nat), d]) (i4 (cK (ds := row.map D.str) (bz (aa 2) (aa 8) (aX hrow)) B.len) B.range) (fun C s H fp d hd => ?_) (by rw [bP, length_map]; exact fE (by omega)) (fun _ => .inr fun d hd => by obtain ⟨i, _, rfl⟩ := mem_map.mp hd; rfl)) ?_) ?_ (by rw [length_map, length_map, length_range]; exact d8 (by omega)) ?_
     . exact mw (aw (aa 1) (aC (aa 0)))
     . rw [length_map];unfold bE;rw [map_map];simp [Function.comp_def, bK]
     . exact fP fun d hd => by obtain ⟨a, _, rfl⟩ := mem_map.mp hd; rfl
     . refine aB ⟨some (.pl true (.int (n : Nat))), ?_, by omega⟩;rw [hsx, map_append, map_map];rfl
   . rintro r ⟨o8, e, hnn⟩;subst e;rw [bP, length_map];have eA : cz rows rows.length = bx rows := rfl;rw [eA];have hal := iG rows;refine Ah 7 rfl ?_;refine cj 9 (ds := (bx rows).map bK) (fun n r => ∃ o9 o10, r = [some (.pl false (.lst (ns.map D.int))), some (.pl true (ae ws)), some (.pl true (aQ rows)), some (.od (.t (p8 (aW rows)))), some (.pl fr (tupS last)), o5, o6, some (.pl true (.lst ((bx rows).map bK))), o8, o9, o10])
      (cE (aa 7)) (fun d hd => by obtain ⟨p, _, rfl⟩ := mem_map.mp hd; rfl) ⟨_, _, rfl⟩ (by rintro n r ⟨_, _, e⟩; subst e; simp) ?_ ?_ nd
     . rintro n d r hd ⟨o9, o10, e⟩;subst e;rw [getElem?_map] at hd
       cases hp : (bx rows)[n]? with
       | none => rw [hp] at hd; cases hd
       | some p =>
        rw [hp] at hd;cases hd;have hpm : p ∈ bx rows := mem_of_getElem? hp;obtain ⟨p1, p2⟩ := cb hpm;refine cj 10 (ds := (bx rows).map bK) (fun n r => ∃ o10, r = [some (.pl false (.lst (ns.map D.int))), some (.pl true (ae ws)), some (.pl true (aQ rows)), some (.od (.t (p8 (aW rows)))), some (.pl fr (tupS last)), o5, o6, some (.pl true (.lst ((bx rows).map bK))), o8, some (.pl true (bK p)), o10])
         (cE (aa 7)) (fun d hd => by obtain ⟨p, _, rfl⟩ := mem_map.mp hd; rfl) ⟨_, rfl⟩ (by rintro n r ⟨_, e⟩; subst e; simp) (fun m d r hd ⟨o10, e⟩ => ?_) (fun r ⟨o10, e⟩ => ?_) nd
        . subst e;rw [getElem?_map] at hd
          cases hq : (bx rows)[m]? with
          | none => rw [hq] at hd; cases hd
          | some q =>
           rw [hq] at hd;cases hd;have hqm : q ∈ bx rows := mem_of_getElem? hq;obtain ⟨q1, q2⟩ := cb hqm;have gw : ∀ x : Nat × Nat, x.1 < rows.length -> x.2 < (rows.getD x.1 []).length -> (rows.map ae)[x.1]? = some (ae (rows.getD x.1 [])) /\ gS ((rows.getD x.1 []).map D.str) (x.2 : Int) = some (.str (EE rows x)) := fun x h1 h2 => ⟨by simp [h1, ae], aX (dz h2)⟩
           obtain ⟨a1, a2⟩ := gw p p1 p2;obtain ⟨b1, b2⟩ := gw q q1 q2;refine ig (TW.t (i0 (Cu (d := bK p) (d' := bK q) (aa 9) (aa 10) (iT.cm _ _ ⟨p, rfl⟩ ⟨q, rfl⟩) (kj hr (uz p))) fun _ => jS (uq (bz (bz (aa 2) (cG (d := .int (p.1 : Nat)) (aa 9) ay rfl) (aX a1)) (cG (d := .int (p.2 : Nat)) (aa 9) ay rfl) a2) (bz (bz (aa 2) (cG (d := .int (q.1 : Nat)) (aa 10) ay rfl) (aX b1)) (cG (d := .int (q.2 : Nat)) (aa 10) ay rfl) b2)))) (fun h => ?_) (fun h => ?_)
           . rw [Bool.and_eq_true, decide_eq_true_eq] at h;obtain ⟨h1, h2⟩ := h;have ne : p ≠ q := fun z => by
              subst z;rw [iT.ir _ ⟨p, rfl⟩] at h1;cases h1
             obtain ⟨f1, _, _⟩ := yG hpm hqm ne h2;refine ig (b := false) (T.Cr (z5 (r := dq (p8 (aW rows)) ((kZ rows p q).map Sum.inr : List Key)) (aK dO hr1 (aw (aa 2) (aw (aa 9) (aC (aa 10)))) ⟨rows, p, q, hpm, hqm, rfl, rfl⟩) (aa 3) (DO.Gx (k := (kZ rows p q).map Sum.inr) (by rw [map_map]; rfl) rfl) (CU hr)) (by rw [CQ, decide_eq_true f1]; rfl)) (fun h => by cases h) (fun _ => ?_);exact aB (aB (aB ⟨_, rfl⟩))
           . exact aB (aB ⟨_, rfl⟩)
        . subst e;exact aB ⟨_, _, rfl⟩
     . rintro r ⟨o9, o10, e⟩;subst e;refine aY false (E.cast (Fg (Bk (aa 3) B.len) (DL ay (cK (aa 7) B.len) B.max)) ?_) rfl;rw [yB, length_map, hal];congr 1;rw [decide_eq_true_eq];omega
end
end
instance : Y.b0 := ⟨[(37, "ends.<locals>.<lambda>"), (58, "stretch_of.<locals>.<lambda>")]⟩
def FK (K : Frag) (q : Str) (st : Stmt) (f : Addr) : Prop := PySem.W.nsIn K mainGlobals q = some (some (.ref f)) /\ ∃ fd, gr K q q st f fd
theorem fk {K : Frag} {q : Str} {st : Stmt} {f : Addr} {oc kV dc pm ct : Value} {od an : HY} {sl : HU} {cd : Value} (a : PySem.W.nsIn K mainGlobals q = some (some (.ref f))) (l : K.lookup f = some ⟨oc, od, .func (PySem.W.fnOf q q (cD st) (bb st) (ah st) .none kV dc pm an cd ct), sl⟩) (c : PySem.W.codeIn K cd q = true) (k : keepIn K (.ref f) = true) : FK K q st f := ⟨a, _, zW l c k⟩
def GH (K : Frag) (q : Str) (st : Stmt) (f c : Addr) (n : Nat) : Prop := PySem.W.nsIn K mainGlobals q = some (some (.ref f)) /\ (∃ fd, sW K q q st f fd c) /\ codeHdIn K c n = true
theorem He {K : Frag} {q : Str} {st : Stmt} {f : Addr} {oc kV dc pm ct : Value} {od an : HY} {sl : HU} {cc : Addr} {n : Nat} (a : PySem.W.nsIn K mainGlobals q = some (some (.ref f))) (l : K.lookup f = some ⟨oc, od, .func (PySem.W.fnOf q q (cD st) (bb st) (ah st) .none kV dc pm an (.ref cc) ct), sl⟩) (c : PySem.W.codeIn K (.ref cc) q = true) (k : keepIn K (.ref f) = true) (h : codeHdIn K cc n = true) : GH K q st f cc n := ⟨a, ⟨_, BU l c k⟩, h⟩
theorem qA {us : HW} (h : us.length = 1) : ∃ a, us = [a] := by
  cases us with
  | nil => cases h
  | cons a r =>
    cases r with
    | nil => exact ⟨a, rfl⟩
    | cons b c => simp at h
theorem jX {us : HW} (h : us.length = 2) : ∃ a0 a1, us = [a0, a1] := by
  cases us with
  | nil => cases h
  | cons a r =>
    obtain ⟨a1, rfl⟩ := qA (Nat.succ.inj h);exact ⟨a, a1, rfl⟩
theorem yw {us : HW} (h : us.length = 3) : ∃ a0 a1 a2, us = [a0, a1, a2] := by
  cases us with
  | nil => cases h
  | cons a r =>
    obtain ⟨a1, a2, rfl⟩ := jX (Nat.succ.inj h);exact ⟨a, a1, a2, rfl⟩
theorem all_mk {l : PySem.W.OpenLaw} {w : World} {K : Frag} {h : Heap} {mg : HV} {fa : Addr} (X : K.In h) (G : h.Ns mainGlobals mg) (hfa : mg "law" = some (.ref fa))
 {f1 f2 f3 f4 cc4 f5 f6 f7 cc7 f8 f9 f10 f11 f12 f13 f14 f15 f16 f17 f18 f19 f20 f21 f22 f23 : Addr} {od23 an23 : HY} {sl23 : HU} {oc23 kV23 dc23 pm23 cd23 ct23 : Value} {tk1 : Tok}
 (q1 : FK K "all_places" eP f1)
 (q2 : FK K "end_of" lh f2)
 (q3 : FK K "order_of" gM f3)
 (q4 : GH K "ends" n9 f4 cc4 37)
 (q5 : FK K "in_common" fu f5)
 (q6 : FK K "shares" kT f6)
 (q7 : GH K "stretch_of" cC f7 cc7 58)
 (q8 : FK K "first_behind" cB f8)
 (q9 : FK K "rows_of" i5 f9)
 (q10 : FK K "words_in" gJ f10)
 (q11 : FK K "word_ahead" eM f11)
 (q12 : FK K "is_one_word" eg f12)
 (q13 : FK K "parting_stretches" bY f13)
 (q14 : FK K "full_stretches" cM f14)
 (q15 : FK K "_law_cell_at" d9 f15)
 (q16 : FK K "_law_part" gG f16)
 (q17 : FK K "_law_words" fH f17)
 (q18 : FK K "_law_text" gy f18)
 (q19 : FK K "_law_places" eO f19)
 (q20 : FK K "_law_one_word" dI f20)
 (q21 : FK K "_law_full" gB f21)
 (q22 : FK K "_law_drawn_out" cU f22)
 (a23 : PySem.W.nsIn K mainGlobals "law" = some (some (.ref f23)))
 (l23 : K.lookup f23 = some ⟨oc23, od23, .func (PySem.W.fnOf "law" "law" (cD iK) (bb iK) (ah iK) .none kV23 dc23 pm23 an23 cd23 ct23), sl23⟩)
 (c23 : PySem.W.codeIn K cd23 "law" = true) (k23 : keepIn K (.ref f23) = true)
 (g1 : PySem.W.nsIn K mainGlobals "WORD_SIGNS" = some (some (.str "abcdefghijklmnopqrstuvwxyz0123456789" tk1)))
 (z_enumerate : PySem.W.nsIn K mainGlobals "enumerate" = some none)
 (z_len : PySem.W.nsIn K mainGlobals "len" = some none)
 (z_list : PySem.W.nsIn K mainGlobals "list" = some none)
 (z_max : PySem.W.nsIn K mainGlobals "max" = some none)
 (z_range : PySem.W.nsIn K mainGlobals "range" = some none)
 (z_set : PySem.W.nsIn K mainGlobals "set" = some none)
 (z_sorted : PySem.W.nsIn K mainGlobals "sorted" = some none)
 (z_tuple : PySem.W.nsIn K mainGlobals "tuple" = some none)
 (z_zip : PySem.W.nsIn K mainGlobals "zip" = some none) :
 ∃ fd : FuncData, (∀ (s : Shared) (v : Value), BindsTo s fd ⟨[v], []⟩ [("_law_script", v)]) /\ ∀ base : Heap, K.In base -> base.Ns mainGlobals mg -> Cj mg base -> eB l.prog w K mg base lP 9 fa fd ["_law_script"] (sE K) := by
 have e := hfa.symm.trans (mg_of X G a23);cases e;have B : jW mg := ⟨mg_none_of X G z_enumerate, mg_none_of X G z_len, mg_none_of X G z_list, mg_none_of X G z_max, mg_none_of X G z_range, mg_none_of X G z_set, mg_none_of X G z_sorted, mg_none_of X G z_tuple, mg_none_of X G z_zip, ⟨_, mg_of X G g1⟩⟩
 obtain ⟨a1, _, F1⟩ := q1;obtain ⟨a2, _, F2⟩ := q2;obtain ⟨a3, _, F3⟩ := q3;obtain ⟨a4, ⟨_, G4⟩, h4⟩ := q4;obtain ⟨a5, _, F5⟩ := q5;obtain ⟨a6, _, F6⟩ := q6;obtain ⟨a7, ⟨_, G7⟩, h7⟩ := q7;obtain ⟨a8, _, F8⟩ := q8;obtain ⟨a9, _, F9⟩ := q9;obtain ⟨a10, _, F10⟩ := q10;obtain ⟨a11, _, F11⟩ := q11;obtain ⟨a12, _, F12⟩ := q12;obtain ⟨a13, _, F13⟩ := q13;obtain ⟨a14, _, F14⟩ := q14;obtain ⟨a15, _, F15⟩ := q15;obtain ⟨a16, _, F16⟩ := q16;obtain ⟨a17, _, F17⟩ := q17;obtain ⟨a18, _, F18⟩ := q18;obtain ⟨a19, _, F19⟩ := q19;obtain ⟨a20, _, F20⟩ := q20;obtain ⟨a21, _, F21⟩ := q21;obtain ⟨a22, _, F22⟩ := q22;have b1 := F1.binds (ps := ["rows"]) fun _ _ _ _ _ _ us hl => by obtain ⟨u0, rfl⟩ := qA hl; rfl
 have b2 := F2.binds (ps := ["rows", "place"]) fun _ _ _ _ _ _ us hl => by obtain ⟨u0, u1, rfl⟩ := jX hl; rfl
 have b3 := F3.binds (ps := ["rows", "place"]) fun _ _ _ _ _ _ us hl => by obtain ⟨u0, u1, rfl⟩ := jX hl; rfl
 have F4 := G4.fn;have b4 := F4.binds (ps := ["rows"]) fun _ _ _ _ _ _ us hl => by obtain ⟨u0, rfl⟩ := qA hl; rfl
 have b5 := F5.binds (ps := ["one", "other"]) fun _ _ _ _ _ _ us hl => by obtain ⟨u0, u1, rfl⟩ := jX hl; rfl
 have b6 := F6.binds (ps := ["rows", "places"]) fun _ _ _ _ _ _ us hl => by obtain ⟨u0, u1, rfl⟩ := jX hl; rfl
 have F7 := G7.fn;have b7 := F7.binds (ps := ["rows", "places", "words"]) fun _ _ _ _ _ _ us hl => by obtain ⟨u0, u1, u2, rfl⟩ := yw hl; rfl
 have b8 := F8.binds (ps := ["rows", "places", "is_ahead"]) fun _ _ _ _ _ _ us hl => by obtain ⟨u0, u1, u2, rfl⟩ := yw hl; rfl
 have b9 := F9.binds (ps := ["text"]) fun _ _ _ _ _ _ us hl => by obtain ⟨u0, rfl⟩ := qA hl; rfl
 have b10 := F10.binds (ps := ["part"]) fun _ _ _ _ _ _ us hl => by obtain ⟨u0, rfl⟩ := qA hl; rfl
 have b11 := F11.binds (ps := ["rows", "place"]) fun _ _ _ _ _ _ us hl => by obtain ⟨u0, u1, rfl⟩ := jX hl; rfl
 have b12 := F12.binds (ps := ["words"]) fun _ _ _ _ _ _ us hl => by obtain ⟨u0, rfl⟩ := qA hl; rfl
 have b13 := F13.binds (ps := ["rows", "places"]) fun _ _ _ _ _ _ us hl => by obtain ⟨u0, u1, rfl⟩ := jX hl; rfl
 have b14 := F14.binds (ps := ["rows"]) fun _ _ _ _ _ _ us hl => by obtain ⟨u0, rfl⟩ := qA hl; rfl
 have b15 := F15.binds (ps := ["_law_script", "_law_k"]) fun _ _ _ _ _ _ us hl => by obtain ⟨u0, u1, rfl⟩ := jX hl; rfl
 have b16 := F16.binds (ps := ["_law_cell", "_law_k", "_law_many"]) fun _ _ _ _ _ _ us hl => by obtain ⟨u0, u1, u2, rfl⟩ := yw hl; rfl
 have b17 := F17.binds (ps := ["_law_one", "_law_other"]) fun _ _ _ _ _ _ us hl => by obtain ⟨u0, u1, rfl⟩ := jX hl; rfl
 have b18 := F18.binds (ps := ["_law_words_here", "_law_cells"]) fun _ _ _ _ _ _ us hl => by obtain ⟨u0, u1, rfl⟩ := jX hl; rfl
 have b19 := F19.binds (ps := ["_law_rows", "_law_stretch"]) fun _ _ _ _ _ _ us hl => by obtain ⟨u0, u1, rfl⟩ := jX hl; rfl
 have b20 := F20.binds (ps := ["_law_words_here"]) fun _ _ _ _ _ _ us hl => by obtain ⟨u0, rfl⟩ := qA hl; rfl
 have b21 := F21.binds (ps := ["_law_rows", "_law_stretch", "_law_places_here"]) fun _ _ _ _ _ _ us hl => by obtain ⟨u0, u1, u2, rfl⟩ := yw hl; rfl
 have b22 := F22.binds (ps := ["_law_rows", "_law_one", "_law_other"]) fun _ _ _ _ _ _ us hl => by obtain ⟨u0, u1, u2, rfl⟩ := yw hl; rfl
 have F23 := zW (st := iK) l23 c23 k23;refine ⟨PySem.W.fnOf "law" "law" (cD iK) (bb iK) (ah iK) .none kV23 dc23 pm23 an23 cd23 ct23, fun s v => .of_eq rfl, fun base _ _ bm => ?_⟩;have D1 := mf (P := l.prog) (w := w) (base := base) F1 (mg_of X G a1) b1 B;have D2 := nv (P := l.prog) (w := w) (base := base) F2 (mg_of X G a2) b2 B;have D3 := rm (P := l.prog) (w := w) (base := base) F3 (mg_of X G a3) b3 B D2;have L4 : oX K mg base cc4 37 "ends.<locals>.<lambda>" := ⟨h4, by decide, by decide, bm, by decide⟩
 have D4 := Bl (P := l.prog) (w := w) (base := base) G4 L4 (mg_of X G a4) b4 B D1 D3;have D5 := oQ (P := l.prog) (w := w) (base := base) F5 (mg_of X G a5) b5 B;have D6 := wI (P := l.prog) (w := w) (base := base) F6 (mg_of X G a6) b6 B D2 D5;have L7 : oX K mg base cc7 58 "stretch_of.<locals>.<lambda>" := ⟨h7, by decide, by decide, bm, by decide⟩
 have D7 := lR (P := l.prog) (w := w) (base := base) G7 L7 (mg_of X G a7) b7 B F8 (mg_of X G a8) b8 (fun base => nv (P := l.prog) (w := w) (base := base) F2 (mg_of X G a2) b2 B);have D10 := sD (P := l.prog) (w := w) (base := base) F10 (mg_of X G a10) b10 B;have D9 := tI (P := l.prog) (w := w) (base := base) F9 (mg_of X G a9) b9 B D10;have D11 := lU (P := l.prog) (w := w) (base := base) F11 (mg_of X G a11) b11 B;have D12 := kM (P := l.prog) (w := w) (base := base) F12 (mg_of X G a12) b12 B;have D13 := fD (P := l.prog) (w := w) (base := base) F13 (mg_of X G a13) b13 B D6 D2;have D14 := gQ (P := l.prog) (w := w) (base := base) F14 (mg_of X G a14) b14 B D4 D13 D7 D12 D11;have D15 := lK (P := l.prog) (w := w) (base := base) F15 (mg_of X G a15) b15 B;have D16 := sd (P := l.prog) (w := w) (base := base) F16 (mg_of X G a16) b16 B;have D17 := nR (P := l.prog) (w := w) (base := base) F17 (mg_of X G a17) b17 B D16;have D18 := qE (P := l.prog) (w := w) (base := base) F18 (mg_of X G a18) b18 B D16;have D19 := mj (P := l.prog) (w := w) (base := base) F19 (mg_of X G a19) b19 B;have D20 := jt (P := l.prog) (w := w) (base := base) F20 (mg_of X G a20) b20 B;have D21 := so (P := l.prog) (w := w) (base := base) F21 (mg_of X G a21) b21 B D20;have D22 := iO (P := l.prog) (w := w) (base := base) F22 (mg_of X G a22) b22 B;exact DF (DE F23 B D15 D17 D9 D18 D14 D19 D21 D22)
end Z
namespace PySem.W.Fast
def qd:=0
def qi:=0
def oN:=0
def oH:=0
def nQ:=0
def qb:=0
def oK:=0
def pv:=0
def qv:=0
def nH:=0
def pB:=0
def oU:=0
def qr:=0
def p7:=0
def pR:=0
def n6:=0
def qg:=0
def nV:=0
def oC:=0
def og:=0
def n4:=0
def oJ:=0
def qa:=0
def nY:=0
def nW:=0
def qt:=0
def qf:=0
def ot:=0
def pT:=0
def qj:=0
def nK:=0
def oe:=0
def rp:=0
def sf:=0
def sx:=0
def qk:=0
def qh:=0
def nF:=0
def pS:=0
def oI:=0
def oZ:=0
def pA:=0
def pq:=0
def oG:=0
def ox:=0
def qm:=0
def p5:=0
def pP:=0
def pg:=0
def qw:=0
def nI:=0
def sr:=0
def pD:=0
def pF:=0
def oB:=0
def p6:=0
def pX:=0
def nN:=0
def pU:=0
def oS:=0
def pQ:=0
def nE:=0
def pV:=0
def qp:=0
def qq:=0
def qc:=0
def qx:=0
def pY:=0
def oW:=0
def pN:=0
def qu:=0
end PySem.W.Fast
open PySem PySem.W PyProof.Rows
set_option maxRecDepth 100000 in
set_option maxHeartbeats 0 in
theorem PySem.Challenge.cw_besidewords_k25_whole_stretches_of_a_tex_holds : PySem.Challenge.rw_besidewords_k25_whole_stretches_of_a_tex.Holds := by
 w_on; o_law; k_head; (case hw => w_witness2)
 k_fill
 refine Y.Fd (l := PySem.Challenge.rw_besidewords_k25_whole_stretches_of_a_tex) (k := 9) (x := "_law_script") rfl rfl ⟨rfl, by decide, by decide⟩ (fun w h Y => km_in_of Y) ?T ?F
 case T =>
  intro w h Yk q hq;rcases (by simpa [Y.b0.T] using hq : q = ((37 : Addr), ("ends.<locals>.<lambda>" : Str)) \/ q = ((58 : Addr), ("stretch_of.<locals>.<lambda>" : Str))) with rfl | rfl
  . refine Y.tabs_ok (c := 41) Yk ?x1 ?x2 ?x3
    (case x1 => simp)
    (case x2 => kernel_rfl)
    (case x3 => kernel_rfl)
  . refine Y.tabs_ok (c := 62) Yk ?x1 ?x2 ?x3
    (case x1 => simp)
    (case x2 => kernel_rfl)
    (case x3 => kernel_rfl)
 case F =>
  intro w mg fa h KX G hmg;refine' Z.all_mk KX G hmg (Z.fk ?a1 ?l1 ?c1 ?k1) (Z.fk ?a2 ?l2 ?c2 ?k2) (Z.fk ?a3 ?l3 ?c3 ?k3) (Z.He ?a4 ?l4 ?c4 ?k4 ?h4) (Z.fk ?a5 ?l5 ?c5 ?k5) (Z.fk ?a6 ?l6 ?c6 ?k6) (Z.He ?a7 ?l7 ?c7 ?k7 ?h7) (Z.fk ?a8 ?l8 ?c8 ?k8) (Z.fk ?a9 ?l9 ?c9 ?k9) (Z.fk ?a10 ?l10 ?c10 ?k10) (Z.fk ?a11 ?l11 ?c11 ?k11) (Z.fk ?a12 ?l12 ?c12 ?k12) (Z.fk ?a13 ?l13 ?c13 ?k13) (Z.fk ?a14 ?l14 ?c14 ?k14) (Z.fk ?a15 ?l15 ?c15 ?k15) (Z.fk ?a16 ?l16 ?c16 ?k16) (Z.fk ?a17 ?l17 ?c17 ?k17) (Z.fk ?a18 ?l18 ?c18 ?k18) (Z.fk ?a19 ?l19 ?c19 ?k19) (Z.fk ?a20 ?l20 ?c20 ?k20) (Z.fk ?a21 ?l21 ?c21 ?k21) (Z.fk ?a22 ?l22 ?c22 ?k22) ?a23 ?l23 ?c23 ?k23 ?g1 ?z_enumerate ?z_len ?z_list ?z_max ?z_range ?z_set ?z_sorted ?z_tuple ?z_zip
  (case a1|l1|c1|k1|a2|l2|c2|k2|a3|l3|c3|k3|a4|l4|c4|k4|a5|l5|c5|k5|a6|l6|c6|k6|a7|l7|c7|k7|a8|l8|c8|k8|a9|l9|c9|k9|a10|l10|c10|k10|a11|l11|c11|k11|a12|l12|c12|k12|a13|l13|c13|k13|a14|l14|c14|k14|a15|l15|c15|k15|a16|l16|c16|k16|a17|l17|c17|k17|a18|l18|c18|k18|a19|l19|c19|k19|a20|l20|c20|k20|a21|l21|c21|k21|a22|l22|c22|k22|a23|l23|c23|k23|g1|z_enumerate|z_len|z_list|z_max|z_range|z_set|z_sorted|z_tuple|z_zip => k_is)
  (case h4|h7 => kernel_rfl)
