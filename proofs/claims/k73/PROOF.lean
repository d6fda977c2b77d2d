import PyProof.Rows.All
import Wide.All
import OpenK.AllK
import Wide.FinOn
import Lean
import PyProof.EqAt
import PyProof.EqKinds
import PyProof.TupleCall
import PyProof.FactsAll.dict
import PyProof.Rows.SeqMore
import PyProof.Rows.StrCase
import PyProof.ToksMono
import PyProof.AutoIntG2
import PyProof.DictIter
import PyProof.DictWalks
import PyProof.SeqI3
import KE.KMinKey
import PyProof.ListNew
import PyProof.AutoListH
import PyProof.FactsAll.list_2
import PySem.Challenge.RW_besidewords_k73_whole_texts_laid_togethe
open List (length_map mem_map getElem?_map map_map mem_cons map_append size_toArray map_cons mem_append getElem?_append_left mem_of_getElem? mem_cons_of_mem length_take take_length take_add_one mem_cons_self mem_append_right append_nil map_congr_left getElem_mem range_succ length_range nodup_cons getElem?_append_right cons_append length_cons lookup_cons not_mem_nil find?_cons any_eq_true map_nil length_filter_le take_append_drop mem_filter length_drop filter_map filter_append flatten_append)
open PySem.Heap (lt_size get?_push_of_some get?_push_size)
open PySem.W (Frag keepIn codeHdIn kla_obj envX mg_of mg_none_of)
set_option Elab.async false
set_option linter.all false
set_option maxRecDepth 100000
namespace L2
open PySem PySem.Spec PyProof.Rows
abbrev Key := Sum Int Str
def keyIs : Key -> Value -> Bool
 | .inl k, v => Value.isInt k v
 | .inr x, v => Value.isStrOf x v
def keyH (w : World) : Key -> Int
 | .inl k => hashInt k
 | .inr x => hashStr w x
theorem keyIs_shape : ∀ {k : Key} {v : Value}, keyIs k v = true -> (∃ i t, k = Sum.inl i /\ v = Value.int i t) \/ (∃ x t, k = Sum.inr x /\ v = Value.str x t)
 | .inl i, v, h => by
  obtain ⟨t, e⟩ := Value.isInt_shape (k := i) (v := v) h
  exact .inl ⟨i, t, rfl, e⟩
 | .inr x, v, h => by
  obtain ⟨t, e⟩ := Value.isStrOf_shape (x := x) (v := v) h
  exact .inr ⟨x, t, rfl, e⟩
theorem keyIs_int (i : Int) (t : Tok) : keyIs (.inl i) (.int i t) = true := by simp [keyIs, Value.isInt]
theorem keyIs_str (x : Str) (t : Tok) : keyIs (.inr x) (.str x t) = true := by simp [keyIs, Value.isStrOf]
theorem key_ll (a b : Int) : decide ((Sum.inl a : Key) = Sum.inl b) = (a == b) := by
 by_cases e : a = b
 . subst e; simp
 . have h : ¬ (Sum.inl a : Key) = Sum.inl b := fun q => e (Sum.inl.inj q)
   rw [decide_eq_false h]
   exact (beq_eq_false_iff_ne.mpr e).symm
theorem key_rr (a b : Str) : decide ((Sum.inr a : Key) = Sum.inr b) = decide (a = b) := by
 by_cases e : a = b
 . subst e; simp
 . have h : ¬ (Sum.inr a : Key) = Sum.inr b := fun q => e (Sum.inr.inj q)
   rw [decide_eq_false h, decide_eq_false e]
theorem key_lr (a : Int) (b : Str) : decide ((Sum.inl a : Key) = Sum.inr b) = false := decide_eq_false (fun q => nomatch q)
theorem key_rl (a : Str) (b : Int) : decide ((Sum.inr a : Key) = Sum.inl b) = false := decide_eq_false (fun q => nomatch q)
def mixKind (prog : Program) (w : World) : PySem.KeyKind prog w Key where
 is := keyIs
 hash := keyH w
 inj := fun v a b ha hb => by
  rcases keyIs_shape ha with ⟨i, t, rfl, rfl⟩ | ⟨x, t, rfl, rfl⟩
  . rcases keyIs_shape hb with ⟨j, u, rfl, e⟩ | ⟨y, u, rfl, e⟩
    . injection e with e1 _; rw [e1]
    . exact nomatch e
  . rcases keyIs_shape hb with ⟨j, u, rfl, e⟩ | ⟨y, u, rfl, e⟩
    . exact nomatch e
    . injection e with e1 _; rw [e1]
 byValue := fun k v h => by
  rcases keyIs_shape h with ⟨i, t, rfl, rfl⟩ | ⟨x, t, rfl, rfl⟩ <;> rfl
 pyHash := fun hv h => by
  rcases keyIs_shape hv with ⟨i, t, rfl, rfl⟩ | ⟨x, t, rfl, rfl⟩
  . exact wpAny_pyHash_int h
  . exact wpAny_pyHash_str h
 eqBool := fun hu hv h => by
  rcases keyIs_shape hu with ⟨i, t, rfl, rfl⟩ | ⟨x, t, rfl, rfl⟩
  . rcases keyIs_shape hv with ⟨j, u, rfl, rfl⟩ | ⟨y, u, rfl, rfl⟩
    . rw [key_ll] at h; exact wpAny_eqBool_int h
    . rw [key_lr] at h; exact SeqAt.EqAt.int_str i t y u _ _ _ _ h
  . rcases keyIs_shape hv with ⟨j, u, rfl, rfl⟩ | ⟨y, u, rfl, rfl⟩
    . rw [key_rl] at h; exact SeqAt.EqAt.str_int x t j u _ _ _ _ h
    . rw [key_rr] at h; exact wpAny_eqBool_str h
 «strs» := fun k x t v h => by
  rcases keyIs_shape h with ⟨i, u, rfl, e⟩ | ⟨y, u, rfl, e⟩
  . exact nomatch e
  . injection e with e1 _
    subst e1
    cases v <;> rfl
theorem mixKind_int (prog : Program) (w : World) (i : Int) (t : Tok) : (mixKind prog w).is (.inl i) (.int i t) = true := keyIs_int i t
theorem mixKind_str (prog : Program) (w : World) (x : Str) (t : Tok) : (mixKind prog w).is (.inr x) (.str x t) = true := keyIs_str x t
inductive V where
 | non | bl (b : Bool) | int (i : Int) | str (x : Str) | byt (b : Array UInt8) | flt (b : UInt64) | ref (a : Addr) | ty (n : String)
 deriving DecidableEq
def RelV : V -> Value -> Prop
 | .non, u => u = Value.none
 | .bl b, u => u = Value.bool b
 | .int i, u => ∃ t, u = Value.int i t
 | .str x, u => ∃ t, u = Value.str x t
 | .byt b, u => ∃ t, u = Value.bytes b t
 | .flt b, u => ∃ t, u = Value.float b t
 | .ref a, u => u = Value.ref a
 | .ty n, u => u = Value.type n
abbrev Vals : List V -> List Value -> Prop := Paired RelV
theorem Vals.length {xs : List V} {us : List Value} (r : Vals xs us) : xs.length = us.length := Paired.length r
theorem Vals.get : ∀ {xs : List V} {us : List Value} {i : Nat} {x : V}, Vals xs us -> xs[i]? = some x -> ∃ u, us[i]? = some u /\ RelV x u
 | _, _, _, _, .nil, e => by simp at e
 | _, _, 0, _, .cons r _, e => by simp at e; subst e; exact ⟨_, rfl, r⟩
 | _, _, i + 1, x, .cons _ t, e => by
  obtain ⟨u, h1, h2⟩ := Vals.get (i := i) (x := x) t (by simpa using e)
  exact ⟨u, by simpa using h1, h2⟩
theorem Vals.append : ∀ {xs ys : List V} {us ws : List Value}, Vals xs us -> Vals ys ws -> Vals (xs ++ ys) (us ++ ws)
 | _, _, _, _, .nil, s => s
 | _, _, _, _, .cons r t, s => .cons r (Vals.append t s)
theorem Vals.take : ∀ {xs : List V} {us : List Value} (n : Nat), Vals xs us -> Vals (xs.take n) (us.take n)
 | _, _, 0, _ => .nil
 | _, _, _ + 1, .nil => .nil
 | _, _, n + 1, .cons r t => .cons r (Vals.take n t)
theorem Vals.drop : ∀ {xs : List V} {us : List Value} (n : Nat), Vals xs us -> Vals (xs.drop n) (us.drop n)
 | _, _, 0, r => r
 | _, _, _ + 1, .nil => .nil
 | _, _, n + 1, .cons _ t => Vals.drop n t
def RelO : Option V -> Option Value -> Prop
 | some v, some u => RelV v u
 | none, none => True
 | _, _ => False
def KV {κ : Type} : List (κ × V) -> List (κ × Value) -> Prop := Paired fun (p : κ × V) (q : κ × Value) => p.1 = q.1 /\ RelV p.2 q.2
def kV : Key -> V
 | .inl i => .int i
 | .inr x => .str x
inductive HO where
 | lst (xs : List V)
 | tup (xs : List V)
 | dK (kvs : List (Key × V)) | dT (kvs : List (List Key × V))
 | set (S : Int -> Bool) (n : Nat)
 | ins (C dx : Addr) (fs : List (Str × V))
 | own (x : Addr)
 | xd (fs : List (Str × V))
 | met (f x : Addr)
 | rng (lo hi : Int)
 | frz (o : Obj) (u : HO)
 | tbl (ps : Array Value)
 | ext (φ : Heap -> Prop)
abbrev Hp := Addr -> Option HO
def upd (H : Hp) (a : Addr) (o : HO) : Hp := fun b => if b = a then some o else H b
theorem upd_same {H : Hp} {a : Addr} {o : HO} : upd H a o a = some o := by unfold upd; rw [if_pos rfl]
theorem upd_ne {H : Hp} {a b : Addr} {o : HO} (h : b ≠ a) : upd H a o b = H b := by unfold upd; rw [if_neg h]
theorem ne_of {H : Hp} {a b : Addr} {o u : HO} (h : H a = some o) (h' : H b = some u) (d : o ≠ u) : a ≠ b := by
 intro e; subst e; rw [h] at h'; exact d (Option.some.inj h')
theorem ne_of_none {H : Hp} {a b : Addr} {o : HO} (h : H a = some o) (h' : H b = none) : a ≠ b := by
 intro e; subst e; rw [h] at h'; cases h'
section
variable (P : Program) (w : World)
def ObjOk (H : Hp) (h : Heap) (a : Addr) : HO -> Prop
 | .lst xs => xs.length <= sizeLine /\ ∃ (its : List Value) (n : Nat), Vals xs its /\ h.get? a = some { cls := .type "list", data := .seq its.toArray n }
 | .tup xs => xs.length <= sizeLine /\ ∃ its : List Value, Vals xs its /\ IsTup h a its.toArray
 | .dK kvs => kvs.length <= sizeLine /\ (a == sysModules) = false /\ ∃ vs, KV kvs vs /\ h.DictOf (mixKind P w) a vs
 | .dT kvs => kvs.length <= sizeLine /\ (a == sysModules) = false /\ ∃ xs : List (List Key × Addr × Value),
  Paired (fun (p : List Key × V) (q : List Key × Addr × Value) => p.1 = q.1 /\ H q.2.1 = some (.tup (p.1.map kV)) /\ RelV p.2 q.2.2) kvs xs /\
  ∃ o es ep, h.get? a = some o /\ o.ExactDict /\ o.data = .dict es ep /\ es.toList = xs.map (entryOfKey (tupleKind (mixKind P w))) /\ (xs.map (·.1)).Nodup
 | .set S n => h.SetOf (intKind P w) a S n
 | .ins C dx fs => H dx = some (.own a) /\ fs.length <= 1000 /\ dx ≠ a /\ h.get? a = some (PySem.W.instObj C dx) /\
  ∃ mA, h.Ns1 dx mA /\ (∀ f, RelO (fs.lookup f) (mA f)) /\ PySem.Within mA (fs.map (·.1))
 | .own _ => ∃ o, h.get? a = some o
 | .xd fs => ∃ mA, h.Ns1 a mA /\ ∀ f, RelO (fs.lookup f) (mA f)
 | .rng lo hi => ∃ t u v, h.get? a = some { cls := .type "range", data := .fields #[.int lo t, .int hi u, .int 1 v] }
 | .frz o u => h.get? a = some o /\ ObjOk H h a u
 | .tbl ps => h.get? a = some { cls := .none, data := .fields ps }
 | .met f x => h.get? a = some (PySem.W.methodObj (.ref f) (.ref x))
 | .ext φ => φ h /\ (∃ o, h.get? a = some o) /\ ∀ h1 h2 : Heap, φ h1 -> (∀ o, h1.get? a = some o -> h2.get? a = some o) -> φ h2
def HOk (H : Hp) (h : Heap) : Prop := ∀ a o, H a = some o -> ObjOk P w H h a o
end
section
variable {P : Program} {w : World} {H H' : Hp} {h h' : Heap} {a : Addr} {o : HO}
theorem ObjOk.lt (x : ObjOk P w H h a o) : a < h.objs.size := by
 cases o with
 | lst xs => obtain ⟨_, _, _, _, e⟩ := x; exact lt_size e
 | tup xs => obtain ⟨_, _, _, p⟩ := x; exact p.lt
 | dK kvs => obtain ⟨_, _, _, _, o, _, _, e, _⟩ := x; exact lt_size e
 | dT kvs => obtain ⟨_, _, _, _, o, _, _, e, _⟩ := x; exact lt_size e
 | set S n => obtain ⟨o, _, _, _, e, _⟩ := x; exact lt_size e
 | ins C dx fs => obtain ⟨_, _, _, e, _⟩ := x; exact lt_size e
 | own y => obtain ⟨_, e⟩ := x; exact lt_size e
 | xd fs => obtain ⟨_, ⟨_, _, _, e, _⟩, _⟩ := x; exact lt_size e
 | rng lo hi => obtain ⟨_, _, _, e⟩ := x; exact lt_size e
 | frz ob u => obtain ⟨e, _⟩ := x; exact lt_size e
 | tbl ps => exact lt_size (show h.get? a = some _ from x)
 | met f y => exact lt_size (show h.get? a = some _ from x)
 | ext φ => obtain ⟨_, ⟨_, e⟩, _⟩ := x; exact lt_size e
theorem Paired.mapP {α β : Type} {F G : α -> β -> Prop} : ∀ {l₁ : List α} {l₂ : List β}, Paired F l₁ l₂ -> (∀ a b, F a b -> G a b) -> Paired G l₁ l₂
 | _, _, .nil, _ => .nil
 | _, _, .cons r t, f => .cons (f _ _ r) (Paired.mapP t f)
theorem ObjOk.stay (x : ObjOk P w H h a o) (k : ∀ b u, (b = a \/ H b = some (.own a)) -> h.get? b = some u -> h'.get? b = some u)
 (ho : ∀ b, H b = some (.own a) -> H' b = some (.own a)) (ht : ∀ b xs, H b = some (.tup xs) -> H' b = some (.tup xs)) : ObjOk P w H' h' a o := by
 induction o with
 | lst xs => obtain ⟨z, its, n, r, e⟩ := x; exact ⟨z, its, n, r, k _ _ (.inl rfl) e⟩
 | tup xs => obtain ⟨z, its, r, ob, e, c⟩ := x; exact ⟨z, its, r, ob, k _ _ (.inl rfl) e, c⟩
 | dK kvs => obtain ⟨z, y, vs, r, ob, es, ep, e, c⟩ := x; exact ⟨z, y, vs, r, ob, es, ep, k _ _ (.inl rfl) e, c⟩
 | dT kvs =>
  obtain ⟨z, y, xs, r, ob, es, ep, e, c⟩ := x
  exact ⟨z, y, xs, Paired.mapP r fun p q z => ⟨z.1, ht _ _ z.2.1, z.2.2⟩, ob, es, ep, k _ _ (.inl rfl) e, c⟩
 | set S n => obtain ⟨ob, es, ep, t, e, c⟩ := x; exact ⟨ob, es, ep, t, k _ _ (.inl rfl) e, c⟩
 | ins C dx fs =>
  obtain ⟨d, z, ne, e, mA, ⟨od, es, ep, e2, c⟩, r⟩ := x
  exact ⟨ho _ d, z, ne, k _ _ (.inl rfl) e, mA, ⟨od, es, ep, k _ _ (.inr d) e2, c⟩, r⟩
 | own y => obtain ⟨ob, e⟩ := x; exact ⟨ob, k _ _ (.inl rfl) e⟩
 | xd fs => obtain ⟨mA, ⟨od, es, ep, e, c⟩, r⟩ := x; exact ⟨mA, ⟨od, es, ep, k _ _ (.inl rfl) e, c⟩, r⟩
 | rng lo hi => obtain ⟨t, u, v, e⟩ := x; exact ⟨t, u, v, k _ _ (.inl rfl) e⟩
 | frz ob u ih => obtain ⟨e, q⟩ := x; exact ⟨k _ _ (.inl rfl) e, ih q⟩
 | tbl ps =>
  have e : h.get? a = some { cls := .none, data := .fields ps } := x
  show h'.get? a = some { cls := .none, data := .fields ps }
  exact k a _ (.inl rfl) e
 | met f y =>
  have e : h.get? a = some (PySem.W.methodObj (.ref f) (.ref y)) := x
  show h'.get? a = some (PySem.W.methodObj (.ref f) (.ref y))
  exact k a _ (.inl rfl) e
 | ext φ => obtain ⟨p, ⟨o, e⟩, st⟩ := x; exact ⟨st _ _ p fun o q => k _ _ (.inl rfl) q, ⟨o, k _ _ (.inl rfl) e⟩, st⟩
theorem HOk.lt (x : HOk P w H h) (e : H a = some o) : a < h.objs.size := (x a o e).lt
theorem HOk.fresh (x : HOk P w H h) (e : h.objs.size <= a) : H a = none := by
 cases q : H a with
 | none => rfl
 | some u => exact absurd (Nat.lt_of_lt_of_le (x.lt q) e) (Nat.lt_irrefl _)
theorem HOk.kept (x : HOk P w H h) (k : ∀ b u, h.get? b = some u -> h'.get? b = some u) : HOk P w H h' := fun a o e =>
 (x a o e).stay (fun b u _ q => k b u q) (fun _ q => q) fun _ _ q => q
theorem HOk.laid (x : HOk P w H h) (k : ∀ b u, h.get? b = some u -> h'.get? b = some u) (hp : h.objs.size <= a) (new : ObjOk P w (upd H a o) h' a o) : HOk P w (upd H a o) h' := fun b u e => by
 have hn := x.fresh hp
 by_cases hb : b = a
 . subst hb; rw [upd_same] at e; cases e; exact new
 . rw [upd_ne hb] at e
   exact (x b u e).stay (fun c v _ q => k c v q) (fun c q => by rw [upd_ne (ne_of_none q hn)]; exact q) fun c xs q => by rw [upd_ne (ne_of_none q hn)]; exact q
end
def Rd (H : Hp) (a : Addr) (u : HO) : Prop := H a = some u \/ ∃ o, H a = some (.frz o u)
theorem Rd.ok {P : Program} {w : World} {H : Hp} {h : Heap} {a : Addr} {u : HO} (r : Rd H a u) (x : HOk P w H h) : ObjOk P w H h a u := by
 rcases r with r | ⟨o, r⟩
 . exact x a u r
 . obtain ⟨_, q⟩ := x a _ r
   exact q
def Mut : Option HO -> Prop
 | some (.lst _) => True
 | some (.dK _) => True
 | some (.dT _) => True
 | some (.set _ _) => True
 | some (.ins _ _ _) => True
 | some (.ext _) => True
 | _ => False
section
variable {P : Program} {w : World} {H : Hp} {h h' : Heap} {x e : Addr} {o' : HO}
theorem HOk.write (ok : HOk P w H h) (mu : Mut (H x)) (he : e = x \/ H e = some (.own x)) (k : ∀ b u, b ≠ e -> h.get? b = some u -> h'.get? b = some u) (heo : ∃ u, h'.get? e = some u)
 (new : ObjOk P w (upd H x o') h' x o') : HOk P w (upd H x o') h' := fun b u q => by
 have nown : ∀ c y, H c = some (.own y) -> c ≠ x := fun c y r z => by subst z; rw [r] at mu; exact mu
 have ntup : ∀ c xs, H c = some (.tup xs) -> c ≠ x := fun c xs r z => by subst z; rw [r] at mu; exact mu
 by_cases hb : b = x
 . subst hb; rw [upd_same] at q; cases q; exact new
 . rw [upd_ne hb] at q
   by_cases hbe : b = e
   . have q' : H b = some (.own x) := by
      rcases he with z | z
      . exact absurd (hbe.trans z) hb
      . rw [hbe]; exact z
     rw [q] at q'; cases q'
     obtain ⟨v, hv⟩ := heo
     exact ⟨v, by rw [hbe]; exact hv⟩
   . refine (ok b u q).stay (fun c v hc r => k c v ?_ r) (fun c r => by rw [upd_ne (nown c b r)]; exact r) fun c xs r => by rw [upd_ne (ntup c xs r)]; exact r
     rcases hc with rfl | hc
     . exact hbe
     . rintro rfl
       rcases he with z | z
       . exact nown c b hc z
       . rw [hc] at z; cases z; exact hb rfl
end
structure Un (fs ex : List Addr) (H H' : Hp) (h h' : Heap) : Prop where
 keep : ∀ b o, h.get? b = some o -> H b = none -> b ∉ fs -> b ∉ ex -> h'.get? b = some o
 slot : ∀ b o, h.get? b = some o -> H b = none -> b ∈ fs -> b ∉ ex -> ∃ sl, h'.get? b = some { o with slots := sl }
 free : ∀ b o, h.get? b = some o -> H b = none -> b ∉ ex -> H' b = none
 there : ∀ b o, h.get? b = some o -> b ∉ ex -> ∃ o', h'.get? b = some o'
 tups : ∀ b xs, H b = some (.tup xs) -> H' b = some (.tup xs)
 frzs : ∀ b o u, H b = some (.frz o u) -> H' b = some (.frz o u)
 tbls : ∀ b ps, H b = some (.tbl ps) -> ∃ more, H' b = some (.tbl (ps ++ more))
section
variable {fs fs' ex ex' : List Addr} {H H1 H2 : Hp} {h h1 h2 h' : Heap} {a x e : Addr} {o : HO}
theorem Un.any (u : Un fs ex H H1 h h1) {b : Addr} {ob : Obj} (q : h.get? b = some ob) (n : H b = none) (hx : b ∉ ex) : ∃ sl, h1.get? b = some { ob with slots := sl } := by
 by_cases hb : b ∈ fs
 . exact u.slot b ob q n hb hx
 . exact ⟨ob.slots, u.keep b ob q n hb hx⟩
theorem Un.kept (k : ∀ b u, h.get? b = some u -> h'.get? b = some u) : Un fs ex H H h h' :=
 ⟨fun b ob q _ _ _ => k b ob q, fun b ob q _ _ _ => ⟨ob.slots, k b ob q⟩, fun _ _ _ n _ => n, fun b ob q _ => ⟨ob, k b ob q⟩, fun _ _ q => q, fun _ _ _ q => q, fun _ ps q => ⟨#[], by rw [q]; simp⟩⟩
theorem Un.refl : Un fs ex H H h h := Un.kept fun _ _ q => q
theorem Un.laid (k : ∀ b u, h.get? b = some u -> h'.get? b = some u) (hp : h.objs.size <= a) (hn : H a = none) : Un fs ex H (upd H a o) h h' where
 keep := fun b u q _ _ _ => k b u q
 slot := fun b u q _ _ _ => ⟨u.slots, k b u q⟩
 free := fun b u q n _ => by rw [upd_ne (Nat.ne_of_lt (Nat.lt_of_lt_of_le (lt_size q) hp))]; exact n
 there := fun b u q _ => ⟨u, k b u q⟩
 tups := fun b xs q => by rw [upd_ne (ne_of_none q hn)]; exact q
 frzs := fun b u xs q => by rw [upd_ne (ne_of_none q hn)]; exact q
 tbls := fun b ps q => ⟨#[], by rw [upd_ne (ne_of_none q hn), q]; simp⟩
theorem Un.write (mu : Mut (H x)) (he : e = x \/ H e = some (.own x)) (k : ∀ b u, b ≠ e -> h.get? b = some u -> h'.get? b = some u) (heo : ∃ u, h'.get? e = some u) : Un fs ex H (upd H x o) h h' := by
 have hx : ∀ b, H b = none -> b ≠ x := fun b n z => by subst z; rw [n] at mu; exact mu
 have hb : ∀ b, H b = none -> b ≠ e := fun b n z => by
  subst z
  rcases he with r | r
  . exact hx b n r
  . rw [n] at r; cases r
 have hm : ∀ b u, H b = some u -> ¬ Mut (some u) -> b ≠ x := fun b u q nm z => by subst z; rw [q] at mu; exact nm mu
 refine ⟨fun b u q n _ _ => k b u (hb b n) q, fun b u q n _ _ => ⟨u.slots, k b u (hb b n) q⟩, fun b u q n _ => by rw [upd_ne (hx b n)]; exact n, fun b u q _ => ?_,
  fun b xs q => by rw [upd_ne (hm b _ q fun z => z)]; exact q, fun b u xs q => by rw [upd_ne (hm b _ q fun z => z)]; exact q, fun b ps q => ⟨#[], by rw [upd_ne (hm b _ q fun z => z), q]; simp⟩⟩
 by_cases hbe : b = e
 . subst hbe; exact heo
 . exact ⟨u, k b u hbe q⟩
end
def trk (h : Heap) (H : Hp) : List Addr := (List.range h.objs.size).filter fun a => (H a).isSome
def hidT (h : Heap) (H : Hp) : Heap := PySem.W.hideAll h (trk h H)
theorem hidT_size (h : Heap) (H : Hp) : (hidT h H).objs.size = h.objs.size := PySem.W.hideAll_size _ _
theorem hidT_get {h : Heap} {H : Hp} {b : Addr} {o : Obj} (e : h.get? b = some o) (n : H b = none) : (hidT h H).get? b = some o :=
 PySem.W.hideAll_get _ e fun hm => by
  have q : (H b).isSome = true := (mem_filter.mp hm).2
  rw [n] at q; simp at q
theorem of_hidT {h : Heap} {H : Hp} {b : Addr} {o : Obj} (e : (hidT h H).get? b = some o) : h.get? b = some o /\ H b = none := by
 have e' : h.get? b = some o := PySem.W.of_hideAll (trk h H) e
 refine ⟨e', ?_⟩
 cases q : H b with
 | none => rfl
 | some x =>
  have hm : b ∈ trk h H := mem_filter.mpr ⟨List.mem_range.mpr (lt_size e'), by simp [q]⟩
  have z : (hidT h H).get? b = none := PySem.W.hideAll_none (trk h H) hm
  rw [z] at e; cases e
def allNews (g h : Heap) (L : Addr) : List (Addr × Obj) := (List.range h.objs.size).filterMap fun a => if a = L \/ (g.get? a).isSome = true then none else (h.get? a).map fun o => (a, o)
def rest (g h : Heap) (L d : Addr) : List (Addr × Obj) := (allNews g h L).filter fun p => decide (p.1 ≠ d)
structure Mod (K : Frag) (mg : Str -> Option Value) (base : Heap) : Prop where
 kin : K.In base
 glob : base.Ns mainGlobals mg
 blt : ∃ mb, base.Ns builtinsNs mb /\ ∀ x : Str, x ≠ "__name__" -> mb x = bootBuiltins x
 nolimit : base.NoLimit
structure Cx where
 prog : Program
 w : World
 K : Frag
 mg : Str -> Option Value
 base : Heap
 A : Around
 N : List Str
 s₀ : Shared
 H₀ : Hp
 env : Env
 outer : List Env
 stack : List Env
 ex : List Addr
 fn : Str -> Bool
 calm : Bool
 pn : List (Addr × Obj)
 xe : Value -> Shared -> Prop
def frs (l : List Env) : List Addr := l.filterMap (·.frame)
abbrev Cx.fs (X : Cx) : List Addr := frs X.outer
def Vis (sc : Scope) (x : Str) : Prop := sc.names.lookup x = some .local \/ sc.names.lookup x = some .cell \/ sc.names.lookup x = some .free
def Loc (sc : Scope) (x : Str) : Prop := sc.names.lookup x = some .local \/ sc.names.lookup x = some .cell
def Look (env : Env) (h : Heap) (m : Str -> Option Value) (x : Str) (u : Value) : Prop :=
 (env.kindOf x = some .local /\ m x = some u) \/ ((env.kindOf x = some .cell \/ env.kindOf x = some .free) /\ ∃ c, env.cells.lookup x = some c /\ h.IsCell c (some u))
structure Cx.Ok (X : Cx) : Prop where
 mod : Mod X.K X.mg X.base
 kind : X.env.scope.kind = .function
 glob : X.env.globals = mainGlobals
 blt : X.env.builtins = builtinsNs
 above : X.s₀.heap.objs.size <= X.env.locals
 inj : ∀ x y c, X.env.cells.lookup x = some c -> X.env.cells.lookup y = some c -> x = y
 has : ∀ x, (X.env.kindOf x = some .cell \/ X.env.kindOf x = some .free) -> ∃ c, X.env.cells.lookup x = some c
 cab : ∀ x c, X.fn x = true -> X.env.cells.lookup x = some c -> X.s₀.heap.objs.size <= c
 hd : X.calm = true -> X.A.handled = none
 frames : X.A.frames = some X.stack
 stk : X.stack = X.outer \/ (X.stack = X.env :: X.outer /\ X.env.frame = some X.env.locals)
 exf : ∀ b ∈ X.ex, b ≠ X.env.locals /\ ∀ x c, X.env.cells.lookup x = some c -> c ≠ b
 bs : ∀ b o, X.base.get? b = some o -> X.s₀.heap.get? b = some o /\ X.H₀ b = none
 bsz : X.base.objs.size <= X.s₀.heap.objs.size
 noex : ∀ b o, X.base.get? b = some o -> b ∉ X.ex
 exfs : ∀ b ∈ X.ex, b ∉ X.fs
 funs : X.s₀.heap.FunFrames X.base X.outer
 frf : ∀ b ∈ X.fs, X.H₀ b = none
structure Inv (X : Cx) (pins : List (Addr × Obj)) (σ : List (Option V)) (H : Hp) (s : Shared) : Prop where
 ok : X.Ok
 os : s.os = X.s₀.os
 bare : AllBare s.gens
 base : Un X.fs X.ex X.H₀ H X.s₀.heap s.heap
 loc : ∃ m, s.heap.Ns X.env.locals m /\ ∀ (i : Nat) (x : Str) (v : V), X.N[i]? = some x -> σ[i]? = some (some v) -> Vis X.env.scope x -> ∃ u, RelV v u /\ Look X.env s.heap m x u
 cell : ∀ x c, X.env.cells.lookup x = some c -> ∃ v, s.heap.IsCell c v
 free : H X.env.locals = none
 freeC : ∀ x c, X.env.cells.lookup x = some c -> H c = none
 pin : ∀ p ∈ X.pn ++ pins, s.heap.get? p.1 = some p.2 /\ H p.1 = none /\ p.1 ≠ X.env.locals /\ p.1 ∉ X.fs /\ ∀ v, p.2.data ≠ .cell v
 hok : HOk X.prog X.w H s.heap
 len : σ.length = X.N.length
section
variable {X : Cx} {pins : List (Addr × Obj)} {σ : List (Option V)} {H H' : Hp} {s : Shared} {h' : Heap}
theorem Cx.Ok.nofr (ok : X.Ok) {b : Addr} {o : Obj} (e : X.base.get? b = some o) : b ∉ X.fs := fun hb => by
 have := (ok.funs.mem hb).1
 rw [e] at this; cases this
theorem Inv.bs (I : Inv X pins σ H s) : ∀ b o, X.base.get? b = some o -> s.heap.get? b = some o /\ H b = none := fun b o e =>
 ⟨I.base.keep b o (I.ok.bs b o e).1 (I.ok.bs b o e).2 (I.ok.nofr e) (I.ok.noex b o e), I.base.free b o (I.ok.bs b o e).1 (I.ok.bs b o e).2 (I.ok.noex b o e)⟩
theorem Inv.bk (I : Inv X pins σ H s) : ∀ b o, X.base.get? b = some o -> s.heap.get? b = some o := fun b o e => (I.bs b o e).1
theorem Inv.mod (I : Inv X pins σ H s) : Mod X.K X.mg X.base := I.ok.mod
theorem Inv.kIn (I : Inv X pins σ H s) : X.K.In s.heap := I.ok.mod.kin.keeps I.bk
theorem Inv.nolimit (I : Inv X pins σ H s) : s.heap.NoLimit := I.ok.mod.nolimit.keeps I.bk
theorem Inv.lt (I : Inv X pins σ H s) : X.env.locals < s.heap.objs.size := let ⟨_, hn, _⟩ := I.loc; hn.lt
theorem Inv.sz (I : Inv X pins σ H s) : X.s₀.heap.objs.size <= s.heap.objs.size := Nat.le_trans I.ok.above (Nat.le_of_lt I.lt)
theorem Inv.nofs (I : Inv X pins σ H s) {a : Addr} (h : s.heap.objs.size <= a) : a ∉ X.fs := fun hb => by
 obtain ⟨_, o, ho, _⟩ := I.ok.funs.mem hb
 exact absurd (Nat.lt_of_lt_of_le (lt_size ho) (Nat.le_trans I.sz h)) (Nat.lt_irrefl _)
theorem Inv.cne (I : Inv X pins σ H s) : ∀ x c, X.env.cells.lookup x = some c -> c ≠ X.env.locals := fun x c e z => by
 obtain ⟨v, o, ho, hd⟩ := I.cell x c e
 obtain ⟨m, ⟨o', es, ep, ho', hd', _⟩, _⟩ := I.loc
 rw [z, ho'] at ho; cases ho; rw [hd'] at hd; cases hd
theorem Inv.funs (I : Inv X pins σ H s) : s.heap.FunFrames X.base X.outer := by
 have all : ∀ (l : List Env), (∀ b ∈ frs l, b ∈ X.fs) -> X.s₀.heap.FunFrames X.base l -> s.heap.FunFrames X.base l := by
  intro l
  induction l with
  | nil => intro _ _; trivial
  | cons env r ih =>
   intro hs hl
   obtain ⟨hk, ⟨L, o, hf, hn, ho, hd⟩, hr⟩ := hl
   have hL : L ∈ X.fs := hs L (by unfold frs; rw [List.filterMap_cons, hf]; exact mem_cons_self)
   obtain ⟨sl, e⟩ := I.base.slot L o ho (I.ok.frf L hL) hL fun z => I.ok.exfs L z hL
   exact ⟨hk, ⟨L, _, hf, hn, e, hd⟩, ih (fun b hb => hs b (by unfold frs; rw [List.filterMap_cons, hf]; exact mem_cons_of_mem _ hb)) hr⟩
 exact all X.outer (fun _ hb => hb) I.ok.funs
theorem Inv.stack (I : Inv X pins σ H s) : s.heap.FunFrames X.base X.stack := by
 rcases I.ok.stk with e | ⟨e, hf⟩
 . rw [e]; exact I.funs
 . rw [e]
   obtain ⟨m, hn, _⟩ := I.loc
   refine .cons (by rw [I.ok.kind]; decide) hf hn ?_ I.funs
   exact Heap.get?_none_of_le (Nat.le_trans I.ok.bsz I.ok.above)
theorem Inv.stkSub (I : Inv X pins σ H s) : ∀ b ∈ frs X.stack, b ∈ X.env.locals :: X.fs := fun b hb => by
 rcases I.ok.stk with e | ⟨e, hf⟩
 . rw [e] at hb; exact mem_cons_of_mem _ hb
 . rw [e] at hb
   unfold frs at hb
   rw [List.filterMap_cons, hf] at hb
   exact hb
theorem Inv.stkFree (I : Inv X pins σ H s) : ∀ b ∈ frs X.stack, H b = none := fun b hb => by
 rcases mem_cons.mp (I.stkSub b hb) with e | hb
 . rw [e]; exact I.free
 . obtain ⟨_, o, ho, _⟩ := I.ok.funs.mem hb
   exact I.base.free b o ho (I.ok.frf b hb) fun z => I.ok.exfs b z hb
theorem Inv.step {g' : Array GenState} {t' : Nat} {d' : Drawn} {ch : List Addr} (I : Inv X pins σ H s)
 (hch : ∀ b ∈ ch, (b ∈ X.ex \/ X.s₀.heap.objs.size <= b) /\ b ≠ X.env.locals /\ (∀ x c, X.env.cells.lookup x = some c -> c ≠ b) /\ ∀ p ∈ X.pn ++ pins, p.1 ≠ b)
 (keep : ∀ b o, b ≠ X.env.locals -> b ∉ X.fs -> b ∉ ch -> s.heap.get? b = some o -> H b = none -> h'.get? b = some o)
 (slot : ∀ b o, b ≠ X.env.locals -> b ∈ X.fs -> b ∉ ch -> s.heap.get? b = some o -> H b = none -> ∃ sl, h'.get? b = some { o with slots := sl }) (free : ∀ b o, b ∉ ch -> s.heap.get? b = some o -> H b = none -> H' b = none)
 (there : ∀ b o, b ∉ ch -> s.heap.get? b = some o -> ∃ o', h'.get? b = some o')
 (tups : ∀ b xs, H b = some (.tup xs) -> H' b = some (.tup xs)) (frzs : ∀ b o u, H b = some (.frz o u) -> H' b = some (.frz o u)) (tbls : ∀ b ps, H b = some (.tbl ps) -> ∃ more, H' b = some (.tbl (ps ++ more)))
 (ns : ∀ m, s.heap.Ns X.env.locals m -> h'.Ns X.env.locals m) (hok : HOk X.prog X.w H' h') (hg : AllBare g') :
 Inv X pins σ H' { s with heap := h', gens := g', drawn := d', toks := t' } := by
 have neL : ∀ b o, X.s₀.heap.get? b = some o -> b ≠ X.env.locals := fun b o e => Nat.ne_of_lt (Nat.lt_of_lt_of_le (lt_size e) I.ok.above)
 have neC : ∀ b o, X.s₀.heap.get? b = some o -> b ∉ X.ex -> b ∉ ch := fun b o e hx hb => by
  rcases (hch b hb).1 with z | z
  . exact hx z
  . exact absurd (Nat.lt_of_lt_of_le (lt_size e) z) (Nat.lt_irrefl _)
 have cellK : ∀ x c, X.env.cells.lookup x = some c -> ∀ v, s.heap.IsCell c v -> h'.IsCell c v := fun x c e v ⟨o, ho, hd⟩ => by
  have nch : c ∉ ch := fun z => (hch c z).2.2.1 x c e rfl
  by_cases hc : c ∈ X.fs
  . obtain ⟨sl, q⟩ := slot c o (I.cne x c e) hc nch ho (I.freeC x c e)
    exact ⟨_, q, hd⟩
  . exact ⟨o, keep c o (I.cne x c e) hc nch ho (I.freeC x c e), hd⟩
 refine ⟨I.ok, I.os, hg, ⟨fun b o e n hb hx => ?_, fun b o e n hb hx => ?_, fun b o e n hx => ?_, fun b o e hx => ?_, fun b xs e => tups b xs (I.base.tups b xs e), fun b o xs e => frzs b o xs (I.base.frzs b o xs e), fun b ps e => ?_⟩, ?_, fun x c e => ?_, ?_, fun x c e => ?_, fun p hp => ?_, hok, I.len⟩
 . exact keep b o (neL b o e) hb (neC b o e hx) (I.base.keep b o e n hb hx) (I.base.free b o e n hx)
 . obtain ⟨sl, e1⟩ := I.base.slot b o e n hb hx
   obtain ⟨sl', e2⟩ := slot b _ (neL b o e) hb (neC b o e hx) e1 (I.base.free b o e n hx)
   exact ⟨sl', e2⟩
 . obtain ⟨o', e1⟩ := I.base.there b o e hx
   exact free b o' (neC b o e hx) e1 (I.base.free b o e n hx)
 . obtain ⟨o', e1⟩ := I.base.there b o e hx
   exact there b o' (neC b o e hx) e1
 . obtain ⟨m1, e1⟩ := I.base.tbls b ps e
   obtain ⟨m2, e2⟩ := tbls b _ e1
   exact ⟨m1 ++ m2, by rw [e2, Array.append_assoc]⟩
 . obtain ⟨m, hn, hl⟩ := I.loc
   refine ⟨m, ns m hn, fun i x v e1 e2 e3 => ?_⟩
   obtain ⟨u, r, l⟩ := hl i x v e1 e2 e3
   refine ⟨u, r, ?_⟩
   rcases l with l | ⟨k, c, e, z⟩
   . exact .inl l
   . exact .inr ⟨k, c, e, cellK x c e _ z⟩
 . obtain ⟨v, z⟩ := I.cell x c e
   exact ⟨v, cellK x c e v z⟩
 . obtain ⟨m, ⟨o, _, _, ho, _⟩, _⟩ := I.loc
   exact free _ o (fun z => (hch _ z).2.1 rfl) ho I.free
 . obtain ⟨v, o, ho, hd⟩ := I.cell x c e
   exact free c o (fun z => (hch c z).2.2.1 x c e rfl) ho (I.freeC x c e)
 . obtain ⟨e, n, ne, nf, d⟩ := I.pin p hp
   have nch : p.1 ∉ ch := fun z => (hch p.1 z).2.2.2 p hp rfl
   exact ⟨keep p.1 p.2 ne nf nch e n, free p.1 p.2 nch e n, ne, nf, d⟩
theorem Inv.un {t' : Nat} (I : Inv X pins σ H s) (u : Un X.fs [] H H' s.heap h') (hok : HOk X.prog X.w H' h') : Inv X pins σ H' { s with heap := h', toks := t' } := by
 obtain ⟨m, ⟨o, es, ep, ho, r⟩, _⟩ := id I.loc
 obtain ⟨sl, hL⟩ := u.any ho I.free (by simp)
 exact I.step (g' := s.gens) (d' := s.drawn) (ch := []) (fun _ z => nomatch z) (fun b o _ hb _ e n => u.keep b o e n hb (by simp)) (fun b o _ hb _ e n => u.slot b o e n hb (by simp)) (fun b o _ e n => u.free b o e n (by simp)) (fun b o _ e => u.there b o e (by simp)) u.tups u.frzs u.tbls (fun m' hm => by
  obtain ⟨o', es', ep', ho', r'⟩ := hm
  rw [ho] at ho'; cases ho'
  exact ⟨_, es', ep', hL, r'⟩) hok I.bare
theorem Inv.call {g' : Array GenState} {t' : Nat} {d' : Drawn} {ch : List Addr} (I : Inv X pins σ H s) (u : Un (frs X.stack) ch H H' s.heap h') (hok : HOk X.prog X.w H' h') (hg : AllBare g')
 (hch : ∀ b ∈ ch, (b ∈ X.ex \/ X.s₀.heap.objs.size <= b) /\ b ≠ X.env.locals /\ (∀ x c, X.env.cells.lookup x = some c -> c ≠ b) /\ ∀ p ∈ X.pn ++ pins, p.1 ≠ b) :
 Inv X pins σ H' { s with heap := h', gens := g', drawn := d', toks := t' } := by
 obtain ⟨m, ⟨o, es, ep, ho, r⟩, _⟩ := id I.loc
 obtain ⟨sl, hL⟩ := u.any ho I.free fun z => (hch _ z).2.1 rfl
 exact I.step (ch := ch) hch (fun b o hL hb hc e n => u.keep b o e n (fun z => (mem_cons.mp (I.stkSub b z)).elim hL hb) hc) (fun b o _ _ hc e n => u.any e n hc) (fun b o hc e n => u.free b o e n hc) (fun b o hc e => u.there b o e hc) u.tups u.frzs u.tbls (fun m' hm => by
  obtain ⟨o', es', ep', ho', r'⟩ := hm
  rw [ho] at ho'; cases ho'
  exact ⟨_, es', ep', hL, r'⟩) hok hg
theorem Inv.turned {t' : Nat} {it : Addr} (I : Inv X pins σ H s) (k : ∀ b o, b ≠ it -> s.heap.get? b = some o -> h'.get? b = some o) (hn : H it = none) (hL : it ≠ X.env.locals)
 (h1 : it ∈ X.ex \/ X.s₀.heap.objs.size <= it) (h2 : ∀ x c, X.env.cells.lookup x = some c -> c ≠ it) (h3 : ∀ p ∈ X.pn ++ pins, p.1 ≠ it) : Inv X pins σ H { s with heap := h', toks := t' } := by
 have nit : ∀ b u, H b = some u -> b ≠ it := fun b u e z => by rw [z, hn] at e; cases e
 refine I.step (g' := s.gens) (d' := s.drawn) (ch := [it]) (fun b hb => ?_) (fun b o _ _ hc e _ => k b o (fun z => hc (by simp [z])) e) (fun b o _ _ hc e _ => ⟨o.slots, k b o (fun z => hc (by simp [z])) e⟩) (fun _ _ _ _ n => n)
  (fun b o hc e => ⟨o, k b o (fun z => hc (by simp [z])) e⟩) (fun _ _ e => e) (fun _ _ _ e => e) (fun b ps e => ⟨#[], by rw [e]; simp⟩) (fun m hm => ?_) (fun b u e => ?_) I.bare
 . have e : b = it := by simpa using hb
   subst e
   exact ⟨h1, hL, h2, h3⟩
 . obtain ⟨o, es, ep, ho, r⟩ := hm
   exact ⟨o, es, ep, k _ o (Ne.symm hL) ho, r⟩
 . refine (I.hok b u e).stay (fun c v hc q => k c v ?_ q) (fun _ q => q) fun _ _ q => q
   rcases hc with z | z
   . rw [z]; exact nit b u e
   . exact nit c _ z
theorem Inv.tok (I : Inv X pins σ H s) (t : Nat) : Inv X pins σ H { s with toks := t } := I.un (h' := s.heap) (t' := t) Un.refl I.hok
theorem Inv.kept {t' : Nat} (I : Inv X pins σ H s) (k : ∀ b u, s.heap.get? b = some u -> h'.get? b = some u) : Inv X pins σ H { s with heap := h', toks := t' } := I.un (Un.kept k) (I.hok.kept k)
theorem Inv.laid {a : Addr} {o : HO} {t' : Nat} (I : Inv X pins σ H s) (k : ∀ b u, s.heap.get? b = some u -> h'.get? b = some u) (hp : s.heap.objs.size <= a) (new : ObjOk X.prog X.w (upd H a o) h' a o) :
 Inv X pins σ (upd H a o) { s with heap := h', toks := t' } := I.un (Un.laid k hp (I.hok.fresh hp)) (I.hok.laid k hp new)
theorem Inv.write {x e : Addr} {o : HO} {t' : Nat} (I : Inv X pins σ H s) (mu : Mut (H x)) (he : e = x \/ H e = some (.own x)) (k : ∀ b u, b ≠ e -> s.heap.get? b = some u -> h'.get? b = some u) (heo : ∃ u, h'.get? e = some u)
 (new : ObjOk X.prog X.w (upd H x o) h' x o) : Inv X pins σ (upd H x o) { s with heap := h', toks := t' } := I.un (Un.write mu he k heo) (I.hok.write mu he k heo new)
theorem Inv.pins_of {pins' : List (Addr × Obj)} (I : Inv X pins σ H s) (h : ∀ p ∈ pins', s.heap.get? p.1 = some p.2 /\ H p.1 = none /\ p.1 ≠ X.env.locals /\ p.1 ∉ X.fs /\ ∀ v, p.2.data ≠ .cell v) : Inv X pins' σ H s :=
 ⟨I.ok, I.os, I.bare, I.base, I.loc, I.cell, I.free, I.freeC, fun p hp => (mem_append.mp hp).elim (fun z => I.pin p (List.mem_append_left _ z)) (h p), I.hok, I.len⟩
theorem nodup_ix {N : List Str} (hN : N.Nodup) {i j : Nat} {x : Str} (a : N[i]? = some x) (b : N[j]? = some x) : i = j := by
 obtain ⟨h1, e1⟩ := List.getElem?_eq_some_iff.mp a
 obtain ⟨h2, e2⟩ := List.getElem?_eq_some_iff.mp b
 exact (List.getElem_inj hN).mp (e1.trans e2.symm)
theorem store_ok2 {M : Model} {A : Around} {E : Value -> Shared -> Prop} {i : Nat} {x : Str} {v : V} {u : Value} {Q : Unit -> Shared -> Prop} (I : Inv X pins σ H s) (hN : X.N.Nodup) (hi : X.N[i]? = some x) (hx : Loc X.env.scope x) (r : RelV v u)
 (h : ∀ s', Inv X pins (σ.set i (some v)) H s' -> (∃ a, Heap.SameBut a s.heap s'.heap /\ (a = X.env.locals \/ X.env.cells.lookup x = some a)) -> Q () s') (hf : X.fn x = true \/ X.env.scope.names.lookup x = some .local := by first | exact .inl rfl | exact .inr rfl | assumption) : wpAny M A (storeName X.env x u) Q E s := by
 obtain ⟨m, hn, hl⟩ := id I.loc
 have hcls : (X.env.scope.kind == .class || (X.env.scope.kind == .module && X.env.locals != X.env.globals)) = false := by rw [I.ok.kind]; rfl
 have hiσ : i < σ.length := by rw [I.len]; exact (List.getElem?_eq_some_iff.mp hi).1
 have cne := I.cne
 have tracked : ∀ {a : Addr} {h' : Heap}, (∃ o, s.heap.get? a = some o /\ H a = none) -> Heap.SameBut a s.heap h' -> HOk X.prog X.w H h' := fun {a h'} ha hs b ob e => by
  obtain ⟨_, _, hfree⟩ := ha
  refine (I.hok b ob e).stay (fun c w' hc q => (hs.2 c ?_).trans q) (fun _ q => q) fun _ _ q => q
  rintro rfl
  rcases hc with rfl | hc
  . rw [hfree] at e; cases e
  . rw [hfree] at hc; cases hc
 rcases hx with hk | hk
 . refine wpAny_storeName_local hk hn (fun h' hn' hs => ?_) hcls
   obtain ⟨oL, _, _, hoL, _⟩ := id hn
   refine h _ ⟨I.ok, I.os, I.bare, ⟨fun b o e n hb hx => ?_, fun b o e n hb hx => ?_, I.base.free, fun b o e hx => ?_, I.base.tups, I.base.frzs, I.base.tbls⟩, ⟨_, hn', fun j y v' e1 e2 e3 => ?_⟩, fun y c e => ?_, I.free, I.freeC, fun p hp => ?_, tracked ⟨oL, hoL, I.free⟩ hs, by simpa using I.len⟩ ⟨_, hs, .inl rfl⟩
   . exact (hs.2 b (Nat.ne_of_lt (Nat.lt_of_lt_of_le (lt_size e) I.ok.above))).trans (I.base.keep b o e n hb hx)
   . obtain ⟨sl, e1⟩ := I.base.slot b o e n hb hx
     exact ⟨sl, (hs.2 b (Nat.ne_of_lt (Nat.lt_of_lt_of_le (lt_size e) I.ok.above))).trans e1⟩
   . obtain ⟨o', e1⟩ := I.base.there b o e hx
     exact ⟨o', (hs.2 b (Nat.ne_of_lt (Nat.lt_of_lt_of_le (lt_size e) I.ok.above))).trans e1⟩
   . by_cases hj : j = i
     . subst hj
       rw [hi] at e1; cases e1
       rw [List.getElem?_set_self hiσ] at e2
       cases e2
       exact ⟨u, r, .inl ⟨hk, by simp⟩⟩
     . rw [List.getElem?_set_ne (Ne.symm hj)] at e2
       obtain ⟨u', r', q⟩ := hl j y v' e1 e2 e3
       refine ⟨u', r', ?_⟩
       rcases q with ⟨k, e⟩ | ⟨k, c, e, z⟩
       . refine .inl ⟨k, ?_⟩
         have : y ≠ x := fun e => hj (nodup_ix hN e1 (e ▸ hi))
         simp [this, e]
       . exact .inr ⟨k, c, e, z.sameBut hs (cne y c e)⟩
   . obtain ⟨w', z⟩ := I.cell y c e
     exact ⟨w', z.sameBut hs (cne y c e)⟩
   . obtain ⟨e, n, ne, nf, d⟩ := I.pin p hp
     exact ⟨(hs.2 p.1 ne).trans e, n, ne, nf, d⟩
 . have hfn : X.fn x = true := by
    rcases hf with z | z
    . exact z
    . rw [z] at hk; cases hk
   obtain ⟨c, hc⟩ := I.ok.has x (.inl hk)
   obtain ⟨w', z⟩ := I.cell x c hc
   refine wpAny_storeName_cell I.ok.kind hk hc z (fun h' hc' hs => ?_)
   obtain ⟨oc, hoc, hocd⟩ := id z
   refine h { s with heap := h' } ⟨I.ok, I.os, I.bare, ⟨fun b o e n hb hx => ?_, fun b o e n hb hx => ?_, I.base.free, fun b o e hx => ?_, I.base.tups, I.base.frzs, I.base.tbls⟩, ⟨m, hn.sameBut hs (Ne.symm (cne x c hc)), fun j y v' e1 e2 e3 => ?_⟩, fun y c' e => ?_, I.free, I.freeC, fun p hp => ?_, tracked ⟨oc, hoc, I.freeC x c hc⟩ hs, by simpa using I.len⟩ ⟨c, hs, .inr hc⟩
   . exact (hs.2 b (Nat.ne_of_lt (Nat.lt_of_lt_of_le (lt_size e) (I.ok.cab x c hfn hc)))).trans (I.base.keep b o e n hb hx)
   . obtain ⟨sl, e1⟩ := I.base.slot b o e n hb hx
     exact ⟨sl, (hs.2 b (Nat.ne_of_lt (Nat.lt_of_lt_of_le (lt_size e) (I.ok.cab x c hfn hc)))).trans e1⟩
   . obtain ⟨o', e1⟩ := I.base.there b o e hx
     exact ⟨o', (hs.2 b (Nat.ne_of_lt (Nat.lt_of_lt_of_le (lt_size e) (I.ok.cab x c hfn hc)))).trans e1⟩
   . by_cases hj : j = i
     . subst hj
       rw [hi] at e1; cases e1
       rw [List.getElem?_set_self hiσ] at e2
       cases e2
       exact ⟨u, r, .inr ⟨.inl hk, c, hc, hc'⟩⟩
     . rw [List.getElem?_set_ne (Ne.symm hj)] at e2
       obtain ⟨u', r', q⟩ := hl j y v' e1 e2 e3
       refine ⟨u', r', ?_⟩
       rcases q with q | ⟨k, c', e, z'⟩
       . exact .inl q
       . refine .inr ⟨k, c', e, z'.sameBut hs ?_⟩
         rintro rfl
         exact hj (nodup_ix hN e1 (I.ok.inj _ _ _ e hc ▸ hi))
   . by_cases hcc : c' = c
     . subst hcc; exact ⟨_, hc'⟩
     . obtain ⟨w2, z2⟩ := I.cell y c' e
       exact ⟨w2, z2.sameBut hs hcc⟩
   . obtain ⟨e, n, ne, nf, d⟩ := I.pin p hp
     refine ⟨(hs.2 p.1 ?_).trans e, n, ne, nf, d⟩
     intro q
     rw [q, hoc] at e
     have q' : oc = p.2 := Option.some.inj e
     exact d w' (by rw [<- q']; exact hocd)
theorem store_ok {M : Model} {A : Around} {E : Value -> Shared -> Prop} {i : Nat} {x : Str} {v : V} {u : Value} {Q : Unit -> Shared -> Prop} (I : Inv X pins σ H s) (hN : X.N.Nodup) (hi : X.N[i]? = some x) (hx : Loc X.env.scope x) (r : RelV v u)
 (h : ∀ s', Inv X pins (σ.set i (some v)) H s' -> Q () s') (hf : X.fn x = true \/ X.env.scope.names.lookup x = some .local := by first | exact .inl rfl | exact .inr rfl | assumption) : wpAny M A (storeName X.env x u) Q E s :=
 store_ok2 I hN hi hx r (fun s' I' _ => h s' I') hf
theorem Inv.call' {s' : Shared} {ch : List Addr} (I : Inv X pins σ H s) (ho : s'.os = s.os) (u : Un (frs X.stack) ch H H' s.heap s'.heap) (hok : HOk X.prog X.w H' s'.heap) (hg : AllBare s'.gens)
 (hch : ∀ b ∈ ch, (b ∈ X.ex \/ X.s₀.heap.objs.size <= b) /\ b ≠ X.env.locals /\ (∀ x c, X.env.cells.lookup x = some c -> c ≠ b) /\ ∀ p ∈ X.pn ++ pins, p.1 ≠ b) : Inv X pins σ H' s' := by
 obtain ⟨h', g', d', t', o'⟩ := s'
 have e : o' = s.os := ho
 subst e
 exact I.call (g' := g') (t' := t') (d' := d') u hok hg hch
end
abbrev XK := Value -> Option Addr -> Hp -> Prop
abbrev St := List (Option V)
abbrev VK := V -> Hp -> Prop
abbrev TE := St -> Hp -> VK -> Prop
abbrev TT := St -> Hp -> (Bool -> Hp -> Prop) -> Prop
abbrev TA := St -> Hp -> (List V -> Hp -> Prop) -> Prop
structure Ends where
 nx : St -> Hp -> Prop
 rt : VK
 bk : St -> Hp -> Prop := fun _ _ => False
 ct : St -> Hp -> Prop := fun _ _ => False
abbrev TS := Ends -> St -> Hp -> Prop
def EP (X : Cx) (pins : List (Addr × Obj)) (σ : St) (Q : VK) (u : Value) (s' : Shared) : Prop := ∃ v H', Inv X pins σ H' s' /\ RelV v u /\ Q v H'
def TP (X : Cx) (pins : List (Addr × Obj)) (σ : St) (Q : Bool -> Hp -> Prop) (b : Bool) (s' : Shared) : Prop := ∃ H', Inv X pins σ H' s' /\ Q b H'
def AP (X : Cx) (pins : List (Addr × Obj)) (σ : St) (Q : List V -> Hp -> Prop) (us : List Value) (s' : Shared) : Prop := ∃ vs H', Inv X pins σ H' s' /\ Vals vs us /\ Q vs H'
def SP (X : Cx) (pins : List (Addr × Obj)) (D : Ends) (f : Flow) (s' : Shared) : Prop :=
 match f with
 | .next => ∃ σ' H', Inv X pins σ' H' s' /\ D.nx σ' H'
 | .brk => ∃ σ' H', Inv X pins σ' H' s' /\ D.bk σ' H'
 | .cont => ∃ σ' H', Inv X pins σ' H' s' /\ D.ct σ' H'
 | .ret u => ∃ v σ' H', Inv X pins σ' H' s' /\ RelV v u /\ D.rt v H'
def PE (X : Cx) (e : Expr) (t : TE) : Prop :=
 ∀ (pins : List (Addr × Obj)) (s : Shared) (σ : St) (H : Hp) (Q : VK), Inv X pins σ H s -> t σ H Q -> wpAny (model X.prog X.w) X.A (eval e X.env) (EP X pins σ Q) X.xe s
def PT (X : Cx) (e : Expr) (t : TT) : Prop :=
 ∀ (pins : List (Addr × Obj)) (s : Shared) (σ : St) (H : Hp) (Q : Bool -> Hp -> Prop), Inv X pins σ H s -> t σ H Q -> wpAny (model X.prog X.w) X.A (isTrue e X.env (eval e X.env)) (TP X pins σ Q) X.xe s
def PW (X : Cx) (e : Expr) (t : TT) : Prop :=
 ∀ (whole : Sem Value) (pins : List (Addr × Obj)) (s : Shared) (σ : St) (H : Hp) (Q : Bool -> Hp -> Prop), Inv X pins σ H s -> t σ H Q -> wpAny (model X.prog X.w) X.A (isTrue e X.env whole) (TP X pins σ Q) X.xe s
theorem PW.pt {X : Cx} {e : Expr} {t : TT} (h : PW X e t) : PT X e t := h _
def PA (X : Cx) (es : List Expr) (t : TA) : Prop :=
 ∀ (pos : Pos) (pins : List (Addr × Obj)) (s : Shared) (σ : St) (H : Hp) (Q : List V -> Hp -> Prop), Inv X pins σ H s -> t σ H Q -> wpAny (model X.prog X.w) X.A (spliced (backTo pos (starEach es X.env))) (AP X pins σ Q) X.xe s
def PS (X : Cx) (st : Stmt) (t : TS) : Prop :=
 ∀ (pins : List (Addr × Obj)) (s : Shared) (σ : St) (H : Hp) (D : Ends), Inv X pins σ H s -> t D σ H -> wpAny (model X.prog X.w) X.A (exec st X.env) (SP X pins D) X.xe s
def PSs (X : Cx) (st : List Stmt) (t : TS) : Prop :=
 ∀ (pins : List (Addr × Obj)) (s : Shared) (σ : St) (H : Hp) (D : Ends), Inv X pins σ H s -> t D σ H -> wpAny (model X.prog X.w) X.A (execs st X.env) (SP X pins D) X.xe s
theorem thn {α : Type} {t : Sem α} {Q Q' : α -> Shared -> Prop} {M : Model} {A : Around} {E : Value -> Shared -> Prop} {s : Shared} (h : wpAny M A t Q E s) (hQ : ∀ a s, Q a s -> Q' a s) : wpAny M A t Q' E s := wpAny_mono h hQ fun _ _ x => x
section
variable {X : Cx}
def tVar (i : Nat) : TE := fun σ H Q => ∃ v, σ[i]? = some (some v) /\ Q v H
def tC (v : V) : TE := fun _ H Q => Q v H
theorem pe_var {i : Nat} {x : Str} {pos : Pos} (hN : X.N[i]? = some x) (hv : Vis X.env.scope x) (hd : (x == ("__debug__" : Str)) = false := by decide) (hcd : (x == ("__classdict__" : Str)) = false := by decide) : PE X (.Name x pos) (tVar i) := by
 intro pins s σ H Q I h
 obtain ⟨v, e, h⟩ := h
 obtain ⟨m, hn, hl⟩ := I.loc
 obtain ⟨u, r, l⟩ := hl i x v hN e hv
 have fin : EP X pins σ Q u s := ⟨v, H, I, r, h⟩
 rcases l with ⟨hk, hm⟩ | ⟨hk, c, hc, hcell⟩
 . exact wpAny_Name (wpAny_loadName_local I.ok.kind hk hn hm fin) hd
 . rcases hk with hk | hk
   . exact wpAny_Name (wpAny_loadName_cell I.ok.kind hk hc hcell fin) hd
   . exact wpAny_Name (wpAny_loadName_free I.ok.kind hk hc hcell fin hcd) hd
theorem pe_int {i j pos} : PE X (.Constant (.int i) j pos) (tC (.int i)) := fun _ _ _ H _ I h => wpAny_Constant_int ⟨.int i, H, I.tok _, ⟨_, rfl⟩, h⟩
theorem pe_bl {b j pos} : PE X (.Constant (.bool b) j pos) (tC (.bl b)) := fun _ _ _ H _ I h => Constant_bool ⟨.bl b, H, I, rfl, h⟩
theorem pe_str {x j pos} : PE X (.Constant (.str x) j pos) (tC (.str x)) := fun _ _ _ H _ I h => Calls.Constant_str ⟨.str x, H, I.tok _, ⟨_, rfl⟩, h⟩
def Gl (X : Cx) (x : Str) : Prop := X.env.kindOf x = some .globalImplicit
theorem ld_glob {E : Value -> Shared -> Prop} {pins : List (Addr × Obj)} {s : Shared} {σ : St} {H : Hp} {x : Str} {u : Value} {pos : Pos} {Q : Value -> Shared -> Prop} (I : Inv X pins σ H s) (hg : Gl X x) (hm : X.mg x = some u) (h : Q u s)
 (hd : (x == ("__debug__" : Str)) = false := by decide) : wpAny (model X.prog X.w) X.A (eval (.Name x pos) X.env) Q E s :=
 Calls.Name_function_global I.ok.kind hg (Calls.loadGlobal_global (by rw [I.ok.glob]; exact I.mod.glob.keeps I.bk) hm h) hd
theorem ld_blt {E : Value -> Shared -> Prop} {pins : List (Addr × Obj)} {s : Shared} {σ : St} {H : Hp} {x : Str} {u : Value} {pos : Pos} {Q : Value -> Shared -> Prop} (I : Inv X pins σ H s) (hg : Gl X x) (hm : X.mg x = none) (hv : bootBuiltins x = some u) (h : Q u s)
 (hn : x ≠ "__name__" := by decide) (hd : (x == ("__debug__" : Str)) = false := by decide) : wpAny (model X.prog X.w) X.A (eval (.Name x pos) X.env) Q E s := by
 obtain ⟨mb, h1, h2⟩ := I.mod.blt
 exact Calls.Name_function_global I.ok.kind hg (Calls.loadGlobal_builtin (by rw [I.ok.glob]; exact I.mod.glob.keeps I.bk) hm (by rw [I.ok.blt]; exact h1.keeps I.bk) ((h2 x hn).trans hv) h) hd
theorem pe_glob {x : Str} {v : V} {u : Value} {pos : Pos} (hg : Gl X x) (hm : X.mg x = some u) (r : RelV v u) (hd : (x == ("__debug__" : Str)) = false := by decide) : PE X (.Name x pos) (tC v) :=
 fun _ _ _ H _ I h => ld_glob I hg hm ⟨v, H, I, r, h⟩ hd
variable {a b : Expr} {ta tb : TE} {pos : Pos}
def PC (X : Cx) (op : CmpOp) (a b : Expr) (t : TE) : Prop :=
 ∀ (pins : List (Addr × Obj)) (s : Shared) (σ : St) (H : Hp) (Q : VK), Inv X pins σ H s -> t σ H Q ->
  wpAny (model X.prog X.w) X.A (eval a X.env) (fun v s₁ => wpAny (model X.prog X.w) X.A (eval b X.env) (fun u s₂ => wpAny (model X.prog X.w) X.A (compareOp op v u) (EP X pins σ Q) X.xe s₂) X.xe s₁) X.xe s
theorem nobehind (b : Expr) {op : CmpOp} (h : op ≠ .In) (h2 : op ≠ .NotIn) : behindInMarks op b = false := by
 have e1 : (op == CmpOp.In) = false := by cases op <;> first | rfl | exact absurd rfl h
 have e2 : (op == CmpOp.NotIn) = false := by cases op <;> first | rfl | exact absurd rfl h2
 cases b <;> simp [behindInMarks, e1, e2]
def tB (t : TE) : TT := fun σ H Q => t σ H fun x H1 => ∃ c, x = .bl c /\ Q c H1
theorem pt_cmp {op : CmpOp} {t : TE} (h : PC X op a b t) (h1 : behindInMarks op b = false := by first | exact nobehind _ (by decide) (by decide) | rfl) : PT X (.Compare a [op] [b] pos) (tB t) := by
 intro pins s σ H Q I hw
 refine wpAny_isTrue_Compare1 (thn (h pins s σ H _ I hw) fun v s1 h1 => thn h1 fun u s2 h2 => thn h2 fun c s3 ⟨x, H1, I1, r1, q1⟩ => ?_) h1
 obtain ⟨d, rfl, q⟩ := q1
 cases r1
 exact wpAny_truthy_bool ⟨H1, I1, q⟩
theorem pt_val {e : Expr} {t : TE} (h : PE X e t) (he : ∀ whole, isTrue e X.env whole = (do let v <- whole; standAt e.pos; holding [v] (truthy v)) := by intro _; rfl) : PT X e (tB t) := by
 intro pins s σ H Q I hw
 refine isTrue_plain (thn (h pins s σ H _ I hw) fun v s1 ⟨x, H1, I1, r1, q1⟩ => ?_) (he _)
 obtain ⟨d, rfl, q⟩ := q1
 cases r1
 exact wpAny_truthy_bool ⟨H1, I1, q⟩
variable {tA tB' : TT} {rest : List Expr}
def tAnd (t u : TT) : TT := fun σ H Q => t σ H fun c H1 => if c = true then u σ H1 Q else Q false H1
def tNot (t : TT) : TT := fun σ H Q => t σ H fun c H1 => Q (!c) H1
theorem pw_and1 (ha : PT X a tA) : PW X (.BoolOp .And [a] pos) tA := by
 intro wh pins s σ H Q I h
 refine isTrue_and (thn (ha pins s σ H Q I h) fun c s1 e => ?_)
 cases c with
 | true => exact isTrue_and_nil e
 | false => exact e
theorem pw_and (ha : PT X a tA) (hb : PW X (.BoolOp .And (b :: rest) pos) tB') : PW X (.BoolOp .And (a :: b :: rest) pos) (tAnd tA tB') := by
 intro wh pins s σ H Q I h
 refine isTrue_and (thn (ha pins s σ H _ I h) fun c s1 ⟨H1, I1, q1⟩ => ?_)
 cases c with
 | true => exact hb wh pins s1 σ H1 Q I1 q1
 | false => exact ⟨H1, I1, q1⟩
theorem pt_not (ha : PT X a tA) : PT X (.UnaryOp .Not a pos) (tNot tA) := by
 intro pins s σ H Q I h
 exact isTrue_not (ha pins s σ H (fun c H1 => Q (!c) H1) I h)
def tAndV (ta tb : TE) : TE := fun σ H Q => ta σ H fun x H1 => ∃ c, x = .bl c /\ if c = true then tb σ H1 Q else Q (.bl false) H1
def tOrV (ta tb : TE) : TE := fun σ H Q => ta σ H fun x H1 => ∃ c, x = .bl c /\ if c = true then Q (.bl true) H1 else tb σ H1 Q
theorem pe_one {op} {t : TE} (h : PE X a t) : PE X (.BoolOp op [a] pos) t := fun pins s σ H Q I hw => BoolOp_one (h pins s σ H Q I hw)
theorem pe_and (ha : PE X a ta) (hb : PE X (.BoolOp .And (b :: rest) pos) tb) : PE X (.BoolOp .And (a :: b :: rest) pos) (tAndV ta tb) := by
 intro pins s σ H Q I h
 refine BoolOp_and (thn (ha pins s σ H _ I h) fun v s1 ⟨x, H1, I1, r1, q1⟩ => ?_)
 obtain ⟨c, rfl, q1⟩ := q1
 cases r1
 refine wpAny_truthy_bool ?_
 cases c with
 | true => exact hb pins s1 σ H1 Q I1 q1
 | false => exact ⟨.bl false, H1, I1, rfl, q1⟩
theorem pe_or (ha : PE X a ta) (hb : PE X (.BoolOp .Or (b :: rest) pos) tb) : PE X (.BoolOp .Or (a :: b :: rest) pos) (tOrV ta tb) := by
 intro pins s σ H Q I h
 refine BoolOp_or (thn (ha pins s σ H _ I h) fun v s1 ⟨x, H1, I1, r1, q1⟩ => ?_)
 obtain ⟨c, rfl, q1⟩ := q1
 cases r1
 refine wpAny_truthy_bool ?_
 cases c with
 | false => exact hb pins s1 σ H1 Q I1 q1
 | true => exact ⟨.bl true, H1, I1, rfl, q1⟩
def tIf (t : TT) (ta tb : TE) : TE := fun σ H Q => t σ H fun c H1 => if c = true then ta σ H1 Q else tb σ H1 Q
theorem pe_ifExp {c : Expr} (hc : PT X c tA) (ha : PE X a ta) (hb : PE X b tb) : PE X (.IfExp c a b pos) (tIf tA ta tb) := by
 intro pins s σ H Q I h
 refine wpAny_IfExp (thn (hc pins s σ H _ I h) fun d s1 ⟨H1, I1, q1⟩ => ?_)
 cases d with
 | true => exact ha pins s1 σ H1 Q I1 q1
 | false => exact hb pins s1 σ H1 Q I1 q1
end
def SqL (K : Frag) (H : Hp) (a : Addr) (xs : List V) : Prop :=
 Rd H a (.lst xs) \/
  ∃ (o : Obj) (its : Array Value) (n : Nat), K.lookup a = some o /\ o.cls = .type "list" /\ o.dict = none /\ o.data = .seq its n /\ its.size <= sizeLine /\ Vals xs its.toList
def SqT (K : Frag) (H : Hp) (a : Addr) (xs : List V) : Prop :=
 Rd H a (.tup xs) \/
  ∃ (o : Obj) (its : Array Value) (n : Nat), K.lookup a = some o /\ o.cls = .type "tuple" /\ o.data = .seq its n /\ its.size <= sizeLine /\ Vals xs its.toList
def absV : Value -> Option V
 | .none => some .non
 | .bool b => some (.bl b)
 | .int i _ => some (.int i)
 | .str x _ => some (.str x)
 | .bytes b _ => some (.byt b)
 | .float b _ => some (.flt b)
 | .ref a => some (.ref a)
 | .type n => some (.ty n)
 | _ => none
theorem RelV.abs {x : V} {u : Value} (r : RelV x u) : absV u = some x := by
 cases x with
 | non => cases r; rfl
 | bl _ => cases r; rfl
 | int _ => obtain ⟨t, rfl⟩ := r; rfl
 | str _ => obtain ⟨t, rfl⟩ := r; rfl
 | byt _ => obtain ⟨t, rfl⟩ := r; rfl
 | flt _ => obtain ⟨t, rfl⟩ := r; rfl
 | ref _ => cases r; rfl
 | ty _ => cases r; rfl
theorem RelV.inj {x y : V} {u : Value} (r : RelV x u) (q : RelV y u) : x = y := Option.some.inj (r.abs.symm.trans q.abs)
theorem Vals.inj : ∀ {xs ys : List V} {us : List Value}, Vals xs us -> Vals ys us -> xs = ys
 | _, _, _, .nil, .nil => rfl
 | _, _, _, .cons r t, .cons r' t' => by rw [r.inj r', Vals.inj t t']
section
variable {X : Cx} {pins : List (Addr × Obj)} {σ : St} {H : Hp} {s : Shared} {a : Addr} {xs ys : List V}
theorem SqL.of {K : Frag} (h : H a = some (.lst xs)) : SqL K H a xs := .inl (.inl h)
theorem Inv.list (I : Inv X pins σ H s) (h : SqL X.K H a xs) : ∃ its : List Value, Vals xs its /\ PlainL s.heap a its.toArray /\ xs.length <= sizeLine := by
 rcases h with h | ⟨o, its, n, hk, hc, hd, hs, hz, r⟩
 . obtain ⟨z, its, n, r, e⟩ := h.ok I.hok
   exact ⟨its, r, ⟨_, n, e, rfl, rfl, rfl⟩, z⟩
 . refine ⟨its.toList, r, ⟨o, n, I.kIn a o hk, hc, hd, by simpa using hs⟩, ?_⟩
   have e := r.length
   simp only [Array.length_toList] at e
   omega
theorem Inv.tuple (I : Inv X pins σ H s) (h : SqT X.K H a xs) : ∃ its : List Value, Vals xs its /\ IsTup s.heap a its.toArray /\ xs.length <= sizeLine := by
 rcases h with h | ⟨o, its, n, hk, hc, hs, hz, r⟩
 . obtain ⟨z, its, r, p⟩ := h.ok I.hok
   exact ⟨its, r, p, z⟩
 . refine ⟨its.toList, r, ⟨o, I.kIn a o hk, hc, n, by simpa using hs⟩, ?_⟩
   have e := r.length
   simp only [Array.length_toList] at e
   omega
theorem Inv.list_inj (I : Inv X pins σ H s) (h : SqL X.K H a xs) (h' : SqL X.K H a ys) : xs = ys := by
 obtain ⟨its, r, ⟨o, n, e, _, _, d⟩, _⟩ := I.list h
 obtain ⟨its', r', ⟨o', n', e', _, _, d'⟩, _⟩ := I.list h'
 rw [e] at e'; cases e'
 rw [d] at d'
 injection d' with d1 _
 have : its = its' := by simpa using congrArg Array.toList d1
 subst this
 exact r.inj r'
theorem Inv.tuple_inj (I : Inv X pins σ H s) (h : SqT X.K H a xs) (h' : SqT X.K H a ys) : xs = ys := by
 obtain ⟨its, r, ⟨o, e, _, n, d⟩, _⟩ := I.tuple h
 obtain ⟨its', r', ⟨o', e', _, n', d'⟩, _⟩ := I.tuple h'
 rw [e] at e'; cases e'
 rw [d] at d'
 injection d' with d1 _
 have : its = its' := by simpa using congrArg Array.toList d1
 subst this
 exact r.inj r'
end
abbrev Cx.wish (X : Cx) (E : Value -> Shared -> Prop) : Cx := { X with xe := E }
abbrev Cx.nox (X : Cx) : Cx := X.wish fun _ _ => False
theorem Cx.Ok.wish {X : Cx} (ok : X.Ok) (E : Value -> Shared -> Prop) : (X.wish E).Ok :=
 ⟨ok.mod, ok.kind, ok.glob, ok.blt, ok.above, ok.inj, ok.has, ok.cab, ok.hd, ok.frames, ok.stk, ok.exf, ok.bs, ok.bsz, ok.noex, ok.exfs, ok.funs, ok.frf⟩
theorem Cx.Ok.unwish {X : Cx} {E : Value -> Shared -> Prop} (ok : (X.wish E).Ok) : X.Ok :=
 ⟨ok.mod, ok.kind, ok.glob, ok.blt, ok.above, ok.inj, ok.has, ok.cab, ok.hd, ok.frames, ok.stk, ok.exf, ok.bs, ok.bsz, ok.noex, ok.exfs, ok.funs, ok.frf⟩
section
variable {X : Cx} {pins : List (Addr × Obj)} {σ : St} {H : Hp} {s : Shared} {E : Value -> Shared -> Prop}
theorem Inv.wish (I : Inv X pins σ H s) (E : Value -> Shared -> Prop) : Inv (X.wish E) pins σ H s := ⟨I.ok.wish E, I.os, I.bare, I.base, I.loc, I.cell, I.free, I.freeC, I.pin, I.hok, I.len⟩
theorem Inv.unwish (I : Inv (X.wish E) pins σ H s) : Inv X pins σ H s := ⟨I.ok.unwish, I.os, I.bare, I.base, I.loc, I.cell, I.free, I.freeC, I.pin, I.hok, I.len⟩
theorem SP.unwish {D : Ends} {f : Flow} {s' : Shared} (h : SP (X.wish E) pins D f s') : SP X pins D f s' := by
 cases f with
 | next => obtain ⟨σ', H', I, q⟩ := h; exact ⟨σ', H', I.unwish, q⟩
 | brk => obtain ⟨σ', H', I, q⟩ := h; exact ⟨σ', H', I.unwish, q⟩
 | cont => obtain ⟨σ', H', I, q⟩ := h; exact ⟨σ', H', I.unwish, q⟩
 | ret u => obtain ⟨v, σ', H', I, r, q⟩ := h; exact ⟨v, σ', H', I.unwish, r, q⟩
theorem PSs.nox {st : List Stmt} {t : TS} (h : PSs X.nox st t) : PSs X st t := fun pins s σ H D I hw =>
 wpAny_mono (h pins s σ H D (I.wish _) hw) (fun _ _ q => q.unwish) fun _ _ z => False.elim z
end
section
variable {X : Cx} {st : Stmt} {rest : List Stmt} {t u : TS} {e : Expr} {te : TE} {pos : Pos}
def tNext : TS := fun D σ H => D.nx σ H
def tSeq (t u : TS) : TS := fun D σ H => t { D with nx := u D } σ H
theorem pss_nil : PSs X [] tNext := fun _ _ σ H _ I h => wpAny_execs_nil ⟨σ, H, I, h⟩
theorem pss_cons (h1 : PS X st t) (h2 : PSs X rest u) : PSs X (st :: rest) (tSeq t u) := by
 intro pins s σ H D I h
 refine wpAny_execs_cons (thn (h1 pins s σ H { D with nx := u D } I h) fun f s1 q => ?_)
 cases f with
 | next =>
  obtain ⟨σ', H', I', q⟩ := q
  exact h2 pins s1 σ' H' D I' q
 | ret v => exact q
 | brk => exact q
 | cont => exact q
theorem Inv.quiet {pins : List (Addr × Obj)} {σ : St} {H : Hp} {s : Shared} (I : Inv X pins σ H s) : interactive X.env = false := by simp [interactive, I.ok.kind]
def tDrop (te : TE) : TS := fun D σ H => te σ H fun _ H1 => D.nx σ H1
theorem ps_expr (he : PE X e te) (hs : swapsWith e none pos.line X.env = pure false := by rfl) : PS X (.Expr e pos) (tDrop te) := by
 intro pins s σ H D I h
 exact wpAny_Expr_any (thn (he pins s σ H _ I h) fun v s1 ⟨x, H1, I1, r1, q1⟩ => ⟨σ, H1, I1, q1⟩) I.quiet hs
def tRet (te : TE) : TS := fun D σ H => te σ H D.rt
theorem ps_ret (he : PE X e te) : PS X (.Return (some e) pos) (tRet te) := by
 intro pins s σ H D I h
 exact wpAny_Return_some (thn (he pins s σ H _ I h) fun v s1 ⟨x, H1, I1, r1, q1⟩ => ⟨x, σ, H1, I1, r1, q1⟩)
def tIfS (c : TT) (t u : TS) : TS := fun D σ H => c σ H fun b H1 => if b = true then t D σ H1 else u D σ H1
theorem ps_if {c : Expr} {a b : List Stmt} {tc : TT} (hc : PT X c tc) (ha : PSs X a t) (hb : PSs X b u) : PS X (.If c a b pos) (tIfS tc t u) := by
 intro pins s σ H D I h
 refine wpAny_If (thn (hc pins s σ H _ I h) fun d s1 ⟨H1, I1, q1⟩ => ?_)
 cases d with
 | true => exact ha pins s1 σ H1 D I1 q1
 | false => exact hb pins s1 σ H1 D I1 q1
def tNever : TS := fun _ _ _ => False
theorem pss_never {sts : List Stmt} : PSs X sts tNever := fun _ _ _ _ _ _ h => h.elim
end
abbrev TG := V -> St -> Hp -> (St -> Hp -> Prop) -> Prop
abbrev TGs := List V -> St -> Hp -> (St -> Hp -> Prop) -> Prop
def PG (X : Cx) (target : Expr) (t : TG) : Prop :=
 ∀ (pins : List (Addr × Obj)) (s : Shared) (σ : St) (H : Hp) (v : V) (u : Value) (Q : St -> Hp -> Prop), Inv X pins σ H s -> RelV v u -> t v σ H Q ->
  wpAny (model X.prog X.w) X.A (assign target X.env u) (fun _ s' => ∃ σ' H', Inv X pins σ' H' s' /\ Q σ' H') X.xe s
def PGs (X : Cx) (ts : List Expr) (t : TGs) : Prop :=
 ∀ (pins : List (Addr × Obj)) (s : Shared) (σ : St) (H : Hp) (vs : List V) (us : List Value) (Q : St -> Hp -> Prop), Inv X pins σ H s -> Vals vs us -> t vs σ H Q ->
  wpAny (model X.prog X.w) X.A (assignInOrder ((assignEach ts X.env).map (·.2)) us) (fun _ s' => ∃ σ' H', Inv X pins σ' H' s' /\ Q σ' H') X.xe s
section
variable {X : Cx} {pos : Pos}
def gName (i : Nat) : TG := fun v σ H Q => Q (σ.set i (some v)) H
theorem pg_name {i : Nat} {x : Str} (hN : X.N.Nodup) (hi : X.N[i]? = some x) (hx : Loc X.env.scope x) (hf : X.fn x = true \/ X.env.scope.names.lookup x = some .local := by first | exact .inl rfl | exact .inr rfl | assumption) : PG X (.Name x pos) (gName i) := by
 intro pins s σ H v u Q I r h
 exact wpAny_assign_Name (store_ok I hN hi hx r (fun s' I' => ⟨_, H, I', h⟩) hf)
def gNil : TGs := fun vs σ H Q => vs = [] /\ Q σ H
def gCons (t : TG) (u : TGs) : TGs := fun vs σ H Q => ∃ v r, vs = v :: r /\ t v σ H fun σ' H' => u r σ' H' Q
theorem pgs_nil : PGs X [] gNil := by
 intro pins s σ H vs us Q I r h
 obtain ⟨e, h⟩ := h
 subst e
 cases r
 exact assignInOrder_nil ⟨σ, H, I, h⟩
theorem pgs_cons {e : Expr} {es : List Expr} {t : TG} {u : TGs} (h1 : PG X e t) (h2 : PGs X es u)
 (hs : (assignEach (e :: es) X.env).map (·.2) = assign e X.env :: (assignEach es X.env).map (·.2) := by rfl) : PGs X (e :: es) (gCons t u) := by
 intro pins s σ H vs us Q I r h
 obtain ⟨v, vr, e1, h⟩ := h
 subst e1
 cases r with
 | cons r rr =>
  rw [hs]
  refine assignInOrder_cons (thn (h1 pins s σ H _ _ _ I r h) fun _ s1 ⟨σ1, H1, I1, q1⟩ => ?_)
  exact h2 pins s1 σ1 H1 _ _ Q I1 rr q1
def gTup (K : Frag) (n : Nat) (t : TGs) : TG := fun v σ H Q => ∃ a xs, v = .ref a /\ SqT K H a xs /\ xs.length = n /\ t xs σ H Q
theorem pg_tup {es : List Expr} {k : Nat} {t : TGs} {n : Nat} (hc : X.calm = true) (h : PGs X es t)
 (hn : (assignEach es X.env).length = n := by rfl) (hst : (assignEach es X.env).findIdx? (·.1) = none := by rfl) : PG X (.Tuple es k pos) (gTup X.K n t) := by
 intro pins s σ H v u Q I r hw
 obtain ⟨a, xs, e1, hq, hl, hw⟩ := hw
 subst e1
 cases r
 obtain ⟨its, rv, ht, hz⟩ := I.tuple hq
 refine assign_Tuple_tuple (I.ok.hd hc) ht (by simp [hn, <- hl, rv.length]) hst fun h' hx => ?_
 have I1 : Inv X pins σ H { s with heap := h' } := I.kept (t' := s.toks) fun b o e => hx b o (Nat.ne_of_lt (lt_size e)) e
 exact h pins _ σ H xs _ Q I1 (by simpa using rv) hw
def tAsg (te : TE) (g : TG) : TS := fun D σ H => te σ H fun x H1 => g x σ H1 D.nx
theorem ps_set {i : Nat} {x : Str} {e : Expr} {te : TE} {pos' : Pos} (hN : X.N.Nodup) (hi : X.N[i]? = some x) (hx : Loc X.env.scope x) (he : PE X e te) (hs : swapsWith e (some (.Name x pos')) pos.line X.env = pure false := by rfl) (hf : X.fn x = true \/ X.env.scope.names.lookup x = some .local := by first | exact .inl rfl | exact .inr rfl | assumption) :
 PS X (.Assign [.Name x pos'] e pos) (tAsg te (gName i)) := by
 intro pins s σ H D I h
 refine wpAny_Assign_Name (thn (he pins s σ H _ I h) fun v s1 ⟨y, H1, I1, r1, q1⟩ => ?_) hs
 exact store_ok I1 hN hi hx r1 (fun s2 I2 => ⟨_, H1, I2, q1⟩) hf
end
section
variable {X : Cx} {pos : Pos}
def tWhile (c : TT) (tb : TS) : TS := fun D σ H => ∃ W : Nat -> St -> Hp -> Prop, (∃ m, W m σ H) /\ ∀ m σ H, W m σ H ->
 c σ H fun b H1 => if b = true then ∃ N : St -> Hp -> Prop, (∀ σ' H', N σ' H' -> ∃ m', m' < m /\ W m' σ' H') /\ tb { D with nx := N, ct := N, bk := D.nx } σ H1 else D.nx σ H1
theorem ps_while {c : Expr} {body : List Stmt} {tc : TT} {tb : TS} (hp : PassesOwn (model X.prog X.w) X.A X.env X.xe) (hc : PT X c tc) (hb : PSs X body tb) : PS X (.While c body [] pos) (tWhile tc tb) := by
 intro pins s σ H D I h
 obtain ⟨W, ⟨m0, w0⟩, turn⟩ := h
 refine wpAny_While (codeAny_whileLoop (fun n s' => ∃ σ' H', Inv X pins σ' H' s' /\ W n σ' H') ?_ m0 ⟨σ, H, I, w0⟩)
 rintro n s1 ⟨σ1, H1, I1, w1⟩
 refine wpAny_passesOwn hp (thn (hc pins s1 σ1 H1 _ I1 (turn n σ1 H1 w1)) fun b s2 ⟨H2, I2, q2⟩ => ?_)
 cases b with
 | true =>
  obtain ⟨N, hN, q2⟩ := q2
  rw [if_pos rfl]
  refine wpAny_passesOwn hp (thn (hb pins s2 σ1 H2 _ I2 q2) fun f s3 q3 => ?_)
  cases f with
  | next =>
   obtain ⟨σ3, H3, I3, n3⟩ := q3
   obtain ⟨m', hm, w3⟩ := hN σ3 H3 n3
   exact ⟨m', hm, σ3, H3, I3, w3⟩
  | cont =>
   obtain ⟨σ3, H3, I3, n3⟩ := q3
   obtain ⟨m', hm, w3⟩ := hN σ3 H3 n3
   exact ⟨m', hm, σ3, H3, I3, w3⟩
  | brk => exact q3
  | ret v => exact q3
 | false =>
  rw [if_neg Bool.false_ne_true]
  exact wpAny_execs_nil ⟨σ1, H2, I2, q2⟩
end
structure It where
 go : Nat -> Hp -> Prop
 yld : Nat -> Hp -> V -> Hp -> Prop
 stop : Nat -> Hp -> Prop
def FpOk (X : Cx) (pins : List (Addr × Obj)) (H : Hp) (b : Addr) : Prop :=
 H b = none /\ b ≠ X.env.locals /\ b ∉ X.fs /\ (b ∈ X.ex \/ X.s₀.heap.objs.size <= b) /\ (∀ x c, X.env.cells.lookup x = some c -> c ≠ b) /\ ∀ p ∈ X.pn ++ pins, p.1 ≠ b
theorem Inv.fpOk {X : Cx} {pins : List (Addr × Obj)} {σ : St} {H H' : Hp} {s : Shared} {b : Addr} (I : Inv X pins σ H s) (hb : s.heap.objs.size <= b) (hn : H' b = none) : FpOk X pins H' b := by
 refine ⟨hn, Nat.ne_of_gt (Nat.lt_of_lt_of_le I.lt hb), I.nofs hb, .inr (Nat.le_trans I.sz hb), fun x c e z => ?_, fun p hp z => ?_⟩
 . obtain ⟨v, q⟩ := I.cell x c e
   exact absurd (Nat.lt_of_lt_of_le q.lt (by rw [z]; exact hb)) (Nat.lt_irrefl _)
 . exact absurd (Nat.lt_of_lt_of_le (lt_size (I.pin p hp).1) (by rw [z]; exact hb)) (Nat.lt_irrefl _)
structure Turn (P : Program) (w : World) (K : Frag) (tg : Expr) (J : It) (fp : List Addr) (it : Addr) (tn : Nat -> Heap -> Prop) : Prop where
 mem : it ∈ fp
 obj : ∀ i h, tn i h -> ∀ b ∈ fp, ∃ o, h.get? b = some o /\ ∀ v, o.data ≠ .cell v
 keep : ∀ i h h', tn i h -> (∀ b ∈ fp, ∀ o, h.get? b = some o -> h'.get? b = some o) -> tn i h'
 item : ∀ (X : Cx), X.prog = P -> X.w = w -> X.K = K -> X.calm = true -> ∀ (i : Nat) (pins : List (Addr × Obj)) (s : Shared) (σ : St) (H : Hp) (E : Value -> Shared -> Prop), Inv X pins σ H s -> (∀ b ∈ fp, FpOk X pins H b) -> tn i s.heap -> J.go i H ->
  wpAny (model P w) X.A (pyNext (.ref it)) (fun r s1 => ∃ u, r = some u /\
   wpAny (model P w) X.A (letOwnedTupleGo tg (.ref it) u) (fun _ s2 => ∃ x H', Inv X pins σ H' s2 /\ RelV x u /\ J.yld i H x H' /\ tn (i + 1) s2.heap /\ ∀ b ∈ fp, H' b = none) E s1) E s
 done : ∀ (X : Cx), X.prog = P -> X.w = w -> X.K = K -> X.calm = true -> ∀ (i : Nat) (pins : List (Addr × Obj)) (s : Shared) (σ : St) (H : Hp) (E : Value -> Shared -> Prop), Inv X pins σ H s -> (∀ b ∈ fp, FpOk X pins H b) -> tn i s.heap -> J.stop i H ->
  wpAny (model P w) X.A (pyNext (.ref it)) (fun r s1 => r = none /\ Inv X pins σ H s1) E s
 self : ∀ (A : Around) (i : Nat) (s : Shared) (Q : Value -> Shared -> Prop) (E : Value -> Shared -> Prop), tn i s.heap -> Q (.ref it) s -> wpAny (model P w) A (pyIter (.ref it)) Q E s
abbrev TI := St -> Hp -> (It -> Hp -> Prop) -> Prop
def PIE (X : Cx) (pins : List (Addr × Obj)) (σ : St) (tg : Expr) (R : It -> Hp -> Prop) (itv : Value) (s2 : Shared) : Prop :=
 ∃ (it : Addr) (fp : List Addr) (tn : Nat -> Heap -> Prop) (J : It) (H' : Hp), itv = .ref it /\ Inv X pins σ H' s2 /\ Turn X.prog X.w X.K tg J fp it tn /\ tn 0 s2.heap /\ (∀ b ∈ fp, FpOk X pins H' b) /\ R J H'
def PI (X : Cx) (tg iter : Expr) (wi : TI) : Prop :=
 ∀ (pins : List (Addr × Obj)) (s : Shared) (σ : St) (H : Hp) (R : It -> Hp -> Prop), Inv X pins σ H s -> wi σ H R ->
  wpAny (model X.prog X.w) X.A (eval iter X.env) (fun v s1 => wpAny (model X.prog X.w) X.A (pyIter v) (PIE X pins σ tg R) X.xe s1) X.xe s
theorem go_of {M : Model} {A : Around} {E : Value -> Shared -> Prop} {s : Shared} {tg : Expr} {it : Addr} {u : Value} {o : Obj} {n : String} {vs : Array Value} {Q : Unit -> Shared -> Prop} (ho : s.heap.get? it = some o) (hc : o.cls = .type n) (hd : o.data = .fields vs)
    (hn : ["enumerate", "zip", "dict_itemiterator", "dict_reverseitemiterator", "odict_iterator", "itertools.zip_longest", "itertools.pairwise"].contains n = false) (hQ : Q () s) : wpAny M A (letOwnedTupleGo tg (.ref it) u) Q E s := by
  unfold letOwnedTupleGo
  cases tg <;> first
    | exact wpAny_pure hQ
    | (cases u <;> first
        | exact wpAny_pure hQ
        | (refine wpAny_bind (wpAny_load ho ?_)
           rw [hc, hd]
           show wpAny M A (if (["enumerate", "zip", "dict_itemiterator", "dict_reverseitemiterator", "odict_iterator", "itertools.zip_longest", "itertools.pairwise"].contains n && vs[0]? == some (rawInt _)) = true then _ else _) Q E s
           rw [if_neg (by intro h; rw [hn, Bool.false_and] at h; cases h)]
           exact wpAny_pure hQ))
def Itl (K : Frag) (a : Addr) : It :=
 ⟨fun i H => ∃ xs x, SqL K H a xs /\ xs[i]? = some x, fun i H x H' => H' = H /\ ∀ xs, SqL K H a xs -> xs[i]? = some x, fun i H => ∃ xs, SqL K H a xs /\ xs.length <= i⟩
def Itr (lo : Int) (n : Nat) : It := ⟨fun i _ => i < n, fun i H x H' => H' = H /\ x = .int (lo + i), fun i _ => n <= i⟩
theorem turn_list {P : Program} {w : World} {K : Frag} {tg : Expr} (a it : Addr) : Turn P w K tg (Itl K a) [it] it (fun i h => h.IsListIter it a i) where
 mem := by simp
 obj := fun i h st b hb => by
  have e : b = it := by simpa using hb
  subst e
  obtain ⟨o, e, c, d⟩ := st
  exact ⟨o, e, fun v z => by rw [d] at z; cases z⟩
 keep := fun i h h' st k => st.at fun o e => k it (by simp) o e
 item := by
  intro X hP hw hK hc i pins s σ H E I hf st hg
  subst hP hw hK
  obtain ⟨xs, x, hq, hx⟩ := hg
  obtain ⟨its, rv, p, hz⟩ := I.list hq
  obtain ⟨u, hu, ru⟩ := rv.get hx
  obtain ⟨f0, f1, f2, f3, f4, f5⟩ := hf it (by simp)
  refine wpAny_pyNext_list_item st p.isList (x := u) (by simpa using hu) fun h' st' sb => ?_
  have I1 : Inv X pins σ H { s with heap := h' } := I.turned (t' := s.toks) (fun b o hb e => (sb.2 b hb).trans e) f0 f1 f3 f4 f5
  obtain ⟨o, e, c, d⟩ := id st'
  exact ⟨u, rfl, go_of (s := { s with heap := h' }) e c d (by decide) ⟨x, H, I1, ru, ⟨rfl, fun ys hy => by rw [I.list_inj hy hq]; exact hx⟩, st', fun b hb => (hf b hb).1⟩⟩
 done := by
  intro X hP hw hK hc i pins s σ H E I hf st hg
  subst hP hw hK
  obtain ⟨xs, hq, hx⟩ := hg
  obtain ⟨its, rv, p, hz⟩ := I.list hq
  obtain ⟨f0, f1, f2, f3, f4, f5⟩ := hf it (by simp)
  have hl := rv.length
  exact wpAny_pyNext_list_end (I.ok.hd hc) st p.isList (by simp; omega) fun h' eb => ⟨rfl, I.turned (t' := s.toks) (fun b o hb e => eb b o hb e) f0 f1 f3 f4 f5⟩
 self := fun _ _ _ _ _ st h => wpAny_pyIter_listiter st h
theorem turn_range {P : Program} {w : World} {K : Frag} {tg : Expr} (it : Addr) (lo : Int) (n : Nat) : Turn P w K tg (Itr lo n) [it] it (fun i h => IsRangeIter h it (lo + (i : Nat) * 1) ((n : Int) - (i : Nat)) 1) where
 mem := by simp
 obj := fun i h st b hb => by
  have e : b = it := by simpa using hb
  subst e
  exact ⟨_, st, fun v z => by
   have z' : Data.fields _ = Data.cell v := z
   cases z'⟩
 keep := fun i h h' st k => k it (by simp) _ st
 item := by
  intro X hP hw hK hc i pins s σ H E I hf st hg
  subst hP hw hK
  obtain ⟨f0, f1, f2, f3, f4, f5⟩ := hf it (by simp)
  have W := Walks.range (prog := X.prog) (w := X.w) (I.ok.hd hc) it lo 1 n
  refine W.item i s _ _ hg st fun v h' tk hv st' kk => ?_
  obtain ⟨t, rfl⟩ := hv
  have I1 : Inv X pins σ H { s with heap := h', toks := tk } := I.turned (fun b o hb e => kk b o (by simpa using hb) e) f0 f1 f3 f4 f5
  refine ⟨_, rfl, go_of (s := { s with heap := h', toks := tk }) (n := "range_iterator") st' rfl rfl (by decide) ⟨.int (lo + i), H, I1, ⟨t, ?_⟩, ⟨rfl, rfl⟩, st', fun b hb => (hf b hb).1⟩⟩
  rw [Int.mul_one]
 done := by
  intro X hP hw hK hc i pins s σ H E I hf st hg
  subst hP hw hK
  obtain ⟨f0, f1, f2, f3, f4, f5⟩ := hf it (by simp)
  exact wpAny_pyNext_range_end (I.ok.hd hc) st (by have : n <= i := hg; omega) fun h' eb => ⟨rfl, I.turned (t' := s.toks) (fun b o hb e => eb b o hb e) f0 f1 f3 f4 f5⟩
 self := fun _ _ _ _ _ st h => wpAny_pyIter_rangeiter st h
section
variable {X : Cx} {tg : Expr}
def iList (K : Frag) (tl : TE) : TI := fun σ H R => tl σ H fun x H1 => ∃ a, x = .ref a /\ (∃ xs, SqL K H1 a xs) /\ R (Itl K a) H1
theorem pi_list {l : Expr} {tl : TE} (hl : PE X l tl) : PI X tg l (iList X.K tl) := by
 intro pins s σ H R I h
 refine thn (hl pins s σ H _ I h) fun v s1 ⟨x, H1, I1, r1, q1⟩ => ?_
 obtain ⟨a, e, ⟨xs, hq⟩, q⟩ := q1
 subst e
 cases r1
 obtain ⟨its, rv, p, hz⟩ := I1.list hq
 refine wpAny_pyIter_list p.isList ?_
 refine ⟨s1.heap.objs.size, [s1.heap.objs.size], _, _, H1, rfl, I1.kept (t' := s1.toks) fun b o e => get?_push_of_some _ e, turn_list a _, ⟨_, get?_push_size _ rfl, rfl, rfl⟩, fun b hb => ?_, q⟩
 have e : b = s1.heap.objs.size := by simpa using hb
 subst e
 exact I1.fpOk (Nat.le_refl _) (I1.hok.fresh (Nat.le_refl _))
theorem range_it {pins : List (Addr × Obj)} {σ : St} {H : Hp} {s : Shared} {R : It -> Hp -> Prop} {E : Value -> Shared -> Prop} {lo hi : Int} {t u v : Tok} {tk : Nat} (I : Inv X pins σ H s) (h1 : -(2 ^ 62) <= lo) (h2 : lo < 2 ^ 62) (h3 : -(2 ^ 62) <= hi) (h4 : hi < 2 ^ 62)
 (q : R (Itr lo (hi - lo).toNat) H) : wpAny (model X.prog X.w) X.A (pyIter (.ref s.heap.objs.size)) (PIE X pins σ tg R) E { s with heap := s.heap.push { cls := .type "range", data := .fields #[.int lo t, .int hi u, .int 1 v] }, toks := tk } := by
 refine wpAny_pyIter_range (IsRange.new ..) (small_one h1 h2 h3 h4) ?_
 have I1 : Inv X pins σ H { s with heap := s.heap.push { cls := .type "range", data := .fields #[.int lo t, .int hi u, .int 1 v] }, toks := tk } := I.kept fun b o e => get?_push_of_some _ e
 refine ⟨(s.heap.push { cls := .type "range", data := .fields #[.int lo t, .int hi u, .int 1 v] }).objs.size, [(s.heap.push { cls := .type "range", data := .fields #[.int lo t, .int hi u, .int 1 v] }).objs.size], _, _, H, rfl,
  I1.kept (t' := tk) fun b o e => get?_push_of_some _ e, turn_range _ lo (hi - lo).toNat, ?_, fun b hb => ?_, q⟩
 . have e1 : lo + ((0 : Nat) : Int) * 1 = lo := by simp
   have e2 : (((hi - lo).toNat : Nat) : Int) - ((0 : Nat) : Int) = Builtin.Range.rangeSize lo hi 1 := by rw [rangeSize_one]; split <;> omega
   show IsRangeIter _ _ (lo + ((0 : Nat) : Int) * 1) ((((hi - lo).toNat : Nat) : Int) - ((0 : Nat) : Int)) 1
   rw [e1, e2]
   exact get?_push_size _ rfl
 . have e : b = (s.heap.push { cls := .type "range", data := .fields #[.int lo t, .int hi u, .int 1 v] }).objs.size := by simpa using hb
   subst e
   exact I1.fpOk (Nat.le_refl _) (I1.hok.fresh (Nat.le_refl _))
def iRng1 (ta : TA) : TI := fun σ H R => ta σ H fun vs H1 => ∃ j : Int, vs = [.int j] /\ -(2 ^ 62) <= j /\ j < 2 ^ 62 /\ R (Itr 0 j.toNat) H1
theorem pi_range1 {a : Expr} {ta : TA} {p pos : Pos} (hg : Gl X "range") (hm : X.mg "range" = none) (ha : PA X [a] ta) (hs : starEach [a] X.env = [(false, eval a X.env)] := by rfl) : PI X tg (.Call (.Name "range" p) [a] [] pos) (iRng1 ta) := by
 intro pins s σ H R I h
 refine Call_ (ld_blt I hg hm boot_range (PyProof.Rows.callWith_type1 (thn (ha pos pins s σ H _ I h) fun us s1 ⟨vs, H1, I1, r1, q1⟩ => ?_) hs rfl))
 obtain ⟨j, e, q1, q2, q⟩ := q1
 subst e
 cases r1 with
 | cons r rr =>
  cases rr
  obtain ⟨t, rfl⟩ := r
  exact call_range_1 (range_it I1 (by omega) (by omega) q1 q2 (by simpa using q))
def tFor (wi : TI) (g : TG) (tb : TS) : TS := fun D σ H => wi σ H fun J H1 => ∃ W : Nat -> Nat -> St -> Hp -> Prop, (∃ m, W 0 m σ H1) /\ ∀ i m σ H, W i m σ H ->
 (J.stop i H /\ D.nx σ H) \/ (J.go i H /\ ∃ N : St -> Hp -> Prop, (∀ σ' H', N σ' H' -> ∃ m', m' < m /\ W (i + 1) m' σ' H') /\ ∀ x H', J.yld i H x H' -> g x σ H' fun σ2 H2 => tb { D with nx := N, ct := N, bk := D.nx } σ2 H2)
def pinsAt (fp : List Addr) (h : Heap) : List (Addr × Obj) := fp.filterMap fun b => (h.get? b).map fun o => (b, o)
theorem mem_pinsAt {fp : List Addr} {h : Heap} {b : Addr} {o : Obj} (hb : b ∈ fp) (e : h.get? b = some o) : (b, o) ∈ pinsAt fp h := List.mem_filterMap.mpr ⟨b, hb, by rw [e]; rfl⟩
theorem of_pinsAt {fp : List Addr} {h : Heap} {p : Addr × Obj} (hp : p ∈ pinsAt fp h) : p.1 ∈ fp /\ h.get? p.1 = some p.2 := by
 obtain ⟨b, hb, e⟩ := List.mem_filterMap.mp hp
 cases q : h.get? b with
 | none => rw [q] at e; cases e
 | some o =>
  rw [q] at e
  have e' : (b, o) = p := Option.some.inj e
  subst e'
  exact ⟨hb, q⟩
theorem Inv.pinned {pins : List (Addr × Obj)} {σ : St} {H : Hp} {s : Shared} {fp : List Addr} (I : Inv X pins σ H s) (hf : ∀ b ∈ fp, FpOk X pins H b) (ho : ∀ b ∈ fp, ∃ o, s.heap.get? b = some o /\ ∀ v, o.data ≠ .cell v) : Inv X (pins ++ pinsAt fp s.heap) σ H s :=
 I.pins_of fun p hp => (mem_append.mp hp).elim (fun z => I.pin p (mem_append_right _ z)) fun z => by
  obtain ⟨hb, e⟩ := of_pinsAt z
  obtain ⟨f0, f1, f2, _⟩ := hf p.1 hb
  obtain ⟨o, e', d⟩ := ho p.1 hb
  rw [e] at e'; cases e'
  exact ⟨e, f0, f1, f2, d⟩
theorem Inv.unpinned {pins pl : List (Addr × Obj)} {σ : St} {H : Hp} {s : Shared} (I : Inv X (pins ++ pl) σ H s) : Inv X pins σ H s := I.pins_of fun p hp => I.pin p (mem_append_right _ (List.mem_append_left _ hp))
theorem ps_for {iter : Expr} {body : List Stmt} {wi : TI} {g : TG} {tb : TS} {pos : Pos} (hp : PassesOwn (model X.prog X.w) X.A X.env X.xe) (hc : X.calm = true) (hi : PI X tg iter wi) (hg : PG X tg g) (hb : PSs X body tb)
 (hs : ∀ x, foldedSetIterable iter X.env x = pure x := by intro _; rfl) : PS X (.For tg iter body [] pos) (tFor wi g tb) := by
 intro pins s σ H D I h
 refine wpAny_For (thn (hi pins s σ H _ I h) fun v s1 h1 => thn h1 fun itv s2 h2 => ?_) hs
 obtain ⟨it, fp, tn, J, H2, e, I2, T, st2, f2, W, ⟨m0, w0⟩, turn⟩ := h2
 subst e
 -- what stays true of the iterator's objects through the loop
 have stat : ∀ {H' : Hp}, (∀ b ∈ fp, H' b = none) -> ∀ b ∈ fp, FpOk X pins H' b := fun hn b hb => ⟨hn b hb, (f2 b hb).2⟩
 refine codeAny_forLoop_any (fun n s' => ∃ i σ' H', Inv X pins σ' H' s' /\ tn i s'.heap /\ (∀ b ∈ fp, H' b = none) /\ W i n σ' H') ?_ m0 ⟨0, σ, H2, I2, st2, fun b hb => (f2 b hb).1, w0⟩
 rintro n s3 ⟨i, σ3, H3, I3, st3, fr3, w3⟩
 rcases turn i n σ3 H3 w3 with ⟨stop, qn⟩ | ⟨go, N, hN, step⟩
 . refine wpAny_passesOwn hp (thn (T.done X rfl rfl rfl hc i pins s3 σ3 H3 X.xe I3 (stat fr3) st3 stop) fun r s4 ⟨hr, I4⟩ => ?_)
   subst hr
   exact wpAny_execs_nil ⟨σ3, H3, I4, qn⟩
 . refine wpAny_passesOwn hp (thn (T.item X rfl rfl rfl hc i pins s3 σ3 H3 X.xe I3 (stat fr3) st3 go) fun r s4 ⟨u, hr, h4⟩ => ?_)
   subst hr
   refine wpAny_passesOwn hp (thn h4 fun _ s5 ⟨x, H5, I5, r5, y5, st5, fr5⟩ => ?_)
   have I5' := I5.pinned (stat fr5) (T.obj _ _ st5)
   refine wpAny_passesOwn hp (thn (hg _ s5 σ3 H5 x u _ I5' r5 (step x H5 y5)) fun _ s6 ⟨σ6, H6, I6, q6⟩ => ?_)
   refine wpAny_passesOwn hp (thn (hb _ s6 σ6 H6 _ I6 q6) fun f s7 q7 => ?_)
   have again : ∀ {σ7 : St} {H7 : Hp}, Inv X (pins ++ pinsAt fp s5.heap) σ7 H7 s7 -> N σ7 H7 -> ∃ m, m < n /\ ∃ i σ' H', Inv X pins σ' H' s7 /\ tn i s7.heap /\ (∀ b ∈ fp, H' b = none) /\ W i m σ' H' := fun {σ7 H7} I7 n7 => by
    obtain ⟨m', hm, w7⟩ := hN σ7 H7 n7
    refine ⟨m', hm, i + 1, σ7, H7, I7.unpinned, T.keep _ _ _ st5 fun b hb o e => (I7.pin (b, o) (mem_append_right _ (mem_append_right _ (mem_pinsAt hb e)))).1, fun b hb => ?_, w7⟩
    obtain ⟨o, e, d⟩ := T.obj _ _ st5 b hb
    exact (I7.pin (b, o) (mem_append_right _ (mem_append_right _ (mem_pinsAt hb e)))).2.1
   cases f with
   | next => obtain ⟨σ7, H7, I7, n7⟩ := q7; exact again I7 n7
   | cont => obtain ⟨σ7, H7, I7, n7⟩ := q7; exact again I7 n7
   | brk => obtain ⟨σ7, H7, I7, q7⟩ := q7; exact ⟨σ7, H7, I7.unpinned, q7⟩
   | ret v => obtain ⟨x7, σ7, H7, I7, r7, q7⟩ := q7; exact ⟨x7, σ7, H7, I7.unpinned, r7, q7⟩
end
abbrev R2 := V -> V -> Hp -> VK -> Prop
def OpR (X : Cx) (f : Value -> Value -> Sem Value) (r : R2) : Prop :=
 ∀ (pins : List (Addr × Obj)) (s : Shared) (σ : St) (H : Hp) (x y : V) (v u : Value) (Q : VK), Inv X pins σ H s -> RelV x v -> RelV y u -> r x y H Q ->
  wpAny (model X.prog X.w) X.A (f v u) (EP X pins σ Q) X.xe s
def UnR (X : Cx) (f : Value -> Sem Value) (r : V -> Hp -> VK -> Prop) : Prop :=
 ∀ (pins : List (Addr × Obj)) (s : Shared) (σ : St) (H : Hp) (x : V) (v : Value) (Q : VK), Inv X pins σ H s -> RelV x v -> r x H Q ->
  wpAny (model X.prog X.w) X.A (f v) (EP X pins σ Q) X.xe s
def CallR (X : Cx) (f : Value) (r : List V -> Hp -> VK -> Prop) : Prop :=
 ∀ (pins : List (Addr × Obj)) (s : Shared) (σ : St) (H : Hp) (xs : List V) (us : List Value) (Q : VK), Inv X pins σ H s -> Vals xs us -> r xs H Q ->
  wpAny (model X.prog X.w) X.A (call f us) (EP X pins σ Q) X.xe s
def tOp (r : R2) (ta tb : TE) : TE := fun σ H Q => ta σ H fun x H1 => tb σ H1 fun y H2 => r x y H2 Q
def tUn (r : V -> Hp -> VK -> Prop) (ta : TE) : TE := fun σ H Q => ta σ H fun x H1 => r x H1 Q
def rI (C : Int -> Int -> Prop) (g : Int -> Int -> V) : R2 := fun x y H Q => ∃ i j, x = .int i /\ y = .int j /\ C i j /\ Q (g i j) H
def rI0 (g : Int -> Int -> V) : R2 := fun x y H Q => ∃ i j, x = .int i /\ y = .int j /\ Q (g i j) H
def rU (g : Int -> V) : V -> Hp -> VK -> Prop := fun x H Q => ∃ i, x = .int i /\ Q (g i) H
section
variable {X : Cx} {a b c : Expr} {ta tb tc : TE} {pos : Pos}
theorem binT (ha : PE X a ta) (hb : PE X b tb) {pins : List (Addr × Obj)} {s : Shared} {σ : St} {H : Hp} {R : V -> V -> Hp -> Prop} (I : Inv X pins σ H s)
 (h : ta σ H fun x H1 => tb σ H1 fun y H2 => R x y H2) {Q : Value -> Shared -> Prop} {f : Value -> Value -> Sem Value}
 (hf : ∀ v u s2 x y H2, Inv X pins σ H2 s2 -> RelV x v -> RelV y u -> R x y H2 -> wpAny (model X.prog X.w) X.A (f v u) Q X.xe s2) :
 wpAny (model X.prog X.w) X.A (eval a X.env) (fun v s₁ => wpAny (model X.prog X.w) X.A (eval b X.env) (fun u s₂ => wpAny (model X.prog X.w) X.A (f v u) Q X.xe s₂) X.xe s₁) X.xe s := by
 refine thn (ha pins s σ H _ I h) fun v s1 ⟨x, H1, I1, r1, q1⟩ => ?_
 refine thn (hb pins s1 σ H1 _ I1 q1) fun u s2 ⟨y, H2, I2, r2, q2⟩ => ?_
 exact hf v u s2 x y H2 I2 r1 r2 q2
theorem pe_op {op : Operator} {r : R2} (ho : OpR X (binaryOp op) r) (ha : PE X a ta) (hb : PE X b tb) : PE X (.BinOp a op b pos) (tOp r ta tb) := by
 intro pins s σ H Q I h
 exact wpAny_BinOp (binT ha hb I h fun v u s2 x y H2 I2 rx ry q => ho pins s2 σ H2 x y v u Q I2 rx ry q)
theorem pe_un {op : UnaryOp} {r : V -> Hp -> VK -> Prop} (ho : UnR X (unaryOp op) r) (ha : PE X a ta) : PE X (.UnaryOp op a pos) (tUn r ta) := by
 intro pins s σ H Q I h
 exact UnaryOp_ (thn (ha pins s σ H _ I h) fun v s1 ⟨x, H1, I1, r1, q1⟩ => ho pins s1 σ H1 x v Q I1 r1 q1)
theorem opI {f : Value -> Value -> Sem Value} {C : Int -> Int -> Prop} {g : Int -> Int -> Int}
 (rule : ∀ (i j : Int) (t u : Tok) (s : Shared) (Q : Value -> Shared -> Prop) (E : Value -> Shared -> Prop), C i j -> Q (.int (g i j) s.toks) { s with toks := s.toks + 1 } -> wpAny (model X.prog X.w) X.A (f (.int i t) (.int j u)) Q E s) :
 OpR X f (rI C fun i j => .int (g i j)) := by
 intro pins s σ H x y v u Q I rx ry h
 obtain ⟨i, j, rfl, rfl, hc, q⟩ := h
 obtain ⟨t, rfl⟩ := rx
 obtain ⟨t', rfl⟩ := ry
 exact rule i j t t' s _ _ hc ⟨.int (g i j), H, I.tok _, ⟨_, rfl⟩, q⟩
theorem opI0 {f : Value -> Value -> Sem Value} {g : Int -> Int -> Int}
 (rule : ∀ (i j : Int) (t u : Tok) (s : Shared) (Q : Value -> Shared -> Prop) (E : Value -> Shared -> Prop), Q (.int (g i j) s.toks) { s with toks := s.toks + 1 } -> wpAny (model X.prog X.w) X.A (f (.int i t) (.int j u)) Q E s) :
 OpR X f (rI0 fun i j => .int (g i j)) := by
 intro pins s σ H x y v u Q I rx ry h
 obtain ⟨i, j, rfl, rfl, q⟩ := h
 obtain ⟨t, rfl⟩ := rx
 obtain ⟨t', rfl⟩ := ry
 exact rule i j t t' s _ _ ⟨.int (g i j), H, I.tok _, ⟨_, rfl⟩, q⟩
theorem opB0 {f : Value -> Value -> Sem Value} {g : Int -> Int -> Bool}
 (rule : ∀ (i j : Int) (t u : Tok) (s : Shared) (Q : Value -> Shared -> Prop) (E : Value -> Shared -> Prop), Q (.bool (g i j)) s -> wpAny (model X.prog X.w) X.A (f (.int i t) (.int j u)) Q E s) :
 OpR X f (rI0 fun i j => .bl (g i j)) := by
 intro pins s σ H x y v u Q I rx ry h
 obtain ⟨i, j, rfl, rfl, q⟩ := h
 obtain ⟨t, rfl⟩ := rx
 obtain ⟨t', rfl⟩ := ry
 exact rule i j t t' s _ _ ⟨.bl (g i j), H, I, rfl, q⟩
def CDiv (i j : Int) : Prop := 0 < j /\ j < 1073741824
def CPow (i j : Int) : Prop := 0 <= j /\ j <= 1000000 /\ i.natAbs < 2 ^ 64
def CMul (i j : Int) : Prop := (-(2 ^ 64) < i /\ i < 2 ^ 64) \/ (-(2 ^ 64) < j /\ j < 2 ^ 64)
theorem CMul.ok {i j : Int} (h : CMul i j) : IntMulOk i j := by
 rcases h with ⟨h1, h2⟩ | ⟨h1, h2⟩
 . exact .of_left (intBits_le_64 h1 h2)
 . exact .of_right (intBits_le_64 h1 h2)
theorem two_pow_nn (k : Nat) : (0 : Int) <= 2 ^ k := by
 rw [two_pow_cast]
 exact Int.natCast_nonneg _
theorem op_add : OpR X (binaryOp .Add) (rI0 fun i j => .int (i + j)) := opI0 fun _ _ _ _ _ _ _ q => add_int q
theorem op_sub : OpR X (binaryOp .Sub) (rI0 fun i j => .int (i - j)) := opI0 fun _ _ _ _ _ _ _ q => sub_int q
theorem op_mul : OpR X (binaryOp .Mult) (rI CMul fun i j => .int (i * j)) := opI fun _ _ _ _ _ _ _ hc q => mul_int q hc.ok
theorem op_fdiv : OpR X (binaryOp .FloorDiv) (rI CDiv fun i j => .int (i / j)) := opI fun i j _ _ _ _ _ hc q => by
 have h1 : (0 : Int) < j := hc.1
 have h2 : j < 1073741824 := hc.2
 exact floordiv_int (by omega) (by rw [Int.fdiv_eq_ediv_of_nonneg i (by omega)]; exact q) (.inl (PyProof.noPylong_small (by omega)))
theorem op_mod : OpR X (binaryOp .Mod) (rI (fun _ j => 0 < j) fun i j => .int (i % j)) := opI fun i j _ _ _ _ _ hc q => by
 have h1 : (0 : Int) < j := hc
 exact mod_int' (by omega) (by rw [Int.fmod_eq_emod_of_nonneg i (by omega)]; exact q)
theorem op_pow : OpR X (binaryOp .Pow) (rI CPow fun i j => .int (i ^ j.toNat)) := opI fun _ _ _ _ _ _ _ hc q => pow_int_small hc.1 hc.2.1 hc.2.2 q
theorem op_shl : OpR X (binaryOp .LShift) (rI CPow fun i j => .int (i * 2 ^ j.toNat)) := opI fun _ _ _ _ _ _ _ hc q => lshift_int_small hc.1 hc.2.1 hc.2.2 q
theorem op_shr : OpR X (binaryOp .RShift) (rI (fun _ j => 0 <= j) fun i j => .int (i / 2 ^ j.toNat)) := opI fun i j _ _ _ _ _ hc q =>
 rshift_int hc (by rw [Int.fdiv_eq_ediv_of_nonneg i (two_pow_nn _)]; exact q)
theorem op_and : OpR X (binaryOp .BitAnd) (rI0 fun i j => .int (Builtin.bitAnd i j)) := opI0 fun _ _ _ _ _ _ _ q => and_int q
theorem op_or : OpR X (binaryOp .BitOr) (rI0 fun i j => .int (Builtin.bitOr i j)) := opI0 fun _ _ _ _ _ _ _ q => or_int q
theorem unI {f : Value -> Sem Value} {g : Int -> Int}
 (rule : ∀ (i : Int) (t : Tok) (s : Shared) (Q : Value -> Shared -> Prop) (E : Value -> Shared -> Prop), Q (.int (g i) s.toks) { s with toks := s.toks + 1 } -> wpAny (model X.prog X.w) X.A (f (.int i t)) Q E s) :
 UnR X f (rU fun i => .int (g i)) := by
 intro pins s σ H x v Q I rx h
 obtain ⟨i, rfl, q⟩ := h
 obtain ⟨t, rfl⟩ := rx
 exact rule i t s _ _ ⟨.int (g i), H, I.tok _, ⟨_, rfl⟩, q⟩
theorem un_neg : UnR X (unaryOp .USub) (rU fun i => .int (-i)) := unI fun _ _ _ _ _ q => neg_int q
end
def scal : V -> V -> Bool
 | .non, .non => true | .non, .int _ => true | .int _, .non => true | .non, .bl _ => true | .bl _, .non => true | .non, .str _ => true | .str _, .non => true
 | .int _, .int _ => true | .bl _, .bl _ => true | .str _, .str _ => true | .byt _, .byt _ => true
 | .int _, .str _ => true | .str _, .int _ => true | .bl _, .str _ => true | .str _, .bl _ => true
 | _, _ => false
def rEq : R2 := fun x y H Q => scal x y = true /\ Q (.bl (decide (x = y))) H
def rNe : R2 := fun x y H Q => scal x y = true /\ Q (.bl (!decide (x = y))) H
theorem dec_int {i j : Int} : decide (V.int i = V.int j) = (i == j) := by
 rw [Bool.eq_iff_iff]
 simp
theorem dec_bl {i j : Bool} : decide (V.bl i = V.bl j) = (i == j) := by
 rw [Bool.eq_iff_iff]
 simp
theorem dec_str {i j : Str} : decide (V.str i = V.str j) = (i == j) := by
 rw [Bool.eq_iff_iff]
 simp
theorem dec_byt {i j : Array UInt8} : decide (V.byt i = V.byt j) = (i.toList == j.toList) := by
 rw [Bool.eq_iff_iff]
 cases i
 cases j
 simp
section
variable {X : Cx} {a b c : Expr} {ta tb tc : TE} {pos : Pos}
theorem fin_bl {pins : List (Addr × Obj)} {σ : St} {H : Hp} {s : Shared} {Q : VK} {k k' : Bool} (I : Inv X pins σ H s) (q : Q (.bl k) H) (e : k = k') : EP X pins σ Q (.bool k') s := by
 subst e
 exact ⟨.bl k, H, I, rfl, q⟩
theorem op_eq : OpR X (compareOp .Eq) rEq := by
 intro pins s σ H x y v u Q I rx ry h
 obtain ⟨hs, q⟩ := h
 cases x with
 | non =>
  cases rx
  cases y with
  | non => cases ry; exact PySem.EqNone.eq_none_none (fin_bl I q (by simp))
  | bl j => cases ry; exact PySem.EqNone.eq_none_bool (fin_bl I q (by simp))
  | int j => obtain ⟨t', rfl⟩ := ry; exact PySem.EqNone.eq_none_int (fin_bl I q (by simp))
  | str j => obtain ⟨t', rfl⟩ := ry; exact PySem.EqNone.eq_none_str (fin_bl I q (by simp))
  | _ => exact absurd (show false = true from hs) Bool.false_ne_true
 | bl i =>
  cases rx
  cases y with
  | non => cases ry; exact PySem.EqNone.eq_bool_none (fin_bl I q (by simp))
  | bl j => cases ry; exact eq_bool (fin_bl I q dec_bl)
  | str j => obtain ⟨t', rfl⟩ := ry; exact PySem.EqMixed.eq_bool_str (fin_bl I q (by simp))
  | _ => exact absurd (show false = true from hs) Bool.false_ne_true
 | int i =>
  obtain ⟨t, rfl⟩ := rx
  cases y with
  | non => cases ry; exact PySem.EqNone.eq_int_none (fin_bl I q (by simp))
  | int j => obtain ⟨t', rfl⟩ := ry; exact eq_int (fin_bl I q dec_int)
  | str j => obtain ⟨t', rfl⟩ := ry; exact PySem.EqMixed.eq_int_str (fin_bl I q (by simp))
  | _ => exact absurd (show false = true from hs) Bool.false_ne_true
 | str i =>
  obtain ⟨t, rfl⟩ := rx
  cases y with
  | non => cases ry; exact PySem.EqNone.eq_str_none (fin_bl I q (by simp))
  | bl j => cases ry; exact PySem.EqMixed.eq_str_bool (fin_bl I q (by simp))
  | int j => obtain ⟨t', rfl⟩ := ry; exact PySem.EqMixed.eq_str_int (fin_bl I q (by simp))
  | str j => obtain ⟨t', rfl⟩ := ry; exact eq_str (fin_bl I q dec_str)
  | _ => exact absurd (show false = true from hs) Bool.false_ne_true
 | byt i =>
  obtain ⟨t, rfl⟩ := rx
  cases y with
  | byt j => obtain ⟨t', rfl⟩ := ry; exact PySem.W.eq_bytes (fin_bl I q dec_byt)
  | _ => exact absurd (show false = true from hs) Bool.false_ne_true
 | _ => cases y <;> exact absurd (show false = true from hs) Bool.false_ne_true
theorem op_ne : OpR X (compareOp .NotEq) rNe := by
 intro pins s σ H x y v u Q I rx ry h
 obtain ⟨hs, q⟩ := h
 cases x with
 | non =>
  cases rx
  cases y with
  | non => cases ry; exact PySem.EqNone.ne_none_none (fin_bl I q (by simp))
  | bl j => cases ry; exact PySem.EqNone.ne_none_bool (fin_bl I q (by simp))
  | int j => obtain ⟨t', rfl⟩ := ry; exact PySem.EqNone.ne_none_int (fin_bl I q (by simp))
  | str j => obtain ⟨t', rfl⟩ := ry; exact PySem.EqNone.ne_none_str (fin_bl I q (by simp))
  | _ => exact absurd (show false = true from hs) Bool.false_ne_true
 | bl i =>
  cases rx
  cases y with
  | non => cases ry; exact PySem.EqNone.ne_bool_none (fin_bl I q (by simp))
  | bl j => cases ry; exact ne_bool (fin_bl I q (congrArg not dec_bl))
  | str j => obtain ⟨t', rfl⟩ := ry; exact PySem.EqMixed.ne_bool_str (fin_bl I q (by simp))
  | _ => exact absurd (show false = true from hs) Bool.false_ne_true
 | int i =>
  obtain ⟨t, rfl⟩ := rx
  cases y with
  | non => cases ry; exact PySem.EqNone.ne_int_none (fin_bl I q (by simp))
  | int j => obtain ⟨t', rfl⟩ := ry; exact ne_int (fin_bl I q (congrArg not dec_int))
  | str j => obtain ⟨t', rfl⟩ := ry; exact PySem.EqMixed.ne_int_str (fin_bl I q (by simp))
  | _ => exact absurd (show false = true from hs) Bool.false_ne_true
 | str i =>
  obtain ⟨t, rfl⟩ := rx
  cases y with
  | non => cases ry; exact PySem.EqNone.ne_str_none (fin_bl I q (by simp))
  | bl j => cases ry; exact PySem.EqMixed.ne_str_bool (fin_bl I q (by simp))
  | int j => obtain ⟨t', rfl⟩ := ry; exact PySem.EqMixed.ne_str_int (fin_bl I q (by simp))
  | str j => obtain ⟨t', rfl⟩ := ry; exact ne_str (fin_bl I q (congrArg not dec_str))
  | _ => exact absurd (show false = true from hs) Bool.false_ne_true
 | byt i =>
  obtain ⟨t, rfl⟩ := rx
  cases y with
  | byt j => obtain ⟨t', rfl⟩ := ry; exact PySem.W.ne_bytes (fin_bl I q (congrArg not dec_byt))
  | _ => exact absurd (show false = true from hs) Bool.false_ne_true
 | _ => cases y <;> exact absurd (show false = true from hs) Bool.false_ne_true
theorem op_lt : OpR X (compareOp .Lt) (rI0 fun i j => .bl (decide (i < j))) := opB0 fun _ _ _ _ _ _ _ q => lt_int q
theorem op_le : OpR X (compareOp .LtE) (rI0 fun i j => .bl (decide (i <= j))) := opB0 fun _ _ _ _ _ _ _ q => le_int q
theorem op_gt : OpR X (compareOp .Gt) (rI0 fun i j => .bl (decide (j < i))) := opB0 fun _ _ _ _ _ _ _ q => gt_int q
theorem op_ge : OpR X (compareOp .GtE) (rI0 fun i j => .bl (decide (j <= i))) := opB0 fun _ _ _ _ _ _ _ q => ge_int q
theorem op_in_str : OpR X (compareOp .In) (fun x y H Q => ∃ i j, x = .str i /\ y = .str j /\ Q (.bl (!(Builtin.Str.occurrences j i 0 j.length 1).isEmpty)) H) := by
 intro pins s σ H x y v u Q I rx ry h
 obtain ⟨i, j, rfl, rfl, q⟩ := h
 obtain ⟨t, rfl⟩ := rx
 obtain ⟨t', rfl⟩ := ry
 exact in_str (fin_bl I q rfl)
theorem nomark (b : Expr) {op : CmpOp} (h : op ≠ .In := by decide) (h2 : op ≠ .NotIn := by decide) : behindInMarks op b = false := by
 have e1 : (op == CmpOp.In) = false := by cases op <;> first | rfl | exact absurd rfl h
 have e2 : (op == CmpOp.NotIn) = false := by cases op <;> first | rfl | exact absurd rfl h2
 cases b <;> simp [behindInMarks, e1, e2]
theorem pe_cmpR {op : CmpOp} {r : R2} (ho : OpR X (compareOp op) r) (ha : PE X a ta) (hb : PE X b tb) (hm : behindInMarks op b = false) : PE X (.Compare a [op] [b] pos) (tOp r ta tb) := by
 intro pins s σ H Q I h
 exact wpAny_Compare1 (binT ha hb I h fun v u s2 x y H2 I2 rx ry q => ho pins s2 σ H2 x y v u Q I2 rx ry q) hm
def tTest (t : TE) : TT := fun σ H Q => t σ H fun x H' => ∃ k, x = .bl k /\ Q k H'
theorem pt_cmpR {op : CmpOp} {r : R2} (ho : OpR X (compareOp op) r) (ha : PE X a ta) (hb : PE X b tb) (hm : behindInMarks op b = false) : PT X (.Compare a [op] [b] pos) (tTest (tOp r ta tb)) := by
 intro pins s σ H Q I h
 refine wpAny_isTrue_Compare1 (thn (ha pins s σ H _ I h) fun v s1 ⟨x, H1, I1, r1, q1⟩ => thn (hb pins s1 σ H1 _ I1 q1) fun u s2 ⟨y, H2, I2, r2, q2⟩ =>
  thn (ho pins s2 σ H2 x y v u _ I2 r1 r2 q2) fun c s3 ⟨z, H3, I3, r3, k, e, q3⟩ => ?_) hm
 subst e
 cases r3
 exact wpAny_truthy_bool ⟨H3, I3, q3⟩
def tChain (r r' : R2) (ta tb tc : TE) : TE := fun σ H Q => ta σ H fun x H1 => tb σ H1 fun y H2 => r x y H2 fun z H3 => ∃ k, z = .bl k /\
 (if k = true then tc σ H3 fun w' H4 => r' y w' H4 Q else Q (.bl false) H3)
theorem pe_chain {op op' : CmpOp} {r r' : R2} (ho : OpR X (compareOp op) r) (ho' : OpR X (compareOp op') r') (ha : PE X a ta) (hb : PE X b tb) (hc : PE X c tc)
 (hm : lastMarks [op, op'] [b, c] = false := by with_unfolding_all rfl) : PE X (.Compare a [op, op'] [b, c] pos) (tChain r r' ta tb tc) := by
 intro pins s σ H Q I h
 refine Compare_chain (thn (ha pins s σ H _ I h) fun v s1 ⟨x, H1, I1, r1, q1⟩ => chain_link (thn (hb pins s1 σ H1 _ I1 q1) fun u s2 ⟨y, H2, I2, r2, q2⟩ =>
  thn (ho pins s2 σ H2 x y v u _ I2 r1 r2 q2) fun d s3 ⟨z, H3, I3, r3, k, e, q3⟩ => ?_)) hm
 subst e
 cases r3
 refine wpAny_truthy_bool ?_
 cases k with
 | false => exact ite_ff ⟨.bl false, H3, I3, rfl, q3⟩
 | true => exact ite_tt (chain_last (thn (hc pins s3 σ H3 _ I3 q3) fun w' s4 ⟨z', H4, I4, r4, q4⟩ => ho' pins s4 σ H4 y z' u w' Q I4 r2 r4 q4))
theorem line63 : (sizeLine : Nat) < 2 ^ 63 := by rw [sizeLine_eq]; decide
theorem op_add_str : OpR X (binaryOp .Add) (fun x y H Q => ∃ i j, x = .str i /\ y = .str j /\ i.length + j.length <= sizeLine /\ Q (.str (i ++ j)) H) := by
 intro pins s σ H x y v u Q I rx ry h
 obtain ⟨i, j, rfl, rfl, hz, q⟩ := h
 obtain ⟨t, rfl⟩ := rx
 obtain ⟨t', rfl⟩ := ry
 exact add_str (fun t' tk => ⟨.str (i ++ j), H, I.tok _, ⟨_, rfl⟩, q⟩) hz
theorem vals1 {x : V} {us : List Value} (r : Vals [x] us) : ∃ u, us = [u] /\ RelV x u := by
 cases r with
 | cons r1 r2 => cases r2; exact ⟨_, rfl, r1⟩
theorem call_abs : CallR X (.builtin "abs") (fun xs H Q => ∃ i, xs = [.int i] /\ Q (.int (if i < 0 then -i else i)) H) := by
 intro pins s σ H xs us Q I r h
 obtain ⟨i, rfl, q⟩ := h
 obtain ⟨u, rfl, t, rfl⟩ := vals1 r
 exact call_abs_int fun u tk => ⟨.int (if i < 0 then -i else i), H, I.tok _, ⟨_, rfl⟩, q⟩
end
structure Room (k : Nat) (A : Around) : Prop where
 hd : A.handled = none
 dp : A.depth + 3 * k + 5 < recursionLimit
 un : A.units + 16 * k + 200 < cLine
theorem Room.mono {j k : Nat} {A : Around} (r : Room k A) (h : j <= k) : Room j A := ⟨r.hd, by have := r.dp; omega, by have := r.un; omega⟩
theorem Room.deeper {k : Nat} {A : Around} (r : Room (k + 1) A) (env : Env) : Room k (A.deeper env) :=
 ⟨r.hd, by have := r.dp; show A.depth + 1 + 3 * k + 5 < _; omega, by have := r.un; show A.units + 3 + 16 * k + 200 < _; omega⟩
theorem Room.depth {k : Nat} {A : Around} (r : Room k A) : A.depth < recursionLimit := by have := r.dp; omega
def tNil : TA := fun _ H Q => Q [] H
def tCons (ta : TE) (tr : TA) : TA := fun σ H Q => ta σ H fun x H1 => tr σ H1 fun xs H2 => Q (x :: xs) H2
section
variable {X : Cx} {e : Expr} {es : List Expr} {te : TE} {t : TA} {pos : Pos}
theorem pa_nil : PA X [] tNil := fun _ _ _ _ H Q I h => Calls.spliced_nil ⟨[], H, I, .nil, h⟩
theorem pa_cons (ha : PE X e te) (hr : PA X es t) (hs : starEach (e :: es) X.env = (false, eval e X.env) :: starEach es X.env := by rfl) : PA X (e :: es) (tCons te t) := by
 intro pos pins s σ H Q I h
 rw [hs]
 show wpAny _ _ (spliced ((false, eval e X.env) :: backTo pos (starEach es X.env))) _ _ s
 refine Calls.spliced_cons (thn (ha pins s σ H _ I h) fun u s1 ⟨x, H1, I1, r1, q1⟩ => ?_)
 exact thn (hr pos pins s1 σ H1 _ I1 q1) fun us s2 ⟨xs, H2, I2, r2, q2⟩ => ⟨x :: xs, H2, I2, .cons r1 r2, q2⟩
def tTup (t : TA) : TE := fun σ H Q => t σ H fun xs H1 => xs.length <= sizeLine /\ ∀ p, H1 p = none -> Q (.ref p) (upd H1 p (.tup xs))
def tLst (t : TA) : TE := fun σ H Q => t σ H fun xs H1 => xs.length <= sizeLine /\ ∀ p, H1 p = none -> Q (.ref p) (upd H1 p (.lst xs))
theorem pe_tup {x1} (h : PA X es t) : PE X (.Tuple es x1 pos) (tTup t) := by
 intro pins s σ H Q I hq
 refine wpAny_Tuple_spliced (thn (h pos pins s σ H _ I hq) fun us s1 ⟨xs, H1, I1, r, z, q⟩ => ⟨by rw [<- r.length]; exact z, ?_⟩)
 have hf : H1 s1.heap.objs.size = none := I1.hok.fresh (Nat.le_refl _)
 refine ⟨.ref s1.heap.objs.size, upd H1 s1.heap.objs.size (.tup xs), I1.laid (t' := s1.toks) (fun b u e => get?_push_of_some _ e) (Nat.le_refl _) ?_, rfl, q _ hf⟩
 exact ⟨z, us, r, ⟨_, get?_push_size _ rfl, rfl, _, rfl⟩⟩
theorem pe_lst (h : PA X es t) : PE X (.List es pos) (tLst t) := by
 intro pins s σ H Q I hq
 refine wpAny_List_spliced (thn (h pos pins s σ H _ I hq) fun us s1 ⟨xs, H1, I1, r, z, q⟩ => ⟨by rw [<- r.length]; exact z, ?_⟩)
 have hf : H1 s1.heap.objs.size = none := I1.hok.fresh (Nat.le_refl _)
 refine ⟨.ref s1.heap.objs.size, upd H1 s1.heap.objs.size (.lst xs), I1.laid (t' := s1.toks) (fun b u e => get?_push_of_some _ e) (Nat.le_refl _) ?_, rfl, q _ hf⟩
 exact ⟨z, us, 0, r, get?_push_size _ rfl⟩
end
abbrev Sp := List V -> Hp -> VK -> XK -> Prop
abbrev CXT := List Env -> Hp -> Shared -> XK -> Value -> Shared -> Prop
structure Env0 (P : Program) (w : World) (K : Frag) (mg : Str -> Option Value) (base : Heap) (A : Around) (outer : List Env) (s : Shared) (H : Hp) : Prop where
 frames : A.frames = some outer
 mod : Mod K mg base
 bs : ∀ b o, base.get? b = some o -> s.heap.get? b = some o /\ H b = none
 bsz : base.objs.size <= s.heap.objs.size
 funs : s.heap.FunFrames base outer
 frf : ∀ b ∈ frs outer, H b = none
 hok : HOk P w H s.heap
 bare : AllBare s.gens
def CE (outer : List Env) (P : Program) (w : World) (H : Hp) (s : Shared) (Q : VK) (u : Value) (s' : Shared) : Prop :=
 ∃ v H', s'.os = s.os /\ AllBare s'.gens /\ Un (frs outer) [] H H' s.heap s'.heap /\ HOk P w H' s'.heap /\ RelV v u /\ Q v H'
def CR (CX : CXT) (outer : List Env) (P : Program) (w : World) (H : Hp) (s : Shared) (Q : VK) (E : XK) (r : Result) (s' : Shared) : Prop :=
 match r with
 | .ok (.ret u) => CE outer P w H s Q u s'
 | .ok _ => False
 | .error e => CX outer H s E e s'
structure FnOk (P : Program) (w : World) (K : Frag) (mg : Str -> Option Value) (base : Heap) (CX : CXT) (k : Nat) (f : Addr) (fd : FuncData) (ps : List Str) (sp : Sp) : Prop where
 len : ∀ vs H Q E, sp vs H Q E -> vs.length = ps.length
 run : ∀ (A : Around) (outer : List Env) (s : Shared) (H : Hp) (args : Args) (us : List Value) (vs : List V) (Q : VK) (E : XK), Room k A -> Env0 P w K mg base A outer s H -> BindsTo s fd args (ps.zip us) -> Vals vs us -> sp vs H Q E ->
  codeAny (model P w) A (.call (.ref f) args) (CR CX outer P w H s Q E) s
theorem FnOk.imp {P : Program} {w : World} {K : Frag} {mg : Str -> Option Value} {base : Heap} {CX : CXT} {k : Nat} {f : Addr} {fd : FuncData} {ps : List Str} {sp sp' : Sp} (F : FnOk P w K mg base CX k f fd ps sp)
 (h : ∀ vs H Q E, sp' vs H Q E -> sp vs H Q E) : FnOk P w K mg base CX k f fd ps sp' :=
 ⟨fun vs H Q E q => F.len vs H Q E (h _ _ _ _ q), fun A outer s H args us vs Q E hr he hb hv hs => F.run A outer s H args us vs Q E hr he hb hv (h _ _ _ _ hs)⟩
section
variable {X : Cx} {pins : List (Addr × Obj)} {σ : St} {H : Hp} {s s' : Shared}
theorem Inv.env0 (I : Inv X pins σ H s) : Env0 X.prog X.w X.K X.mg X.base X.A X.stack s H :=
 ⟨I.ok.frames, I.ok.mod, I.bs, Nat.le_trans I.ok.bsz I.sz, I.stack, I.stkFree, I.hok, I.bare⟩
theorem Inv.after {Q : VK} {u : Value} (I : Inv X pins σ H s) (h : CE X.stack X.prog X.w H s Q u s') : EP X pins σ Q u s' := by
 obtain ⟨v, H', os, bare, un, hok, r, q⟩ := h
 obtain ⟨hh, g, d, t, os'⟩ := s'
 obtain rfl : os' = s.os := os
 exact ⟨v, H', I.call (h' := hh) (g' := g) (d' := d) (t' := t) (ch := []) un hok bare (fun b z => absurd z (by simp)), r, q⟩
end
def tCall (sp : Sp) (dvs : List V) (E : XK) (t : TA) : TE := fun σ H Q => t σ H fun vs H1 => sp (vs ++ dvs) H1 Q E
def Binds (K : Frag) (fd : FuncData) (ps : List Str) (ds : List Value) : Prop :=
 ∀ (s : Shared) (us : List Value), K.In s.heap -> (us ++ ds).length = ps.length -> BindsTo s fd ⟨us, []⟩ (ps.zip (us ++ ds))
theorem Binds.all {K : Frag} {fd : FuncData} {ps : List Str} (h : ∀ us : List Value, us.length = ps.length -> bindArgs fd ⟨us, []⟩ = pure (ps.zip us)) : Binds K fd ps [] := fun s us _ hl => by
 rw [append_nil] at hl ⊢
 exact .of_eq (h us hl)
def Passes (CX : CXT) (X : Cx) (E : XK) : Prop := ∀ (pins : List (Addr × Obj)) (σ : St) (H : Hp) (s : Shared) (e : Value) (s' : Shared), Inv X pins σ H s -> CX X.stack H s E e s' -> X.xe e s'
section
variable {X : Cx} {CX : CXT} {k : Nat} {f C : Addr} {fd : FuncData} {ps : List Str} {sp : Sp} {dvs : List V} {ds : List Value} {E : XK} {x m : Str} {p pos apos : Pos} {e o : Expr} {es : List Expr} {ta : TE} {t : TA}
theorem run_fn {pins : List (Addr × Obj)} {σ : St} {H : Hp} {s : Shared} {Q : VK} {us : List Value} {vs : List V} (F : FnOk X.prog X.w X.K X.mg X.base CX k f fd ps sp) (hr : Room k X.A) (hb : Binds X.K fd ps ds) (hd : Vals dvs ds) (hx : Passes CX X E)
 (I : Inv X pins σ H s) (r : Vals vs us) (h : sp (vs ++ dvs) H Q E) : wpAny (model X.prog X.w) X.A (call (.ref f) us) (EP X pins σ Q) X.xe s := by
 have r2 : Vals (vs ++ dvs) (us ++ ds) := r.append hd
 have hl : (us ++ ds).length = ps.length := by rw [<- r2.length]; exact F.len _ _ _ _ h
 refine wpAny_call (codeAny_mono (F.run X.A X.stack s H ⟨us, []⟩ (us ++ ds) (vs ++ dvs) Q E hr I.env0 (hb s us I.kIn hl) r2 h) fun r s' hq => ?_)
 cases r with
 | error e => exact hx pins σ H s e s' I hq
 | ok fl =>
  cases fl with
  | ret u => exact I.after hq
  | next => exact False.elim hq
  | brk => exact False.elim hq
  | cont => exact False.elim hq
theorem pe_call (F : FnOk X.prog X.w X.K X.mg X.base CX k f fd ps sp) (hr : Room k X.A) (hg : Gl X x) (hm : X.mg x = some (.ref f)) (hk : keepIn X.K (.ref f) = true) (hb : Binds X.K fd ps ds) (hd : Vals dvs ds) (hx : Passes CX X E)
 (ha : PA X (e :: es) t) (hdb : (x == ("__debug__" : Str)) = false := by decide) (he : starEach (e :: es) X.env = (false, eval e X.env) :: starEach es X.env := by rfl) (hpl : (backTo pos (starEach es X.env)).any (·.1) = false := by rfl) :
 PE X (.Call (.Name x p) (e :: es) [] pos) (tCall sp dvs E t) := by
 intro pins s σ H Q I h
 refine wpAny_Call_Name_kw (ld_glob I hg hm ?_ hdb)
 refine PySem.W.callWith_K (h₀ := X.base) I.ok.mod.kin hk (thn (ha pos pins s σ H _ I h) fun us s1 ⟨vs, H1, I1, r, q⟩ => ⟨I1.kIn, ?_⟩) he hpl
 exact run_fn F hr hb hd hx I1 r q
end
structure FnScope (N P : List Str) (sc : Scope) : Prop where
 kind : sc.kind = .function
 co : sc.isCoroutine = false
 gen : sc.isGenerator = false
 nd : N.Nodup
 pre : N.take P.length = P
 par : ∀ x ∈ P, sc.names.lookup x = some .local \/ sc.names.lookup x = some .cell
 nofree : ∀ y ∈ sc.names, y.2 ≠ .free
theorem bindL_out {kindOf : Str -> Option NameKind} {x : Str} : ∀ {binds : List (Str × Value)} {m : Str -> Option Value}, (∀ v, (x, v) ∉ binds) -> bindL kindOf binds m x = m x
 | [], _, _ => rfl
 | (n, v) :: r, m, h => by
  unfold bindL
  rw [bindL_out fun w hw => h w (mem_cons_of_mem _ hw)]
  split
  . have : x ≠ n := by rintro rfl; exact h v mem_cons_self
    simp [this]
  . rfl
theorem bindC_out {kindOf : Str -> Option NameKind} {x : Str} : ∀ {binds : List (Str × Value)} {m : Str -> Option Value}, (∀ v, (x, v) ∉ binds) -> bindC kindOf binds m x = m x
 | [], _, _ => rfl
 | (n, v) :: r, m, h => by
  unfold bindC
  rw [bindC_out fun w hw => h w (mem_cons_of_mem _ hw)]
  split
  . rfl
  . have : x ≠ n := by rintro rfl; exact h v mem_cons_self
    simp [this]
theorem bindL_get {kindOf : Str -> Option NameKind} {x : Str} {v : Value} : ∀ {P : List Str} {vs : List Value} {i : Nat} {m : Str -> Option Value}, P.Nodup -> P[i]? = some x -> vs[i]? = some v -> kindOf x = some .local ->
 bindL kindOf (P.zip vs) m x = some v
 | [], _, _, _, _, h, _, _ => by simp at h
 | _ :: _, [], _, _, _, _, h, _ => by simp at h
 | p :: P, w :: vs, 0, m, nd, h1, h2, hk => by
  simp at h1 h2; subst h1; subst h2
  show bindL kindOf ((p, w) :: P.zip vs) m p = _
  unfold bindL
  rw [bindL_out fun v hv => (nodup_cons.mp nd).1 (List.of_mem_zip hv).1, if_pos hk]
  simp
 | p :: P, w :: vs, i + 1, m, nd, h1, h2, hk => by
  show bindL kindOf ((p, w) :: P.zip vs) m x = _
  unfold bindL
  exact bindL_get (i := i) (nodup_cons.mp nd).2 (by simpa using h1) (by simpa using h2) hk
theorem bindC_get {kindOf : Str -> Option NameKind} {x : Str} {v : Value} : ∀ {P : List Str} {vs : List Value} {i : Nat} {m : Str -> Option Value}, P.Nodup -> P[i]? = some x -> vs[i]? = some v -> kindOf x ≠ some .local ->
 bindC kindOf (P.zip vs) m x = some v
 | [], _, _, _, _, h, _, _ => by simp at h
 | _ :: _, [], _, _, _, _, h, _ => by simp at h
 | p :: P, w :: vs, 0, m, nd, h1, h2, hk => by
  simp at h1 h2; subst h1; subst h2
  show bindC kindOf ((p, w) :: P.zip vs) m p = _
  unfold bindC
  rw [bindC_out fun v hv => (nodup_cons.mp nd).1 (List.of_mem_zip hv).1, if_neg hk]
  simp
 | p :: P, w :: vs, i + 1, m, nd, h1, h2, hk => by
  show bindC kindOf ((p, w) :: P.zip vs) m x = _
  unfold bindC
  exact bindC_get (i := i) (nodup_cons.mp nd).2 (by simpa using h1) (by simpa using h2) hk
def start (N : List Str) (vs : List V) : St := vs.map some ++ List.replicate (N.length - vs.length) none
def cxOf (CX : CXT) (P : Program) (w : World) (K : Frag) (mg : Str -> Option Value) (base : Heap) (N : List Str) (qual : Str) (scope : Scope) (f : Addr) (cd : Value) (A : Around) (outer : List Env) (s : Shared) (H : Hp) (E : XK) : Cx where
 prog := P
 w := w
 K := K
 mg := mg
 base := base
 A := A.deeper (envOfC qual scope s.heap.objs.size f cd)
 N := N
 s₀ := s
 H₀ := H
 env := envOfC qual scope s.heap.objs.size f cd
 outer := outer
 stack := envOfC qual scope s.heap.objs.size f cd :: outer
 ex := []
 calm := true
 fn := fun _ => true
 pn := []
 xe := fun e s' => wpAny (model P w) (A.deeper (envOfC qual scope s.heap.objs.size f cd)) (leaving (envOfC qual scope s.heap.objs.size f cd) e) (fun _ s'' => CX outer H s E e s'') (fun e' s'' => CX outer H s E e' s'') s'
theorem cell_has {sc : Scope} {n : Nat} {x : Str} (h : sc.names.lookup x = some .cell) : ∃ c, (cellsFrom n sc.names []).lookup x = some c := by
 have q := PySem.W.cellsFrom_some sc.names n [] (.inl h)
 exact Option.isSome_iff_exists.mp q
theorem inv_start {CX : CXT} {P : Program} {w : World} {K : Frag} {mg : Str -> Option Value} {base : Heap} {N ps : List Str} {qual : Str} {scope : Scope} {f : Addr} {cd : Value} {A : Around} {outer : List Env} {s s1 : Shared} {H : Hp} {E : XK} {us : List Value} {vs : List V}
 (S : FnScope N ps scope) (hd : A.handled = none) (e0 : Env0 P w K mg base A outer s H) (hl : vs.length = ps.length) (r : Vals vs us)
 (x : InCallC s s.heap.objs.size (bindL (envOfC qual scope s.heap.objs.size f cd).kindOf (ps.zip us) fun _ => none) (cellsFrom (s.heap.objs.size + 1) scope.names []) (bindC (envOfC qual scope s.heap.objs.size f cd).kindOf (ps.zip us) fun _ => none) s1) :
 Inv (cxOf CX P w K mg base N qual scope f cd A outer s H E) [] (start N vs) H s1 := by
 have hpl : ps.length <= N.length := by have := congrArg List.length S.pre; rw [length_take] at this; omega
 obtain ⟨h1, tk, rfl, hk⟩ := x.done
 have noA : ∀ b : Addr, b ∉ (cxOf CX P w K mg base N qual scope f cd A outer s H E).ex := fun b z => absurd (show b ∈ ([] : List Addr) from z) (by simp)
 refine ⟨⟨e0.mod, S.kind, rfl, rfl, Nat.le_refl _, fun y z c h1 h2 => ?_, fun y hy => ?_, fun y c _ h => ?_, fun _ => hd, Around.frames_deeper e0.frames, .inr ⟨rfl, rfl⟩, fun b z => absurd z (noA b), e0.bs, e0.bsz, fun b _ _ => noA b, fun b z => absurd z (noA b), e0.funs, e0.frf⟩,
  rfl, e0.bare, Un.kept hk, ⟨_, x.toInCall.ns, fun i y v h1 h2 h3 => ?_⟩, fun y c h => ⟨_, x.cell y c h⟩, e0.hok.fresh (Nat.le_refl _), fun y c h => ?_, fun p hp => absurd (show p ∈ ([] : List (Addr × Obj)) from hp) (by simp), e0.hok.kept hk, ?_⟩
 . exact name_of_addr x.apart (PySem.mem_of_lookup h1) (PySem.mem_of_lookup h2)
 . have hy : scope.names.lookup y = some .cell \/ scope.names.lookup y = some .free := hy
   rcases hy with hy | hy
   . exact cell_has hy
   . exact absurd rfl (S.nofree _ (PySem.mem_of_lookup hy))
 . exact Nat.le_of_lt (x.above y c (PySem.mem_of_lookup h))
 . have hi : i < vs.length := by
    unfold start at h2
    by_cases hi : i < vs.length
    . exact hi
    . rw [getElem?_append_right (by simpa using hi)] at h2
      rw [List.getElem?_replicate] at h2
      split at h2 <;> cases h2
   have ha : vs[i]? = some v := by
    unfold start at h2
    rw [getElem?_append_left (by simpa using hi), getElem?_map] at h2
    cases e : vs[i]? with
    | none => rw [e] at h2; cases h2
    | some a => rw [e] at h2; cases h2; rfl
   obtain ⟨u, hu, rv⟩ := r.get ha
   have hp : ps[i]? = some y := by
    rw [<- S.pre, List.getElem?_take_of_lt (by omega)]; exact h1
   have ndP : ps.Nodup := by rw [<- S.pre]; exact S.nd.sublist (List.take_sublist _ _)
   refine ⟨u, rv, ?_⟩
   rcases S.par y (mem_of_getElem? hp) with k | k
   . exact .inl ⟨k, bindL_get ndP hp hu k⟩
   . obtain ⟨c, e⟩ := cell_has (n := s.heap.objs.size + 1) k
     refine .inr ⟨.inl k, c, e, ?_⟩
     have q := x.cell y c e
     rw [bindC_get ndP hp hu (by show scope.names.lookup y ≠ _; rw [k]; decide)] at q
     exact q
 . exact e0.hok.fresh (Nat.le_of_lt (x.above y c (PySem.mem_of_lookup h)))
 . unfold start
   show _ = N.length
   rw [List.length_append, length_map, List.length_replicate]
   omega
theorem fn_of {CX : CXT} {P : Program} {w : World} {K : Frag} {mg : Str -> Option Value} {base : Heap} {k : Nat} {f : Addr} {name qual : Str} {params : Arguments} {body : List Stmt} {scope : Scope} {dV kV doc pm cdv ct oc : Value} {an od : Option Addr}
 {osl : Array (Option Value)} {N ps : List Str} {sp : Sp} (lk : K.lookup f = some ⟨oc, od, .func (PySem.W.fnOf name qual params body scope dV kV doc pm an cdv ct), osl⟩) (hcd : PySem.W.codeIn K cdv qual = true) (S : FnScope N ps scope)
 (len : ∀ vs H Q E, sp vs H Q E -> vs.length = ps.length)
 (hbody : ∀ (A : Around) (outer : List Env) (s : Shared) (H : Hp) (vs : List V) (Q : VK) (E : XK), Room k (A.deeper (envOfC qual scope s.heap.objs.size f cdv)) -> sp vs H Q E ->
  ∃ t, PSs (cxOf CX P w K mg base N qual scope f cdv A outer s H E) body t /\ t { nx := fun _ H' => Q .non H', rt := Q } (start N vs) H) :
 FnOk P w K mg base CX (k + 1) f (PySem.W.fnOf name qual params body scope dV kV doc pm an cdv ct) ps sp := by
 refine ⟨len, fun A outer s H args us vs Q E hr e0 hb r hsp => ?_⟩
 have hl := len _ _ _ _ hsp
 have KX : K.In s.heap := e0.mod.kin.keeps fun b o e => (e0.bs b o e).1
 have lim : s.heap.NoLimit := e0.mod.nolimit.keeps fun b o e => (e0.bs b o e).1
 have hkind : ∀ y ∈ ps.zip us, scope.names.lookup y.1 = some .local \/ (scope.names.lookup y.1 = some .cell /\ ((cellsFrom (s.heap.objs.size + 1) scope.names []).lookup y.1).isSome = true) := fun ⟨n, v⟩ hy => by
  rcases S.par n (List.of_mem_zip hy).1 with q | q
  . exact .inl q
  . exact .inr ⟨q, PySem.W.cellsFrom_some _ _ _ (.inl q)⟩
 refine codeAny_call_function hr.depth (KX _ _ lk) rfl S.co S.gen rfl (PySem.W.codeRec_of KX hcd) (hb _ _ _ _ ?_)
 refine wpAny_newFunctionEnv_cells S.kind hkind fun env he s1 x => ?_
 subst he
 refine ⟨lim.keeps x.toInCall.keep, codeAny_func ?_⟩
 obtain ⟨t, ht, hq⟩ := hbody A outer s H vs Q E (hr.deeper _) hsp
 have I : Inv (cxOf CX P w K mg base N qual scope f cdv A outer s H E) [] (start N vs) H s1 := inv_start S hr.hd e0 hl r x
 refine wpAny_mono (ht [] s1 (start N vs) H _ I hq) (fun fl s' hs => ?_) fun e s' hs => hs
 have fin : ∀ {σ' : St} {H' : Hp} {v : V} {u : Value}, Inv (cxOf CX P w K mg base N qual scope f cdv A outer s H E) [] σ' H' s' -> RelV v u -> Q v H' -> CE outer P w H s Q u s' :=
  fun {σ' H' v u} J rv q => ⟨v, H', J.os, J.bare, J.base, J.hok, rv, q⟩
 cases fl with
 | ret u =>
  obtain ⟨v, σ', H', J, rv, q⟩ := hs
  exact fin J rv q
 | next =>
  obtain ⟨σ', H', J, q⟩ := hs
  exact fin (v := V.non) (u := Value.none) J rfl q
 | brk =>
  obtain ⟨_, _, _, q⟩ := hs
  exact False.elim q
 | cont =>
  obtain ⟨_, _, _, q⟩ := hs
  exact False.elim q
section
variable {X : Cx} {x : Str} {p pos : Pos} {e : Expr} {es : List Expr} {t : TA} {id T : String} {r : List V -> Hp -> VK -> Prop}
def tCB (r : List V -> Hp -> VK -> Prop) (t : TA) : TE := fun σ H Q => t σ H fun vs H1 => r vs H1 Q
theorem pe_callB (hc : CallR X (.builtin id) r) (hg : Gl X x) (hm : X.mg x = none) (hv : bootBuiltins x = some (.builtin id)) (ha : PA X (e :: es) t) (hn : x ≠ "__name__" := by decide) (hdb : (x == ("__debug__" : Str)) = false := by decide)
 (he : starEach (e :: es) X.env = (false, eval e X.env) :: starEach es X.env := by rfl) (hpl : (backTo pos (starEach es X.env)).any (·.1) = false := by rfl) : PE X (.Call (.Name x p) (e :: es) [] pos) (tCB r t) := by
 intro pins s σ H Q I h
 refine wpAny_Call_Name_kw (ld_blt I hg hm hv ?_ hn hdb)
 exact PyProof.Rows.callWith_builtin1 (thn (ha pos pins s σ H _ I h) fun us s1 ⟨vs, H1, I1, r1, q1⟩ => hc pins s1 σ H1 vs us Q I1 r1 q1) he hpl
theorem pe_callTy (hc : CallR X (.type T) r) (hg : Gl X x) (hm : X.mg x = none) (hv : bootBuiltins x = some (.type T)) (ha : PA X (e :: es) t) (hn : x ≠ "__name__" := by decide) (hdb : (x == ("__debug__" : Str)) = false := by decide)
 (he : starEach (e :: es) X.env = (false, eval e X.env) :: starEach es X.env := by rfl) (hpl : (backTo pos (starEach es X.env)).any (·.1) = false := by rfl) : PE X (.Call (.Name x p) (e :: es) [] pos) (tCB r t) := by
 intro pins s σ H Q I h
 refine wpAny_Call_Name_kw (ld_blt I hg hm hv ?_ hn hdb)
 exact PyProof.Rows.callWith_type1 (thn (ha pos pins s σ H _ I h) fun us s1 ⟨vs, H1, I1, r1, q1⟩ => hc pins s1 σ H1 vs us Q I1 r1 q1) he hpl
end
end L2
namespace HT
open PySem PyProof.Rows
section
variable {prog : Program} {w : World} {A : Around} {E : Value -> Shared -> Prop} {s : Shared}
def sIx (n d : Nat) : Option Int -> Nat
 | none => d
 | some v => if v < 0 then (v + (n : Int)).toNat else min v.toNat n
theorem sIx_none (n d : Nat) : sIx n d none = d := rfl
theorem sIx_nat (n d k : Nat) : sIx n d (some (k : Int)) = min k n := by
 show (if (k : Int) < 0 then ((k : Int) + (n : Int)).toNat else min (k : Int).toNat n) = min k n
 rw [if_neg (by omega), Int.toNat_natCast]
end
end HT
namespace L2
open PySem PySem.Spec PyProof.Rows
abbrev TO := St -> Hp -> (Option Int -> Hp -> Prop) -> Prop
def PO (X : Cx) (e : Option Expr) (t : TO) : Prop :=
 ∀ (pins : List (Addr × Obj)) (s : Shared) (σ : St) (H : Hp) (Q : Option Int -> Hp -> Prop), Inv X pins σ H s -> t σ H Q ->
  wpAny (model X.prog X.w) X.A (evalPart e X.env) (fun u s' => ∃ o H', Inv X pins σ H' s' /\ IsPart u o /\ Q o H') X.xe s
def tNoPart : TO := fun _ H Q => Q none H
def tPart (t : TE) : TO := fun σ H Q => t σ H fun x H1 => ∃ i, x = .int i /\ Q (some i) H1
theorem intsAre_of {ns : List Int} : ∀ {us : List Value}, Vals (ns.map V.int) us -> IntsAre us ns := by
 induction ns with
 | nil => intro us r; rw [map_nil] at r; cases r; exact .nil
 | cons n ns ih =>
  intro us r
  rw [map_cons] at r
  cases r with
  | cons r1 r2 =>
   obtain ⟨t, e⟩ := r1
   subst e
   exact .cons n t (ih r2)
section
variable {X : Cx} {e : Expr} {te : TE} {lo hi : Option Expr} {tl th : TO} {pos p2 : Pos}
theorem po_none : PO X none tNoPart := by
 intro pins s σ H Q I h
 rw [evalPart_none]
 exact wpAny_pure ⟨none, H, I, .none, h⟩
theorem po_some (h : PE X e te) : PO X (some e) (tPart te) := by
 intro pins s σ H Q I hw
 rw [evalPart_some]
 refine thn (h pins s σ H _ I hw) fun u s1 ⟨x, H1, I1, r1, q1⟩ => ?_
 obtain ⟨i, rfl, q⟩ := q1
 obtain ⟨t, rfl⟩ := r1
 exact ⟨some i, H1, I1, .int i t, q⟩
def SlR (X : Cx) (r : V -> Option Int -> Option Int -> Hp -> VK -> Prop) : Prop :=
 ∀ (pins : List (Addr × Obj)) (s : Shared) (σ : St) (H : Hp) (x : V) (v vl vu : Value) (lo hi : Option Int) (sl : Addr) (Q : VK), Inv X pins σ H s -> RelV x v -> s.heap.IsSliceOf sl vl vu .none -> IsPart vl lo -> IsPart vu hi -> r x lo hi H Q ->
  ∃ T id, typeLookup (.type T) "__getitem__" = pure (some (.builtin id)) /\ s.TypeIs v T /\ wpAny (model X.prog X.w) X.A (getItem v (.ref sl)) (EP X pins σ Q) X.xe s
def tSl (r : V -> Option Int -> Option Int -> Hp -> VK -> Prop) (te : TE) (tl th : TO) : TE := fun σ H Q => te σ H fun x H1 => tl σ H1 fun l H2 => th σ H2 fun u H3 => r x l u H3 Q
theorem pe_slice {r : V -> Option Int -> Option Int -> Hp -> VK -> Prop} (hr : SlR X r) (he : PE X e te) (hl : PO X lo tl) (hu : PO X hi th) : PE X (.Subscript e (.Slice lo hi none p2) pos) (tSl r te tl th) := by
 intro pins s σ H Q I h
 refine Subscript_ (thn (he pins s σ H _ I h) fun v s1 ⟨x, H1, I1, r1, q1⟩ => ?_)
 refine wpAny_Slice (thn (hl pins s1 σ H1 _ I1 q1) fun vl s2 ⟨l, H2, I2, pl, q2⟩ => thn (hu pins s2 σ H2 _ I2 q2) fun vu s3 ⟨u, H3, I3, pu, q3⟩ => ?_)
 rw [evalPart_none]
 refine wpAny_pure ?_
 have I4 : Inv X pins σ H3 { s3 with heap := s3.heap.push { cls := .type "slice", data := .fields #[vl, vu, .none] } } := I3.kept (t' := s3.toks) fun b ob q => get?_push_of_some _ q
 obtain ⟨T, id, hT, ht, hg⟩ := hr pins { s3 with heap := s3.heap.push { cls := .type "slice", data := .fields #[vl, vu, .none] } } σ H3 x v vl vu l u s3.heap.objs.size Q I4 r1 (Heap.IsSliceOf.new ..) pl pu q3
 show wpAny (model X.prog X.w) X.A (subscriptTail e (.Slice lo hi none p2) v (.ref s3.heap.objs.size)) (EP X pins σ Q) X.xe { s3 with heap := s3.heap.push { cls := .type "slice", data := .fields #[vl, vu, .none] } }
 exact tail_any (ops := [.ref s3.heap.objs.size, v]) ht hT hg (by with_unfolding_all rfl)
def cutV (xs : List V) (lo hi : Option Int) : List V := (xs.drop (HT.sIx xs.length 0 lo)).take (HT.sIx xs.length xs.length hi - HT.sIx xs.length 0 lo)
theorem cutV_length (xs : List V) (lo hi : Option Int) : (cutV xs lo hi).length <= xs.length := by
 unfold cutV
 rw [length_take, length_drop]
 omega
end
def ixN (n : Nat) (i : Int) : Option Nat := if 0 <= i then (if i < n then some i.toNat else none) else if -(n : Int) <= i then some (i + n).toNat else none
def atI {α : Type} (xs : List α) (i : Int) : Option α := (ixN xs.length i).bind fun j => xs[j]?
theorem ixN_seq {n : Nat} {i : Int} {j : Nat} (h : ixN n i = some j) : seqIndex? i n = some j /\ j < n /\ -(n : Int) <= i /\ i < n := by
 unfold ixN at h
 by_cases h0 : 0 <= i
 . rw [if_pos h0] at h
   by_cases h1 : i < n
   . rw [if_pos h1] at h
     have e : i.toNat = j := Option.some.inj h
     exact ⟨by rw [seqIndex_of h0 h1, e], by omega, by omega, h1⟩
   . rw [if_neg h1] at h; cases h
 . rw [if_neg h0] at h
   by_cases h1 : -(n : Int) <= i
   . rw [if_pos h1] at h
     have e : (i + n).toNat = j := Option.some.inj h
     exact ⟨by rw [seqIndex_neg (by omega) h1, e], by omega, h1, by omega⟩
   . rw [if_neg h1] at h; cases h
theorem atI_get {α : Type} {xs : List α} {i : Int} {v : α} (h : atI xs i = some v) : ∃ j, seqIndex? i xs.length = some j /\ xs[j]? = some v /\ j < xs.length /\ -(xs.length : Int) <= i /\ i < xs.length := by
 unfold atI at h
 cases e : ixN xs.length i with
 | none => rw [e] at h; cases h
 | some j =>
  rw [e] at h
  obtain ⟨h1, h2, h3, h4⟩ := ixN_seq e
  exact ⟨j, h1, h, h2, h3, h4⟩
theorem atI_nat {α : Type} {xs : List α} {j : Nat} {v : α} (h : xs[j]? = some v) : atI xs (j : Int) = some v := by
 have hj : j < xs.length := (List.getElem?_eq_some_iff.mp h).1
 have e : ixN xs.length (j : Int) = some j := by
  unfold ixN
  rw [if_pos (by omega), if_pos (by omega)]; simp
 unfold atI; rw [e]; exact h
theorem atI_last {α : Type} (xs : List α) (v : α) : atI (xs ++ [v]) (-1) = some v := by
 have hl : (xs ++ [v]).length = xs.length + 1 := by simp
 have e : ixN (xs ++ [v]).length (-1) = some xs.length := by
  unfold ixN
  rw [hl, if_neg (by decide), if_pos (by omega)]
  congr 1
  omega
 unfold atI
 rw [e]
 show (xs ++ [v])[xs.length]? = some v
 simp
def PlainIx (b : Expr) : Prop := ∀ o i, subscripted b false o i = operate [o, i] (getItem o i)
def IxR (X : Cx) (r : R2) : Prop :=
 ∀ (value slice : Expr) (pins : List (Addr × Obj)) (s : Shared) (σ : St) (H : Hp) (x y : V) (v u : Value) (Q : VK), Inv X pins σ H s -> RelV x v -> RelV y u -> r x y H Q ->
  subscripted slice false v u = operate [v, u] (getItem v u) -> wpAny (model X.prog X.w) X.A (subscriptTail value slice v u) (EP X pins σ Q) X.xe s
def MtR (X : Cx) (id : String) (r : V -> List V -> Hp -> VK -> Prop) : Prop :=
 ∀ (pins : List (Addr × Obj)) (s : Shared) (σ : St) (H : Hp) (x : V) (xs : List V) (v : Value) (us : List Value) (Q : VK), Inv X pins σ H s -> RelV x v -> Vals xs us -> r x xs H Q ->
  wpAny (model X.prog X.w) X.A (call (.builtin id) (v :: us)) (EP X pins σ Q) X.xe s
section
variable {X : Cx} {a b : Expr} {ta tb : TE} {pos : Pos}
theorem pe_ix {r : R2} (hr : IxR X r) (ha : PE X a ta) (hb : PE X b tb) (hs : PlainIx b) : PE X (.Subscript a b pos) (tOp r ta tb) := by
 intro pins s σ H Q I h
 exact Subscript_ (binT ha hb I h fun v u s2 x y H2 I2 rx ry q => hr a b pins s2 σ H2 x y v u Q I2 rx ry q (hs _ _))
def rIxL (K : Frag) : R2 := fun x y H Q => ∃ p xs i v, x = .ref p /\ y = .int i /\ SqL K H p xs /\ atI xs i = some v /\ Q v H
def rIxT (K : Frag) : R2 := fun x y H Q => ∃ p xs i v, x = .ref p /\ y = .int i /\ SqT K H p xs /\ atI xs i = some v /\ Q v H
def rIxS : R2 := fun x y H Q => ∃ z i c, x = .str z /\ y = .int i /\ z.length <= sizeLine /\ atI z.cps.toList i = some c /\ Q (.str ⟨#[c]⟩) H
theorem ix_list : IxR X (rIxL X.K) := by
 intro value slice pins s σ H x y v u Q I rx ry h hs
 obtain ⟨p, xs, i, z, rfl, rfl, hq, he, q⟩ := h
 cases rx
 obtain ⟨t, rfl⟩ := ry
 obtain ⟨its, r, pl, hz⟩ := I.list hq
 obtain ⟨j, h1, h2, h3, h4, h5⟩ := atI_get he
 obtain ⟨w, ew, rw'⟩ := r.get h2
 have hl := r.length
 have hn := line63
 have fin : EP X pins σ Q w s := ⟨z, H, I, rw', q⟩
 by_cases h0 : 0 <= i
 . have hj : i.toNat = j := by
    rw [seqIndex_of h0 h5] at h1
    exact Option.some.inj h1
   exact item_listR pl.isList h0 (by omega) (by rw [hj]; simpa using ew) fin hs
 . have hj : (i + (its.toArray.size : Int)).toNat = j := by
    rw [seqIndex_neg (by omega) h4] at h1
    rw [size_toArray, <- hl]
    exact Option.some.inj h1
   exact subscriptTail_builtinR (x := w) pl.isList.typeIs slot_list_getitem.lookup
    (wpAny_getItem_list_neg (Q := fun r s' => r = w /\ EP X pins σ Q r s') pl.isList (by omega) (by rw [size_toArray] <;> omega) (by omega) (by rw [hj]; simpa using ew) ⟨rfl, fin⟩) hs
theorem ix_tup : IxR X (rIxT X.K) := by
 intro value slice pins s σ H x y v u Q I rx ry h hs
 obtain ⟨p, xs, i, z, rfl, rfl, hq, he, q⟩ := h
 cases rx
 obtain ⟨t, rfl⟩ := ry
 obtain ⟨its, r, pl, hz⟩ := I.tuple hq
 obtain ⟨j, h1, h2, h3, h4, h5⟩ := atI_get he
 obtain ⟨w, ew, rw'⟩ := r.get h2
 have hl := r.length
 have hn := line63
 have fin : EP X pins σ Q w s := ⟨z, H, I, rw', q⟩
 exact subscriptTail_builtinR (x := w) pl.typeIs slot_tuple_getitem.lookup
  (getItem_tuple (j := j) (Q := fun r s' => r = w /\ EP X pins σ Q r s') pl (by omega) (by omega) (by rw [size_toArray, <- hl]; exact h1) (by simpa using ew) ⟨rfl, fin⟩) hs
theorem ix_str : IxR X rIxS := by
 intro value slice pins s σ H x y v u Q I rx ry h hs
 obtain ⟨z, i, c, rfl, rfl, hz, he, q⟩ := h
 obtain ⟨t, rfl⟩ := rx
 obtain ⟨t', rfl⟩ := ry
 obtain ⟨j, h1, h2, h3, h4, h5⟩ := atI_get he
 have hl : z.cps.toList.length = z.length := by simp [Str.length]
 rw [hl] at h1 h4 h5
 have hn := line63
 exact tail_any (typeIs_str s z t) slot_str_getitem.lookup (getItem_str (c := c) (by
  have e1 : decide (i < -(2 ^ 63 : Int)) = false := decide_eq_false (by omega)
  have e2 : decide (i ≥ 2 ^ 63) = false := decide_eq_false (by omega)
  rw [e1, e2, Bool.or_false]) (by rw [h1]; simpa using h2) ⟨.str ⟨#[c]⟩, H, I.tok _, ⟨_, rfl⟩, q⟩) hs
theorem slice_bounds (lo hi : Option Int) (n : Nat) : (sliceBounds lo hi none n).1 = ((HT.sIx n 0 lo : Nat) : Int) /\ (sliceBounds lo hi none n).2.1 = ((HT.sIx n n hi : Nat) : Int) /\ (sliceBounds lo hi none n).2.2 = 1 := by
 refine ⟨?_, ?_, rfl⟩
 . cases lo with
   | none => simp [sliceBounds, HT.sIx]
   | some i =>
    simp only [sliceBounds, HT.sIx, Option.getD_none, show (1 : Int) > 0 by decide, if_true]
    by_cases h : i < 0
    . simp only [h, if_true] <;> omega
    . simp only [h, if_false] <;> omega
 . cases hi with
   | none => simp [sliceBounds, HT.sIx]
   | some i =>
    simp only [sliceBounds, HT.sIx, Option.getD_none, show (1 : Int) > 0 by decide, if_true]
    by_cases h : i < 0
    . simp only [h, if_true] <;> omega
    . simp only [h, if_false] <;> omega
theorem slicePick_cut (its : List Value) (lo hi : Option Int) : slicePick its.toArray lo hi none = ((its.drop (HT.sIx its.length 0 lo)).take (HT.sIx its.length its.length hi - HT.sIx its.length 0 lo)).toArray := by
 obtain ⟨h1, h2, h3⟩ := slice_bounds lo hi its.toArray.size
 unfold slicePick
 rw [h1, h2, h3]
 simp only [sliceRange_one, pick_run, size_toArray] <;> rfl
def rSlL (K : Frag) : V -> Option Int -> Option Int -> Hp -> VK -> Prop := fun x lo hi H Q => ∃ a xs, x = .ref a /\ SqL K H a xs /\ ∀ p, H p = none -> Q (.ref p) (upd H p (.lst (cutV xs lo hi)))
theorem sl_list : SlR X (rSlL X.K) := by
 intro pins s σ H x v vl vu lo hi sl Q I rx hs pl pu h
 obtain ⟨a, xs, rfl, hx, q⟩ := h
 cases rx
 obtain ⟨its, r, ht, hz⟩ := I.list hx
 have hlen := r.length
 refine ⟨"list", _, slot_list_getitem.lookup, ht.isList.typeIs, ?_⟩
 refine wpAny_getItem_list_slice ht.isList hs pl pu .none (by simp) ?_ (by rw [size_toArray] <;> omega)
 rw [slicePick_cut, <- hlen]
 refine ⟨.ref s.heap.objs.size, _, I.laid (t' := s.toks) (o := .lst (cutV xs lo hi)) (fun b ob q => get?_push_of_some _ q) (Nat.le_refl _) ?_, rfl, q _ (I.hok.fresh (Nat.le_refl _))⟩
 exact ⟨Nat.le_trans (cutV_length xs lo hi) hz, _, 0, (r.drop (HT.sIx xs.length 0 lo)).take (HT.sIx xs.length xs.length hi - HT.sIx xs.length 0 lo), get?_push_size _ rfl⟩
def flatV : V -> Bool
 | .non => true
 | .bl _ => true
 | .int _ => true
 | .str _ => true
 | _ => false
def eqV : V -> V -> Bool
 | .non, .non => true
 | .bl a, .bl b => a == b
 | .bl a, .int b => (if a then 1 else 0) == b
 | .int a, .bl b => a == (if b then 1 else 0)
 | .int a, .int b => a == b
 | .str a, .str b => a == b
 | _, _ => false
theorem eqAt_V {A : Around} {s : Shared} {y x : V} {u v : Value} (ry : RelV y u) (rx : RelV x v) (fy : flatV y = true) (fx : flatV x = true) : SeqAt.EqAt A s u v (eqV y x) := by
 cases y with
 | non =>
  cases ry
  cases x with
  | non => cases rx; exact SeqAt.EqAt.same _
  | bl b => cases rx; exact SeqAt.EqAt.none_bool b
  | int b => obtain ⟨t, rfl⟩ := rx; exact SeqAt.EqAt.none_int b t
  | str b => obtain ⟨t, rfl⟩ := rx; exact SeqAt.EqAt.none_str b t
  | _ => exact absurd (show false = true from fx) Bool.false_ne_true
 | bl a =>
  cases ry
  cases x with
  | non => cases rx; exact SeqAt.EqAt.bool_none a
  | bl b => cases rx; exact SeqAt.EqAt.bool_bool a b
  | int b => obtain ⟨t, rfl⟩ := rx; exact SeqAt.EqAt.bool_int a b t
  | str b => obtain ⟨t, rfl⟩ := rx; exact SeqAt.EqAt.bool_str a b t
  | _ => exact absurd (show false = true from fx) Bool.false_ne_true
 | int a =>
  obtain ⟨t', rfl⟩ := ry
  cases x with
  | non => cases rx; exact SeqAt.EqAt.int_none a t'
  | bl b => cases rx; exact SeqAt.EqAt.int_bool a t' b
  | int b => obtain ⟨t, rfl⟩ := rx; exact SeqAt.EqAt.int_int a t' b t
  | str b => obtain ⟨t, rfl⟩ := rx; exact SeqAt.EqAt.int_str a t' b t
  | _ => exact absurd (show false = true from fx) Bool.false_ne_true
 | str a =>
  obtain ⟨t', rfl⟩ := ry
  cases x with
  | non => cases rx; exact SeqAt.EqAt.str_none a t'
  | bl b => cases rx; exact SeqAt.EqAt.str_bool a t' b
  | int b => obtain ⟨t, rfl⟩ := rx; exact SeqAt.EqAt.str_int a t' b t
  | str b => obtain ⟨t, rfl⟩ := rx; exact SeqAt.EqAt.str_str a t' b t
  | _ => exact absurd (show false = true from fx) Bool.false_ne_true
 | _ => exact absurd (show false = true from fy) Bool.false_ne_true
def eqU (x : V) (u : Value) : Bool := match u with
 | .none => eqV .non x
 | .bool b => eqV (.bl b) x
 | .int i _ => eqV (.int i) x
 | .str z _ => eqV (.str z) x
 | _ => false
theorem eqU_of {x y : V} {u : Value} (r : RelV y u) (f : flatV y = true) : eqU x u = eqV y x := by
 cases y with
 | non => cases r; rfl
 | bl b => cases r; rfl
 | int i => obtain ⟨t, rfl⟩ := r; rfl
 | str z => obtain ⟨t, rfl⟩ := r; rfl
 | _ => exact absurd (show false = true from f) Bool.false_ne_true
theorem any_eqU {x : V} : ∀ {xs : List V} {us : List Value}, Vals xs us -> xs.all flatV = true -> us.any (eqU x) = xs.any fun y => eqV y x
 | _, _, .nil, _ => rfl
 | y :: xs, u :: us, .cons r t, f => by
  rw [List.all_cons, Bool.and_eq_true] at f
  rw [List.any_cons, List.any_cons, eqU_of r f.1, any_eqU t f.2]
theorem mem_eqAt {A : Around} {s : Shared} {x : V} {v : Value} (rx : RelV x v) (fx : flatV x = true) : ∀ {xs : List V} {us : List Value}, Vals xs us -> xs.all flatV = true -> ∀ u ∈ us, SeqAt.EqAt A s u v (eqU x u)
 | _, _, .nil, _ => fun u hu => by cases hu
 | y :: xs, u :: us, .cons r t, f => fun u' hu => by
  rw [List.all_cons, Bool.and_eq_true] at f
  rcases mem_cons.mp hu with rfl | hu
  . rw [eqU_of r f.1]; exact eqAt_V r rx f.1 fx
  . exact mem_eqAt rx fx t f.2 u' hu
def inV (x : V) (xs : List V) : Bool := xs.any fun y => eqV y x
def rIn (K : Frag) (neg : Bool) : R2 := fun x y H Q => ∃ p xs, y = .ref p /\ (SqL K H p xs \/ SqT K H p xs) /\ flatV x = true /\ xs.all flatV = true /\ Q (.bl (if neg then !inV x xs else inV x xs)) H
theorem op_in_seq : OpR X (compareOp .In) (rIn X.K false) := by
 intro pins s σ H x y v u Q I rx ry h
 obtain ⟨p, xs, rfl, hq, fx, fs, q⟩ := h
 cases ry
 rcases hq with hq | hq
 . obtain ⟨its, r, pl, hz⟩ := I.list hq
   refine SeqAt.in_listAt (eqU x) pl.isList (fun w hw => mem_eqAt rx fx r fs w (by simpa using hw)) ⟨.bl _, H, I, rfl, ?_⟩
   rw [show its.toArray.any (eqU x) = its.any (eqU x) by simp, any_eqU r fs]
   exact q
 . obtain ⟨its, r, pl, hz⟩ := I.tuple hq
   refine SeqAt.in_tupleAt (eqU x) pl (fun w hw => mem_eqAt rx fx r fs w (by simpa using hw)) ⟨.bl _, H, I, rfl, ?_⟩
   rw [show its.toArray.any (eqU x) = its.any (eqU x) by simp, any_eqU r fs]
   exact q
theorem op_notIn_seq : OpR X (compareOp .NotIn) (rIn X.K true) := by
 intro pins s σ H x y v u Q I rx ry h
 obtain ⟨p, xs, rfl, hq, fx, fs, q⟩ := h
 cases ry
 rcases hq with hq | hq
 . obtain ⟨its, r, pl, hz⟩ := I.list hq
   refine SeqAt.notIn_listAt (eqU x) pl.isList (fun w hw => mem_eqAt rx fx r fs w (by simpa using hw)) ⟨.bl _, H, I, rfl, ?_⟩
   rw [show its.toArray.any (eqU x) = its.any (eqU x) by simp, any_eqU r fs]
   exact q
 . obtain ⟨its, r, pl, hz⟩ := I.tuple hq
   refine SeqAt.notIn_tupleAt (eqU x) pl (fun w hw => mem_eqAt rx fx r fs w (by simpa using hw)) ⟨.bl _, H, I, rfl, ?_⟩
   rw [show its.toArray.any (eqU x) = its.any (eqU x) by simp, any_eqU r fs]
   exact q
theorem call_len_seq : CallR X (.builtin "len") (fun xs H Q => ∃ p ys, xs = [.ref p] /\ (SqL X.K H p ys \/ SqT X.K H p ys) /\ Q (.int ys.length) H) := by
 intro pins s σ H xs us Q I r h
 obtain ⟨p, ys, rfl, hq, q⟩ := h
 obtain ⟨u, rfl, rx⟩ := vals1 r
 cases rx
 have hn := line63
 rcases hq with hq | hq
 . obtain ⟨its, r', pl, hz⟩ := I.list hq
   have hlen := r'.length
   exact Calls.call_len_list pl.isList (by simp only [size_toArray] <;> omega) ⟨.int ys.length, H, I.tok _, ⟨s.toks + 1, by rw [size_toArray, hlen]⟩, q⟩
 . obtain ⟨its, r', pl, hz⟩ := I.tuple hq
   have hlen := r'.length
   exact len_tuple pl (by simp only [size_toArray] <;> omega) ⟨.int ys.length, H, I.tok _, ⟨s.toks + 1, by rw [size_toArray, hlen]⟩, q⟩
theorem call_len_str : CallR X (.builtin "len") (fun xs H Q => ∃ z, xs = [.str z] /\ z.length <= sizeLine /\ Q (.int z.length) H) := by
 intro pins s σ H xs us Q I r h
 obtain ⟨z, rfl, hz, q⟩ := h
 obtain ⟨u, rfl, t, rfl⟩ := vals1 r
 have hn := line63
 exact len_str (by omega) ⟨.int z.length, H, I.tok _, ⟨_, rfl⟩, q⟩
theorem call_list_of : CallR X (.type "list") (fun xs H Q => ∃ p ys, xs = [.ref p] /\ (SqL X.K H p ys \/ SqT X.K H p ys) /\ ∀ l, H l = none -> Q (.ref l) (upd H l (.lst ys))) := by
 intro pins s σ H xs us Q I r h
 obtain ⟨p, ys, rfl, hq, q⟩ := h
 obtain ⟨u, rfl, rx⟩ := vals1 r
 cases rx
 have fin : ∀ (its : List Value), Vals ys its -> ys.length <= sizeLine -> ∀ (h' : Heap) (c' : Nat), (∀ b o', s.heap.get? b = some o' -> h'.get? b = some o') ->
  h'.get? s.heap.objs.size = some { cls := .type "list", dict := none, data := .seq its.toArray c', slots := #[] } -> EP X pins σ Q (.ref s.heap.objs.size) { s with heap := h' } := fun its r' hz h' c' kp e =>
  ⟨.ref s.heap.objs.size, _, I.laid (t' := s.toks) kp (Nat.le_refl _) (show ObjOk X.prog X.w _ h' _ (.lst ys) from ⟨hz, its, c', r', e⟩), rfl, q _ (I.hok.fresh (Nat.le_refl _))⟩
 rcases hq with hq | hq
 . obtain ⟨its, r', pl, hz⟩ := I.list hq
   have hlen := r'.length
   obtain ⟨o, ho, hc, n, hd⟩ := pl.isList
   exact call_list_seq p (.inl rfl) ho hc hd (fun h' c' kp e => fin its r' hz h' c' kp e) (by simp only [size_toArray] <;> omega)
 . obtain ⟨its, r', pl, hz⟩ := I.tuple hq
   have hlen := r'.length
   obtain ⟨o, ho, hc, n, hd⟩ := pl
   exact call_list_seq p (.inr rfl) ho hc hd (fun h' c' kp e => fin its r' hz h' c' kp e) (by simp only [size_toArray] <;> omega)
theorem call_tuple_of : CallR X (.type "tuple") (fun xs H Q => ∃ p ys, xs = [.ref p] /\ ((SqL X.K H p ys /\ ∀ l, H l = none -> Q (.ref l) (upd H l (.tup ys))) \/ (SqT X.K H p ys /\ Q (.ref p) H))) := by
 intro pins s σ H xs us Q I r h
 obtain ⟨p, ys, rfl, h⟩ := h
 obtain ⟨u, rfl, rx⟩ := vals1 r
 cases rx
 rcases h with ⟨hq, q⟩ | ⟨hq, q⟩
 . obtain ⟨its, r', pl, hz⟩ := I.list hq
   have hlen := r'.length
   refine call_tuple_list pl.isList (fun h' kp => ?_) (by simp only [size_toArray] <;> omega)
   have I1 : Inv X pins σ H { s with heap := h' } := I.kept (t' := s.toks) kp
   have I2 : Inv X pins σ (upd H h'.objs.size (.tup ys)) { s with heap := h'.push { cls := .type "tuple", data := .seq its.toArray } } :=
    I1.laid (t' := s.toks) (fun b o e => get?_push_of_some _ e) (Nat.le_refl _) (show ObjOk X.prog X.w _ _ _ (.tup ys) from ⟨hz, its, r', IsTup.new _ _⟩)
   exact ⟨.ref h'.objs.size, _, I2, rfl, q _ (I1.hok.fresh (Nat.le_refl _))⟩
 . obtain ⟨its, r', pl, hz⟩ := I.tuple hq
   exact call_tuple_same pl ⟨.ref p, H, I, rfl, q⟩
def tyV (K : Frag) (T : String) (x : V) (H : Hp) : Prop := match x with
 | .str _ => T = "str"
 | .int _ => T = "int"
 | .ref p => (T = "list" /\ ∃ xs, SqL K H p xs) \/ (T = "tuple" /\ ∃ o, K.lookup p = some o /\ o.cls = .type "tuple" /\ o.dict = none) \/
  (T = "dict" /\ ((∃ kvs, H p = some (.dK kvs)) \/ ∃ kvs, H p = some (.dT kvs))) \/ (T = "set" /\ ∃ S n, H p = some (.set S n))
 | _ => False
theorem tyV_is {pins : List (Addr × Obj)} {σ : St} {H : Hp} {s : Shared} {T : String} {x : V} {v : Value} (I : Inv X pins σ H s) (r : RelV x v) (ty : tyV X.K T x H) :
 s.TypeIs v T /\ ∀ a, v = .ref a -> ∃ ob, s.heap.get? a = some ob /\ ob.dict = none := by
 cases x with
 | str z =>
  obtain ⟨t, rfl⟩ := r
  cases (show T = "str" from ty)
  exact ⟨typeIs_str s z t, fun _ e => nomatch e⟩
 | int i =>
  obtain ⟨t, rfl⟩ := r
  cases (show T = "int" from ty)
  exact ⟨typeIs_int s i t, fun _ e => nomatch e⟩
 | ref p =>
  cases r
  rcases ty with ⟨rfl, xs, hq⟩ | ⟨rfl, o, hk, hc, hd⟩ | ⟨rfl, hk⟩ | ⟨rfl, S, n, hk⟩
  . obtain ⟨its, _, pl, _⟩ := I.list hq
    refine ⟨pl.isList.typeIs, fun a e => ?_⟩
    cases e
    obtain ⟨o, n, e, c, hd, _⟩ := pl
    exact ⟨o, e, hd⟩
  . refine ⟨⟨o, I.kIn p o hk, hc⟩, fun a e => ?_⟩
    cases e
    exact ⟨o, I.kIn _ o hk, hd⟩
  . have z : ∃ o, s.heap.get? p = some o /\ o.ExactDict := by
     rcases hk with ⟨kvs, hk⟩ | ⟨kvs, hk⟩
     . obtain ⟨_, _, _, _, o, _, _, e, ex, _⟩ := I.hok p _ hk
       exact ⟨o, e, ex⟩
     . obtain ⟨_, _, _, _, o, _, _, e, ex, _⟩ := I.hok p _ hk
       exact ⟨o, e, ex⟩
    obtain ⟨o, e, ex⟩ := z
    refine ⟨⟨o, e, ex.1⟩, fun a e2 => ?_⟩
    cases e2
    exact ⟨o, e, ex.2.1⟩
  . obtain ⟨o, _, _, _, e, ex, _⟩ := I.hok p _ hk
    refine ⟨⟨o, e, ex.1⟩, fun a e2 => ?_⟩
    cases e2
    exact ⟨o, e, ex.2.1⟩
 | _ => exact False.elim ty
def tBM0 (K : Frag) (T : String) (r : V -> List V -> Hp -> VK -> Prop) (to : TE) : TE := fun σ H Q => to σ H fun x H1 => tyV K T x H1 /\ r x [] H1 Q
def tBM (K : Frag) (T : String) (r : V -> List V -> Hp -> VK -> Prop) (to : TE) (t : TA) : TE := fun σ H Q => to σ H fun x H1 => tyV K T x H1 /\ t σ H1 fun xs H2 => r x xs H2 Q
variable {o e : Expr} {es : List Expr} {to : TE} {t : TA} {name : Str} {apos cpos : Pos} {T id : String} {r : V -> List V -> Hp -> VK -> Prop}
theorem pe_bm0 (pa : PlainAttrs T) (slot : Slot T name id) (hty : typeOf (.builtin id) = pure (.type "method_descriptor")) (hm : MtR X id r) (ho : PE X o to)
 (hbase : attributeBase o name X.env (eval o X.env) = eval o X.env := by rfl) (hline : (apos.endLine == cpos.line) = true := by rfl) : PE X (.Call (.Attribute o name apos) [] [] cpos) (tBM0 X.K T r to) := by
 intro pins s σ H Q I h
 refine wpAny_Call_method0_late hbase hline (thn (ho pins s σ H _ I h) fun v s1 ⟨x, H1, I1, r1, ty, q1⟩ => ?_)
 obtain ⟨h1, h2⟩ := tyV_is I1 r1 ty
 exact ⟨T, id, pa, slot, hty, h1, h2, Calls.callWith_builtin rfl (PySem.evalArgs_none (hm pins s1 σ H1 x [] v [] Q I1 r1 .nil q1))⟩
theorem pe_bm (pa : PlainAttrs T) (slot : Slot T name id) (hty : typeOf (.builtin id) = pure (.type "method_descriptor")) (hm : MtR X id r) (ho : PE X o to) (ha : PA X (e :: es) t)
 (hbase : attributeBase o name X.env (eval o X.env) = eval o X.env := by rfl)
 (hfew : ((backTo cpos (starEach (e :: es) X.env)).all (fun x => !x.1) && (backToKw cpos (keywordEach [] X.env)).all (fun x => x.1.isSome)
  && decide ((e :: es).length + ([] : List Keyword).length + (if ([] : List Keyword).isEmpty then 0 else 1) < 30)) = true := by rfl)
 (hline : (apos.endLine == cpos.line) = true := by rfl) (hs : starEach (e :: es) X.env = (false, eval e X.env) :: starEach es X.env := by rfl) (hplain : (backTo cpos (starEach es X.env)).any (·.1) = false := by rfl) :
 PE X (.Call (.Attribute o name apos) (e :: es) [] cpos) (tBM X.K T r to t) := by
 intro pins s σ H Q I h
 refine wpAny_Call_method_late hbase hfew hline rfl (thn (ho pins s σ H _ I h) fun v s1 ⟨x, H1, I1, r1, ty, q1⟩ => ?_)
 obtain ⟨h1, h2⟩ := tyV_is I1 r1 ty
 refine ⟨T, id, pa, slot, hty, h1, h2, ?_⟩
 have hA := ha cpos pins s1 σ H1 _ I1 q1
 rw [hs] at hA ⊢
 refine Calls.callWith_builtin (by show (false || (backTo cpos (starEach es X.env)).any (·.1)) = false; rw [hplain] <;> rfl) (Calls.evalArgs_plain ?_)
 exact thn hA fun us s2 ⟨vs, H2, I2, r2, q2⟩ => hm pins s2 σ H2 x vs v us Q I2 r1 r2 q2
end
def MtM (X : Cx) (id : String) (r : V -> List V -> Hp -> VK -> Prop) : Prop :=
 ∀ (pins : List (Addr × Obj)) (s : Shared) (σ : St) (H : Hp) (x : V) (xs : List V) (v : Value) (us : List Value) (Q : VK), Inv X pins σ H s -> RelV x v -> Vals xs us -> r x xs H Q ->
  wpAny (model X.prog X.w) X.A (call (.builtin id) (v :: us)) (EP X pins σ Q) X.xe s
theorem Vals.one : ∀ {x : V} {us : List Value}, Vals [x] us -> ∃ u, us = [u] /\ RelV x u
 | _, _, .cons r .nil => ⟨_, rfl, r⟩
theorem Vals.zero : ∀ {us : List Value}, Vals [] us -> us = []
 | _, .nil => rfl
section
variable {X : Cx} {pins : List (Addr × Obj)} {σ : St} {H : Hp} {s : Shared} {l b : Addr} {xs ys zs : List V}
theorem Inv.lset {its its' : List Value} {n : Nat} {f : Array Value -> Array Value} {t' : Nat} (I : Inv X pins σ H s) (hH : H l = some (.lst xs))
 (e : s.heap.get? l = some { cls := .type "list", data := .seq its.toArray n }) (hf : f its.toArray = its'.toArray) (hv : Vals ys its') (hz : ys.length <= sizeLine) :
 Inv X pins σ (upd H l (.lst ys)) { s with heap := s.heap.update l (Obj.mapSeq f), toks := t' } := by
 have q := PySem.IsL.update e f
 rw [hf] at q
 refine I.write (x := l) (e := l) (by rw [hH]; exact trivial) (.inl rfl) (fun b' u hb hu => (Heap.get?_update_other s.heap (Obj.mapSeq f) (Ne.symm hb)).trans hu) ⟨_, q⟩ ?_
 exact ⟨hz, its', _, hv, q⟩
theorem Inv.lnew {its : List Value} {t' : Nat} (I : Inv X pins σ H s) (hv : Vals ys its) (hz : ys.length <= sizeLine) :
 Inv X pins σ (upd H s.heap.objs.size (.lst ys)) { s with heap := s.heap.push { cls := .type "list", data := .seq its.toArray }, toks := t' } :=
 I.laid (fun _ _ q => get?_push_of_some _ q) (Nat.le_refl _) ⟨hz, its, 0, hv, get?_push_size _ rfl⟩
theorem Inv.fresh (I : Inv X pins σ H s) : H s.heap.objs.size = none := I.hok.fresh (Nat.le_refl _)
theorem Inv.lstM (I : Inv X pins σ H s) (hH : H l = some (.lst xs)) : xs.length <= sizeLine /\ ∃ (its : List Value) (n : Nat), Vals xs its /\ xs.length = its.length /\ s.heap.get? l = some { cls := .type "list", data := .seq its.toArray n } := by
 obtain ⟨z, its, n, r, e⟩ := I.hok l _ hH
 exact ⟨z, its, n, r, r.length, e⟩
theorem notLongL {n : Nat} (h : n <= sizeLine) : Builtin.List.listTooLong n = false := by
 unfold Builtin.List.listTooLong
 exact decide_eq_false (by omega)
end
section
variable {X : Cx}
def rAppend : V -> List V -> Hp -> VK -> Prop := fun x vs H Q => ∃ l xs y, x = .ref l /\ vs = [y] /\ H l = some (.lst xs) /\ xs.length < sizeLine /\ Q .non (upd H l (.lst (xs ++ [y])))
theorem mt_append : MtM X "list.append" rAppend := by
 intro pins s σ H x vs v us Q I rx rv h
 obtain ⟨l, xs, y, rfl, rfl, hH, hz, q⟩ := h
 cases rx
 obtain ⟨u, rfl, ru⟩ := rv.one
 obtain ⟨z, its, n, r, hl, e⟩ := I.lstM hH
 refine call_meets F.slot_list_append ⟨_, e, rfl⟩ F.entry_list_append (F.args_list_append_2 _ _) (PySem.list_append l its.toArray n u (by rw [size_toArray]; omega)) ⟨e, ?_⟩
 refine ⟨.non, _, I.lset (its' := its ++ [u]) hH e (by simp) (r.append (.cons ru .nil)) ?_, rfl, q⟩
 rw [List.length_append, List.length_singleton]
 omega
def rExtend : V -> List V -> Hp -> VK -> Prop := fun x vs H Q => ∃ l b xs zs, x = .ref l /\ vs = [.ref b] /\ H l = some (.lst xs) /\ H b = some (.lst zs) /\ xs.length + zs.length <= sizeLine /\ Q .non (upd H l (.lst (xs ++ zs)))
theorem mt_extend : MtM X "list.extend" rExtend := by
 intro pins s σ H x vs v us Q I rx rv h
 obtain ⟨l, b, xs, zs, rfl, rfl, hH, hB, hz, q⟩ := h
 cases rx
 obtain ⟨u, rfl, ru⟩ := rv.one
 cases ru
 obtain ⟨z, its, n, r, hl, e⟩ := I.lstM hH
 obtain ⟨z2, its2, n2, r2, hl2, e2⟩ := I.lstM hB
 have hsz : its.toArray.size + its2.toArray.size <= sizeLine := by rw [size_toArray, size_toArray]; omega
 have hlong : ¬ (!its.toArray.isEmpty && Builtin.List.listTooLong (its.toArray.size + its2.toArray.size)) = true := by
  rw [notLongL hsz, Bool.and_false]
  exact Bool.false_ne_true
 refine call_meets F.slot_list_extend ⟨_, e, rfl⟩ F.entry_list_extend (F.args_list_extend_2 _ _)
  (AutoSeq1.list_extend_list_list_0 l its.toArray n b its2.toArray n2 hlong (by rw [size_toArray]; omega) (by omega)) ⟨e, e2, ?_⟩
 refine ⟨.non, _, I.lset (its' := its ++ its2) hH e (by simp) (r.append r2) ?_, rfl, q⟩
 rw [List.length_append]
 omega
end
end L2
namespace Att
open PySem PySem.W PySem.Calls PyProof.Rows
theorem ints_of_wellAll {P : Params} {h : Heap} : ∀ (ns : List Int) (vs : List Value), WellAll P h vs (ns.map WData.int) -> IntsAre vs ns := by
 intro ns
 induction ns with
 | nil =>
  intro vs w
  rw [map_nil] at w
  cases w
  exact .nil
 | cons n ns ih =>
  intro vs w
  rw [map_cons] at w
  cases w with
  | cons a b =>
   cases a
   exact .cons _ _ (ih _ b)
theorem script_of {l : OpenLaw} {n : Nat} (hn : l.most = some n) {P : Params} {h : Heap} {args : List WData} {vals : List Value}
 (hpre : l.row.toRowW.claim.pre args = true) (hwl : WellAll P h vals args) :
 ∃ a vs ns, vals = [Value.ref a] /\ args = [WData.list (ns.map WData.int)] /\ h.get? a = some { cls := .type "list", data := .seq vs.toArray } /\ IntsAre vs ns /\ ns.length <= n := by
 have hsh : WShape.hasAll [] args [.list .int] = true := (pre_splitW hpre).1
 have hc : l.pre.holds [] { args := args } = true := (pre_splitW hpre).2
 obtain ⟨d, r, rfl, h1, h2⟩ := hasAllW_cons hsh
 obtain rfl := hasAllW_nil h2
 obtain ⟨xs, rfl, h3⟩ := hasW_list h1
 obtain ⟨ns, rfl⟩ := items_int h3
 have hlen : ns.length <= n := by
  unfold OpenLaw.pre at hc
  have h4 : (WTm.not (.lt (.lit (.int (n : Int))) (.len (.arg 0)))).holds [] { args := [.list (ns.map .int)] } = true := by
   have h4 := (holds_andW hc).1
   rw [hn] at h4
   exact h4
  have h5 := condW_of h4 (w_not (w_lt w_lit (w_len_list (w_arg rfl))))
  rw [length_map] at h5
  refine Nat.le_of_not_lt fun q => ?_
  have q' : (n : Int) < ((ns.length : Nat) : Int) := by omega
  first
   | (rw [decide_eq_true q'] at h5; exact absurd h5 (by decide))
   | (simp at h5; omega)
 cases hwl with
 | cons w1 w2 =>
  cases w2
  cases w1 with
  | list ho hall => exact ⟨_, _, ns, rfl, rfl, ho, ints_of_wellAll ns _ hall, hlen⟩
theorem post_true (l : OpenLaw) (args : List WData) : l.row.toRowW.claim.post args (.bool true) args = true :=
 postW_of (r := l.row.toRowW) (X := (true == true))
  (show WShape.has [] (.bool true) .bool = true by first | rfl | decide | simp [WShape.has, WShape.arms, WShape.armsAll])
  (show (WTm.eq .res (.lit (.bool true))).value [] { args := args, res := some (.bool true), after := args } = some (.bool (true == true)) from w_eq_bool (w_res rfl) w_lit) rfl
theorem attach_call {l : OpenLaw} {n : Nat} {q : Program} {loose : List Str} {XP : (Str -> Option Value) -> Heap -> Prop} {YP : World -> Heap -> Prop} {d : DefRec}
 (hn : l.most = some n) (hdf : d.params.defaults = [])
 (call : ∀ (w : World) (s₀ s₁ : Shared) (mg mb : Str -> Option Value) (fa : Addr) (o : Obj) (pm cd doc : Value) (a : Addr) (vs : List Value) (ns : List Int),
  Ground q loose [] XP w s₀ mg mb s₁.heap -> YP w s₁.heap ->
  s₁.heap.get? fa = some o -> o.data = .func (docDef d.name d.params d.body d.scope pm cd doc) -> s₁.heap.CodeRec cd d.name -> mg d.name = some (.ref fa) ->
  s₁.heap.get? a = some { cls := .type "list", data := .seq vs.toArray } -> IntsAre vs ns -> ns.length <= n -> s₁.gens = #[] ->
  codeAny (model l.prog w) callerA (.call (.ref fa) ⟨[.ref a], []⟩) (fun r s' => r = .ok (.ret (.bool true)) /\ OldK s₁.heap s'.heap /\ s'.os = s₁.os /\ AllBare s'.gens) s₁) :
 WalkO q loose XP YP l.row.toRowW d [] (fun f vs => PySem.call f vs) := by
 intro w s₀ s₁ mg mb G Y fa o pm cd doc dV kV ho hd hcd hD hmg hg args vals as hpre hlay hrd hwl hlo
 obtain rfl : dV = .none := Dflts.none hD hdf
 obtain rfl : kV = .none := Dflts.noKw hD
 obtain ⟨a, vs, ns, rfl, rfl, hobj, hints, hlen⟩ := script_of hn hpre hwl
 refine enter_call (codeAny_mono (call w s₀ s₁ mg mb fa o pm cd doc a vs ns G Y ho (fd_plain hd) hcd hmg hobj hints hlen hg) fun r s' hq => ?_)
 obtain ⟨rfl, h2, h3, h4⟩ := hq
 exact ⟨.inl ⟨.bool true, .bool true, [], rfl, fun _ => rfl, .bool true, post_true l _, fun _ => ⟨List.Pairwise.nil, fun _ hm => (nomatch hm)⟩⟩, h2, h3, h4⟩
end Att
namespace L2
open PySem PySem.Spec PyProof.Rows
theorem vals_ints : ∀ {vs : List Value} {ns : List Int}, IntsAre vs ns -> Vals (ns.map V.int) vs
 | _, _, .nil => .nil
 | _, _, .cons n t h => .cons ⟨t, rfl⟩ (vals_ints h)
def defArgs (s : Stmt) : Arguments := match s with
 | .FunctionDef _ a _ _ _ _ _ _ _ _ => a
 | _ => { posonlyargs := [], args := [], vararg := none, kwonlyargs := [], kw_defaults := [], kwarg := none, defaults := [] }
def defBody (s : Stmt) : List Stmt := match s with
 | .FunctionDef _ _ b _ _ _ _ _ _ _ => b
 | _ => []
def defScope (s : Stmt) : Scope := match s with
 | .FunctionDef _ _ _ _ _ _ sc _ _ _ => sc
 | _ => { kind := .function, names := [], isGenerator := false, isCoroutine := false }
abbrev CX0 : CXT := fun _ _ _ _ _ _ => False
abbrev E0 : XK := fun _ _ _ => False
theorem pass0 {X : Cx} : Passes CX0 X E0 := fun _ _ _ _ _ _ _ h => h.elim
structure Fun (K : Frag) (x qual : Str) (st : Stmt) (f : Addr) (fd : FuncData) : Prop where
 ex : ∃ (oc : Value) (od : Option Addr) (kV doc pm : Value) (an : Option Addr) (cdv ct : Value) (osl : Array (Option Value)),
  fd = PySem.W.fnOf x qual (defArgs st) (defBody st) (defScope st) .none kV doc pm an cdv ct /\ K.lookup f = some ⟨oc, od, .func fd, osl⟩ /\ PySem.W.codeIn K cdv qual = true
 kp : keepIn K (.ref f) = true
section
variable {P : Program} {w : World} {K : Frag} {mg : Str -> Option Value} {base : Heap}
theorem Fun.ok {x qual : Str} {st : Stmt} {f : Addr} {fd : FuncData} {N ps : List Str} {k : Nat} {sp : Sp} (F : Fun K x qual st f fd) (S : FnScope N ps (defScope st)) (len : ∀ vs H Q E, sp vs H Q E -> vs.length = ps.length)
 (hbody : ∀ (cdv : Value) (A : Around) (outer : List Env) (s : Shared) (H : Hp) (vs : List V) (Q : VK) (E : XK), Room k (A.deeper (envOfC qual (defScope st) s.heap.objs.size f cdv)) -> sp vs H Q E ->
  ∃ t, PSs (cxOf CX0 P w K mg base N qual (defScope st) f cdv A outer s H E).nox (defBody st) t /\ t { nx := fun _ H' => Q .non H', rt := Q } (start N vs) H) : FnOk P w K mg base CX0 (k + 1) f fd ps sp := by
 obtain ⟨oc, od, kV, doc, pm, an, cdv, ct, osl, rfl, lk, hcd⟩ := F.ex
 refine fn_of lk hcd S len fun A outer s H vs Q E hr hsp => ?_
 obtain ⟨t, h, q⟩ := hbody cdv A outer s H vs Q E hr hsp
 exact ⟨t, h.nox, q⟩
theorem Fun.binds {x qual : Str} {st : Stmt} {f : Addr} {fd : FuncData} {ps : List Str} (F : Fun K x qual st f fd)
 (h : ∀ (kV doc pm : Value) (an : Option Addr) (cdv ct : Value) (us : List Value), us.length = ps.length -> bindArgs (PySem.W.fnOf x qual (defArgs st) (defBody st) (defScope st) .none kV doc pm an cdv ct) ⟨us, []⟩ = pure (ps.zip us)) : Binds K fd ps [] := by
 obtain ⟨oc, od, kV, doc, pm, an, cdv, ct, osl, rfl, lk, hcd⟩ := F.ex
 exact .all (h kV doc pm an cdv ct)
theorem fun_mk {x qual : Str} {st : Stmt} {f : Addr} {oc : Value} {od an : Option Addr} {osl : Array (Option Value)} {kV doc pm cdv ct : Value} (l : K.lookup f = some ⟨oc, od, .func (PySem.W.fnOf x qual (defArgs st) (defBody st) (defScope st) .none kV doc pm an cdv ct), osl⟩)
 (c : PySem.W.codeIn K cdv qual = true) (k : keepIn K (.ref f) = true) : Fun K x qual st f (PySem.W.fnOf x qual (defArgs st) (defBody st) (defScope st) .none kV doc pm an cdv ct) := ⟨⟨oc, od, kV, doc, pm, an, cdv, ct, osl, rfl, l, c⟩, k⟩
end
theorem small1000 {n : Nat} (h : n <= 1000) : n < sizeLine := Nat.lt_of_le_of_lt h (by decide)
theorem iteF {A B : Prop} (h : B) : if false = true then A else B := by
 rw [if_neg Bool.false_ne_true]
 exact h
theorem iteT {A B : Prop} (h : A) : if true = true then A else B := by
 rw [if_pos rfl]
 exact h
def Same (H H' : Hp) : Prop := ∀ b o, H b = some o -> H' b = some o
theorem Same.refl (H : Hp) : Same H H := fun _ _ h => h
theorem Same.trans {H H1 H2 : Hp} (a : Same H H1) (b : Same H1 H2) : Same H H2 := fun c o h => b c o (a c o h)
theorem Same.free {H H' : Hp} (e : Same H H') {l : Addr} (h : H' l = Option.none) : H l = Option.none := by
 cases q : H l with
 | none => rfl
 | some o =>
  rw [e l o q] at h
  cases h
theorem Same.seq {K : Frag} {H H' : Hp} {a : Addr} {xs : List V} (e : Same H H') (h : SqL K H a xs) : SqL K H' a xs := by
 rcases h with (h | ⟨o, h⟩) | h
 . exact .inl (.inl (e _ _ h))
 . exact .inl (.inr ⟨o, e _ _ h⟩)
 . exact .inr h
section
variable {κ : Type} [DecidableEq κ]
def valV (kvs : List (κ × V)) (k : κ) : Option V := (kvs.find? fun kv => decide (kv.1 = k)).map (·.2)
def putK (kvs : List (κ × V)) (k : κ) (v : V) : List (κ × V) :=
 if (kvs.any fun kv => decide (kv.1 = k)) = true then kvs.map (fun kv => if kv.1 = k then (kv.1, v) else kv) else kvs ++ [(k, v)]
theorem valV_pos {p : κ × V} {r : List (κ × V)} {k : κ} (e : p.1 = k) : valV (p :: r) k = some p.2 := by simp [valV, find?_cons, e]
theorem valV_neg {p : κ × V} {r : List (κ × V)} {k : κ} (e : ¬ p.1 = k) : valV (p :: r) k = valV r k := by simp [valV, find?_cons, e]
theorem valV_any (k : κ) : ∀ kvs : List (κ × V), (kvs.any fun kv => decide (kv.1 = k)) = (valV kvs k).isSome
 | [] => rfl
 | p :: r => by
  rw [List.any_cons]
  by_cases e : p.1 = k
  . simp only [valV_pos e, decide_eq_true e, Bool.true_or, Option.isSome_some]
  . rw [valV_neg e, decide_eq_false e, Bool.false_or]; exact valV_any k r
theorem valV_map (k j : κ) (y : V) : ∀ kvs : List (κ × V), valV (kvs.map fun kv => if kv.1 = k then (kv.1, y) else kv) j = (valV kvs j).map fun x => if j = k then y else x
 | [] => rfl
 | p :: r => by
  have ih := valV_map k j y r
  rw [map_cons]
  by_cases h : p.1 = k
  . rw [if_pos h]
    by_cases e : p.1 = j
    . rw [valV_pos (p := (p.1, y)) e, valV_pos e, Option.map_some, if_pos (e.symm.trans h)]
    . rw [valV_neg (p := (p.1, y)) e, valV_neg e, ih]
  . rw [if_neg h]
    by_cases e : p.1 = j
    . rw [valV_pos (p := p) e, valV_pos e, Option.map_some, if_neg (fun z => h (e.trans z))]
    . rw [valV_neg (p := p) e, valV_neg e, ih]
theorem valV_snoc (k j : κ) (y : V) : ∀ kvs : List (κ × V), valV kvs k = none -> valV (kvs ++ [(k, y)]) j = if j = k then some y else valV kvs j
 | [], _ => by
  by_cases e : k = j
  . rw [if_pos e.symm]; exact valV_pos (p := (k, y)) e
  . rw [if_neg (fun z => e z.symm)]; exact valV_neg (p := (k, y)) e
 | p :: r, hn => by
  rw [cons_append]
  have hk : ¬ p.1 = k := fun z => by rw [valV_pos z] at hn; cases hn
  rw [valV_neg hk] at hn
  have ih := valV_snoc k j y r hn
  by_cases e : p.1 = j
  . rw [valV_pos e, valV_pos e, if_neg (fun z => hk (e.trans z))]
  . rw [valV_neg e, valV_neg e, ih]
theorem valV_put (kvs : List (κ × V)) (k j : κ) (y : V) : valV (putK kvs k y) j = if j = k then some y else valV kvs j := by
 unfold putK
 by_cases a : (kvs.any fun kv => decide (kv.1 = k)) = true
 . rw [if_pos a, valV_map]
   rw [valV_any] at a
   by_cases e : j = k
   . obtain ⟨x, hx⟩ := Option.isSome_iff_exists.mp a
     rw [if_pos e, e, hx, Option.map_some, if_pos rfl]
   . rw [if_neg e]
     cases valV kvs j with
     | none => rfl
     | some x => rw [Option.map_some, if_neg e]
 . rw [if_neg a]
   refine valV_snoc k j y kvs ?_
   rw [valV_any] at a
   cases q : valV kvs k with
   | none => rfl
   | some x => rw [q] at a; exact (a rfl).elim
theorem length_putK (kvs : List (κ × V)) (k : κ) (v : V) : (putK kvs k v).length <= kvs.length + 1 := by
 unfold putK
 split
 . rw [length_map]; omega
 . rw [List.length_append, length_cons, List.length_nil]; omega
theorem RelO.isSome_eq {o : Option V} {u : Option Value} (r : RelO o u) : o.isSome = u.isSome := by
 cases o with
 | none => cases u with
  | none => rfl
  | some _ => exact (show False from r).elim
 | some _ => cases u with
  | none => exact (show False from r).elim
  | some _ => rfl
theorem KV.val {kvs : List (κ × V)} {vs : List (κ × Value)} (r : KV kvs vs) (k : κ) : RelO (valV kvs k) (valueAt vs k) := by
 unfold KV at r
 induction r with
 | nil => exact True.intro
 | @cons p q ps qs h t ih =>
  obtain ⟨h1, h2⟩ := h
  by_cases e : p.1 = k
  . have e' : q.1 = k := h1.symm.trans e
    have b : valueAt (q :: qs) k = some q.2 := by simp [valueAt, find?_cons, e']
    rw [valV_pos e, b]; exact h2
  . have e' : ¬ q.1 = k := fun z => e (h1.trans z)
    have b : valueAt (q :: qs) k = valueAt qs k := by simp [valueAt, find?_cons, e']
    rw [valV_neg e, b]; exact ih
theorem KV.any {kvs : List (κ × V)} {vs : List (κ × Value)} (r : KV kvs vs) (k : κ) : (kvs.any fun kv => decide (kv.1 = k)) = vs.any fun kv => decide (kv.1 = k) := by
 unfold KV at r
 induction r with
 | nil => rfl
 | cons h t ih => rw [List.any_cons, List.any_cons, ih, h.1]
theorem KV.repl {kvs : List (κ × V)} {vs : List (κ × Value)} (r : KV kvs vs) (k : κ) {y : V} {u : Value} (ry : RelV y u) :
 KV (kvs.map fun kv => if kv.1 = k then (kv.1, y) else kv) (vs.map fun kv => if kv.1 = k then (kv.1, u) else kv) := by
 unfold KV at r ⊢
 induction r with
 | nil => exact .nil
 | @cons p q ps qs h t ih =>
  rw [map_cons, map_cons]
  refine .cons ?_ ih
  obtain ⟨h1, h2⟩ := h
  by_cases e : p.1 = k
  . rw [if_pos e, if_pos (h1.symm.trans e)]; exact ⟨h1, ry⟩
  . rw [if_neg e, if_neg (fun z => e (h1.trans z))]; exact ⟨h1, h2⟩
theorem KV.put {kvs : List (κ × V)} {vs : List (κ × Value)} (r : KV kvs vs) (k : κ) {y : V} {u : Value} (ry : RelV y u) : KV (putK kvs k y) (stored vs k u) := by
 unfold putK stored
 rw [r.any k]
 by_cases e : (vs.any fun kv => decide (kv.1 = k)) = true
 . rw [if_pos e, if_pos e]; exact r.repl k ry
 . rw [if_neg e, if_neg e]; exact Paired.snoc r ⟨rfl, ry⟩
theorem KV.length {kvs : List (κ × V)} {vs : List (κ × Value)} (r : KV kvs vs) : kvs.length = vs.length := Paired.length r
end
theorem kV_is {P : Program} {w : World} {k : Key} {u : Value} (r : RelV (kV k) u) : (mixKind P w).is k u = true := by
 cases k with
 | inl i => obtain ⟨t, e⟩ := (show ∃ t, u = Value.int i t from r); subst e; exact mixKind_int P w i t
 | inr x => obtain ⟨t, e⟩ := (show ∃ t, u = Value.str x t from r); subst e; exact mixKind_str P w x t
theorem kV_inj {a b : Key} (e : kV a = kV b) : a = b := by
 cases a with
 | inl i => cases b with
  | inl j => have e' : V.int i = V.int j := e; injection e' with e'; rw [e']
  | inr y => exact nomatch (show V.int i = V.str y from e)
 | inr x => cases b with
  | inl j => exact nomatch (show V.str x = V.int j from e)
  | inr y => have e' : V.str x = V.str y := e; injection e' with e'; rw [e']
theorem kVs_inj : ∀ {a b : List Key}, a.map kV = b.map kV -> a = b
 | [], [], _ => rfl
 | [], _ :: _, e => by simp at e
 | _ :: _, [], e => by simp at e
 | x :: xs, y :: ys, e => by
  rw [map_cons, map_cons] at e
  injection e with e1 e2
  rw [kV_inj e1, kVs_inj e2]
theorem items_are {P : Program} {w : World} : ∀ {ks : List Key} {us : List Value}, Vals (ks.map kV) us -> ItemsAre (mixKind P w) ks us
 | [], _, r => by rw [map_nil] at r; cases r; exact .nil
 | k :: ks, _, r => by
  rw [map_cons] at r
  cases r with
  | cons h t => exact .cons (kV_is h) (items_are t)
abbrev KT (H : Hp) : List (List Key × V) -> List (List Key × Addr × Value) -> Prop := Paired fun p q => p.1 = q.1 /\ H q.2.1 = some (.tup (p.1.map kV)) /\ RelV p.2 q.2.2
theorem KT.val {H : Hp} {kvs : List (List Key × V)} {xs : List (List Key × Addr × Value)} (r : KT H kvs xs) (k : List Key) : RelO (valV kvs k) ((atKey xs k).map (·.2)) := by
 induction r with
 | nil => exact True.intro
 | @cons p q ps qs h t ih =>
  obtain ⟨h1, _, h2⟩ := h
  by_cases e : p.1 = k
  . have e' : q.1 = k := h1.symm.trans e
    have b : atKey (q :: qs) k = some q.2 := by simp [atKey, find?_cons, e']
    rw [valV_pos e, b]; exact h2
  . have e' : ¬ q.1 = k := fun z => e (h1.trans z)
    have b : atKey (q :: qs) k = atKey qs k := by simp [atKey, find?_cons, e']
    rw [valV_neg e, b]; exact ih
theorem KT.repl {H : Hp} {kvs : List (List Key × V)} {xs : List (List Key × Addr × Value)} (r : KT H kvs xs) (k : List Key) {y : V} {u : Value} (ry : RelV y u) :
 KT H (kvs.map fun kv => if kv.1 = k then (kv.1, y) else kv) (xs.map (putAt k u)) := by
 induction r with
 | nil => exact .nil
 | @cons p q ps qs h t ih =>
  rw [map_cons, map_cons]
  refine .cons ?_ ih
  obtain ⟨h1, h2, h3⟩ := h
  unfold putAt
  by_cases e : p.1 = k
  . rw [if_pos e, if_pos (h1.symm.trans e)]; exact ⟨h1, h2, ry⟩
  . rw [if_neg e, if_neg (fun z => e (h1.trans z))]; exact ⟨h1, h2, h3⟩
theorem KT.put {H : Hp} {kvs : List (List Key × V)} {xs : List (List Key × Addr × Value)} (r : KT H kvs xs) (k : List Key) {b : Addr} {y : V} {u : Value} (hb : H b = some (.tup (k.map kV))) (ry : RelV y u) :
 KT H (putK kvs k y) (storedH xs k b u) := by
 have e : (kvs.any fun kv => decide (kv.1 = k)) = (atKey xs k).isSome := by
  rw [valV_any, (r.val k).isSome_eq, Option.isSome_map]
 unfold putK storedH
 rw [e]
 by_cases q : (atKey xs k).isSome = true
 . rw [if_pos q, if_pos q]; exact r.repl k ry
 . rw [if_neg q, if_neg q]; exact Paired.snoc r ⟨rfl, hb, ry⟩
theorem KT.keeps {H H' : Hp} {kvs : List (List Key × V)} {xs : List (List Key × Addr × Value)} (r : KT H kvs xs) (ht : ∀ b ys, H b = some (.tup ys) -> H' b = some (.tup ys)) : KT H' kvs xs :=
 Paired.mapP r fun _ _ z => ⟨z.1, ht _ _ z.2.1, z.2.2⟩
section
variable {P : Program} {w : World} {H : Hp} {h : Heap} {a : Addr}
theorem rd_of {u : HO} (ok : HOk P w H h) (e : Rd H a u) : ObjOk P w H h a u := e.ok ok
theorem dk_rd {kvs : List (Key × V)} (ok : HOk P w H h) (e : Rd H a (.dK kvs)) : kvs.length <= sizeLine /\ (a == sysModules) = false /\ ∃ vs, KV kvs vs /\ h.DictOf (mixKind P w) a vs :=
 show ObjOk P w H h a (.dK kvs) from rd_of ok e
theorem dk_of {kvs : List (Key × V)} (ok : HOk P w H h) (e : H a = some (.dK kvs)) : kvs.length <= sizeLine /\ (a == sysModules) = false /\ ∃ vs, KV kvs vs /\ h.DictOf (mixKind P w) a vs := dk_rd ok (.inl e)
theorem key_of {ks : List Key} (ok : HOk P w H h) (e : H a = some (.tup (ks.map kV))) : (tupleKind (mixKind P w)).is h ks a := by
 obtain ⟨_, its, r, o, h1, h2, n, h3⟩ := (show ObjOk P w H h a (.tup (ks.map kV)) from ok a _ e)
 exact ⟨o, its.toArray, n, h1, h2, h3, by simpa using items_are r⟩
theorem dt_rd {kvs : List (List Key × V)} (ok : HOk P w H h) (e : Rd H a (.dT kvs)) : kvs.length <= sizeLine /\ (a == sysModules) = false /\
 ∃ xs, KT H kvs xs /\ h.DictOfH (tupleKind (mixKind P w)) a xs := by
 obtain ⟨z, y, xs, r, o, es, ep, h1, h2, h3, h4, h5⟩ := (show ObjOk P w H h a (.dT kvs) from rd_of ok e)
 refine ⟨z, y, xs, r, o, es, ep, h1, h2, h3, h4, fun x hx => ?_, h5⟩
 have all : ∀ {l : List (List Key × V)} {m : List (List Key × Addr × Value)}, KT H l m -> ∀ x ∈ m, (tupleKind (mixKind P w)).is h x.1 x.2.1 := by
  intro l m q
  induction q with
  | nil => intro x hx; exact nomatch hx
  | @cons p q ps qs hq t ih =>
   intro x hx
   rcases mem_cons.mp hx with e | hx
   . subst e
     exact key_of ok (by rw [<- hq.1]; exact hq.2.1)
   . exact ih x hx
 exact all r x hx
theorem dt_of {kvs : List (List Key × V)} (ok : HOk P w H h) (e : H a = some (.dT kvs)) : kvs.length <= sizeLine /\ (a == sysModules) = false /\
 ∃ xs, KT H kvs xs /\ h.DictOfH (tupleKind (mixKind P w)) a xs := dt_rd ok (.inl e)
end
def DGet (H : Hp) (a : Addr) (y : V) (r : Option V) : Prop :=
 (∃ kvs k, Rd H a (.dK kvs) /\ y = kV k /\ r = valV kvs k) \/ ∃ kvs k b, Rd H a (.dT kvs) /\ y = .ref b /\ H b = some (.tup (k.map kV)) /\ r = valV kvs k
def DPut (H : Hp) (a : Addr) (y v : V) (H' : Hp) : Prop :=
 (∃ kvs k, H a = some (.dK kvs) /\ y = kV k /\ kvs.length < sizeLine /\ H' = upd H a (.dK (putK kvs k v))) \/
 ∃ kvs k b, H a = some (.dT kvs) /\ y = .ref b /\ H b = some (.tup (k.map kV)) /\ kvs.length < sizeLine /\ H' = upd H a (.dT (putK kvs k v))
theorem DGet.k {H : Hp} {a : Addr} {kvs : List (Key × V)} {k : Key} (e : H a = some (.dK kvs)) : DGet H a (kV k) (valV kvs k) := .inl ⟨kvs, k, .inl e, rfl, rfl⟩
theorem DGet.t {H : Hp} {a b : Addr} {kvs : List (List Key × V)} {k : List Key} (e : H a = some (.dT kvs)) (eb : H b = some (.tup (k.map kV))) : DGet H a (.ref b) (valV kvs k) := .inr ⟨kvs, k, b, .inl e, rfl, eb, rfl⟩
theorem DPut.k {H : Hp} {a : Addr} {kvs : List (Key × V)} {k : Key} {v : V} (e : H a = some (.dK kvs)) (hl : kvs.length < sizeLine) : DPut H a (kV k) v (upd H a (.dK (putK kvs k v))) := .inl ⟨kvs, k, e, rfl, hl, rfl⟩
theorem DPut.t {H : Hp} {a b : Addr} {kvs : List (List Key × V)} {k : List Key} {v : V} (e : H a = some (.dT kvs)) (eb : H b = some (.tup (k.map kV))) (hl : kvs.length < sizeLine) :
 DPut H a (.ref b) v (upd H a (.dT (putK kvs k v))) := .inr ⟨kvs, k, b, e, rfl, eb, hl, rfl⟩
section
variable {X : Cx} {pins : List (Addr × Obj)} {σ : St} {H : Hp} {s : Shared} {a : Addr} {y v : V} {u r : Value} {o : Option V} {A : Around} {E : Value -> Shared -> Prop}
theorem Inv.big (I : Inv X pins σ H s) : sysModules < s.heap.objs.size := by
 have h : mainGlobals < s.heap.objs.size := (I.mod.glob.keeps I.bk).lt
 exact Nat.lt_trans (by decide) h
theorem d_in {Q : Value -> Shared -> Prop} (hu : A.units + 1 < cLine) (I : Inv X pins σ H s) (g : DGet H a y o) (ry : RelV y u) (h : ∀ s', Inv X pins σ H s' -> Q (.bool o.isSome) s') :
 wpAny (model X.prog X.w) A (compareOp .In u (.ref a)) Q E s := by
 rcases g with ⟨kvs, k, e, ey, l⟩ | ⟨kvs, k, b, e, ey, eb, l⟩
 . subst ey
   obtain ⟨z, hd, vs, rel, dd⟩ := dk_rd I.hok e
   refine wpAny_in_of (kV_is ry) hd dd.mapOf ?_
   rw [<- (rel.val k).isSome_eq, <- l]
   exact h _ (I.tok _)
 . subst ey
   cases (show u = Value.ref b from ry)
   obtain ⟨z, hd, xs, rel, dd⟩ := dt_rd I.hok e
   refine wpAny_in_heap (tupleKind_room_in1 hu) (key_of I.hok eb) hd dd ?_
   have q := (rel.val k).isSome_eq
   rw [Option.isSome_map] at q
   rw [<- q, <- l]
   exact h _ (I.tok _)
theorem d_notIn {Q : Value -> Shared -> Prop} (hu : A.units + 1 < cLine) (I : Inv X pins σ H s) (g : DGet H a y o) (ry : RelV y u) (h : ∀ s', Inv X pins σ H s' -> Q (.bool (!o.isSome)) s') :
 wpAny (model X.prog X.w) A (compareOp .NotIn u (.ref a)) Q E s := by
 rcases g with ⟨kvs, k, e, ey, l⟩ | ⟨kvs, k, b, e, ey, eb, l⟩
 . subst ey
   obtain ⟨z, hd, vs, rel, dd⟩ := dk_rd I.hok e
   refine wpAny_notIn_of (kV_is ry) hd dd.mapOf ?_
   rw [<- (rel.val k).isSome_eq, <- l]
   exact h _ (I.tok _)
 . subst ey
   cases (show u = Value.ref b from ry)
   obtain ⟨z, hd, xs, rel, dd⟩ := dt_rd I.hok e
   refine wpAny_notIn_heap (tupleKind_room_in1 hu) (key_of I.hok eb) hd dd ?_
   have q := (rel.val k).isSome_eq
   rw [Option.isSome_map] at q
   rw [<- q, <- l]
   exact h _ (I.tok _)
theorem d_write {h' : Heap} {t' : Nat} {ob : HO} (I : Inv X pins σ H s) (mu : Mut (H a)) (hs : Heap.SameBut a s.heap h') (he : ∃ q, h'.get? a = some q) (new : ObjOk X.prog X.w (upd H a ob) h' a ob) :
 Inv X pins σ (upd H a ob) { s with heap := h', toks := t' } :=
 I.write (x := a) (e := a) mu (.inl rfl) (fun b q hb z => (hs.2 b hb).trans z) he new
theorem dk_new {P : Program} {w : World} {H' : Hp} {h' : Heap} {kvs : List (Key × V)} {vs : List (Key × Value)} (z : kvs.length <= sizeLine) (hd : (a == sysModules) = false) (rel : KV kvs vs) (dd : h'.DictOf (mixKind P w) a vs) :
 ObjOk P w H' h' a (.dK kvs) := ⟨z, hd, vs, rel, dd⟩
theorem d_setItem {H' : Hp} {Q : Unit -> Shared -> Prop} (hu : A.units + 1 < cLine) (I : Inv X pins σ H s) (g : DPut H a y v H') (ry : RelV y u) (rv : RelV v r) (h : ∀ s', Inv X pins σ H' s' -> Q () s') :
 wpAny (model X.prog X.w) A (setItem (.ref a) u r) Q E s := by
 rcases g with ⟨kvs, k, e, ey, l, eH⟩ | ⟨kvs, k, b, e, ey, eb, l, eH⟩
 . subst ey eH
   obtain ⟨z, hd, vs, rel, dd⟩ := dk_of I.hok e
   have hz : vs.length <= sizeLine := by rw [<- rel.length]; exact z
   have hl : (putK kvs k v).length <= sizeLine := by have := length_putK kvs k v; omega
   refine wpAny_setItem_pairs (hsz := hz) (kV_is ry) dd fun h' dd' hs => h _ ?_
   have he : ∃ q, h'.get? a = some q := let ⟨q, _, _, hq, _⟩ := dd'; ⟨q, hq⟩
   exact d_write I (by rw [e]; exact True.intro) hs he (dk_new hl hd (rel.put k rv) dd')
 . subst ey eH
   cases (show u = Value.ref b from ry)
   obtain ⟨z, hd, xs, rel, dd⟩ := dt_of I.hok e
   have hz : xs.length <= sizeLine := by rw [<- Paired.length rel]; exact z
   have hl : (putK kvs k v).length <= sizeLine := by have := length_putK kvs k v; omega
   refine wpAny_setItem_heap (hsz := hz) (tupleKind_room_in1 hu) (key_of I.hok eb) dd fun h' dd' hs => h _ ?_
   obtain ⟨q, es, ep, hq, h2, h3, h4, _, h5⟩ := dd'
   refine d_write I (by rw [e]; exact True.intro) hs ⟨q, hq⟩ ⟨hl, hd, _, (rel.put k eb rv).keeps fun c ys ec => ?_, q, es, ep, hq, h2, h3, h4, h5⟩
   rw [upd_ne (ne_of ec e (fun z => nomatch z))]
   exact ec
end
def NoSl (i : Expr) : Prop := ∀ ov iv, subscripted i false ov iv = operate [ov, iv] (getItem ov iv)
theorem subD_of {prog : Program} {w : World} {A : Around} {E : Value -> Shared -> Prop} {s : Shared} {env : Env} {value slice : Expr} {pos : Pos} {T id : String} {Q : Value -> Shared -> Prop}
 (hl : typeLookup (.type T) "__getitem__" = pure (some (.builtin id))) (hs : NoSl slice)
 (h : wpAny (model prog w) A (eval value env) (fun o s₁ => wpAny (model prog w) A (eval slice env) (fun i s₂ => s₂.TypeIs o T /\ wpAny (model prog w) A (getItem o i) Q E s₂) E s₁) E s) :
 wpAny (model prog w) A (eval (.Subscript value slice pos) env) Q E s := by
 refine Subscript_ (wpAny_mono h (fun o s₁ h₁ => wpAny_mono h₁ (fun i s₂ h₂ => ?_) fun _ _ x => x) fun _ _ x => x)
 obtain ⟨hT, h₂⟩ := h₂
 unfold subscriptTail
 refine wpAny_bind ?_
 rw [getitemInPython_of_ne hT.not_modules]
 refine wpAny_bind (wpAny_specialOf hT hl ?_)
 have fin : wpAny (model prog w) A (subscripted slice false o i) (fun r s₃ => wpAny (model prog w) A (letTemporaryGo value o r >>= fun _ => pure r) Q E s₃) E s₂ := by
  rw [hs o i]
  exact wpAny_operating (wpAny_mono h₂ (fun r s₃ h₃ => wpAny_bind (wpAny_letTemporaryGo (wpAny_pure h₃))) fun _ _ x => x)
 first
  | exact wpAny_pure (wpAny_bind fin)
  | exact wpAny_bind (wpAny_pure (wpAny_bind fin))
  | exact wpAny_bind fin
def tDIn (ty td : TE) : TE := fun σ H Q => ty σ H fun y H1 => td σ H1 fun x H2 => ∃ a o, x = .ref a /\ DGet H2 a y o /\ Q (.bl o.isSome) H2
def tDNotIn (ty td : TE) : TE := fun σ H Q => ty σ H fun y H1 => td σ H1 fun x H2 => ∃ a o, x = .ref a /\ DGet H2 a y o /\ Q (.bl (!o.isSome)) H2
def sDPut (td ty tv : TE) : TS := fun D σ H => tv σ H fun v H1 => td σ H1 fun x H2 => ty σ H2 fun y H3 => ∃ a H4, x = .ref a /\ DPut H3 a y v H4 /\ D.nx σ H4
section
variable {X : Cx} {o i e value : Expr} {pos pos' tpos : Pos} {td ty tv : TE}
theorem pc_din (hu : X.A.units + 1 < cLine) (hi : PE X i ty) (ho : PE X o td) : PC X .In i o (tDIn ty td) := by
 intro pins s σ H Q I h
 refine thn (hi pins s σ H _ I h) fun iv s1 ⟨y, H1, I1, ry, q1⟩ => thn (ho pins s1 σ H1 _ I1 q1) fun u s2 ⟨x, H2, I2, rx, a, ov, ex, g, q2⟩ => ?_
 subst ex
 obtain rfl : u = Value.ref a := rx
 exact d_in hu I2 g ry fun s3 I3 => ⟨.bl ov.isSome, H2, I3, rfl, q2⟩
theorem pc_dnotin (hu : X.A.units + 1 < cLine) (hi : PE X i ty) (ho : PE X o td) : PC X .NotIn i o (tDNotIn ty td) := by
 intro pins s σ H Q I h
 refine thn (hi pins s σ H _ I h) fun iv s1 ⟨y, H1, I1, ry, q1⟩ => thn (ho pins s1 σ H1 _ I1 q1) fun u s2 ⟨x, H2, I2, rx, a, ov, ex, g, q2⟩ => ?_
 subst ex
 obtain rfl : u = Value.ref a := rx
 exact d_notIn hu I2 g ry fun s3 I3 => ⟨.bl (!ov.isSome), H2, I3, rfl, q2⟩
theorem ps_dput (hu : X.A.units + 1 < cLine) (ho : PE X o td) (hi : PE X i ty) (hv : PE X value tv) (hs : swapsWith value (some (.Subscript o i pos')) pos.line X.env = pure false) :
 PS X (.Assign [.Subscript o i pos'] value pos) (sDPut td ty tv) := by
 intro pins s σ H D I h
 refine wpAny_Assign_Subscript (thn (hv pins s σ H _ I h) fun r s1 ⟨v, H1, I1, rv, q1⟩ => thn (ho pins s1 σ H1 _ I1 q1) fun u s2 ⟨x, H2, I2, rx, q2⟩ => thn (hi pins s2 σ H2 _ I2 q2) fun iv s3 ⟨y, H3, I3, ry, a, H4, ex, g, q3⟩ => ?_) hs
 subst ex
 obtain rfl : u = Value.ref a := rx
 exact d_setItem hu I3 g ry rv fun s4 I4 => ⟨σ, H4, I4, q3⟩
end
theorem dk_empty {P : Program} {w : World} {H : Hp} (h : Heap) (hb : sysModules < h.objs.size) : ObjOk P w H (h.push { cls := .type "dict", data := .dict #[] }) h.objs.size (.dK []) :=
 ⟨Nat.zero_le _, beq_eq_false_iff_ne.mpr (Ne.symm (Nat.ne_of_lt hb)), [], .nil, Heap.DictOf.new h⟩
theorem dt_empty {P : Program} {w : World} {H : Hp} (h : Heap) (hb : sysModules < h.objs.size) : ObjOk P w H (h.push { cls := .type "dict", data := .dict #[] }) h.objs.size (.dT []) :=
 ⟨Nat.zero_le _, beq_eq_false_iff_ne.mpr (Ne.symm (Nat.ne_of_lt hb)), [], .nil, _, #[], 0, get?_push_size _ rfl, ⟨rfl, rfl, rfl⟩, rfl, rfl, List.nodup_nil⟩
def tDNewK : TE := fun _ H Q => ∀ p, H p = none -> Q (.ref p) (upd H p (.dK []))
def tDNewT : TE := fun _ H Q => ∀ p, H p = none -> Q (.ref p) (upd H p (.dT []))
section
variable {X : Cx} {pos : Pos}
theorem pe_dnewK : PE X (.Dict [] [] pos) tDNewK := fun pins s σ H Q I h =>
 wpAny_Dict_empty ⟨.ref s.heap.objs.size, _, I.laid (a := s.heap.objs.size) (o := .dK []) (t' := s.toks) (fun _ _ q => get?_push_of_some _ q) (Nat.le_refl _) (dk_empty s.heap I.big), rfl, h _ (I.hok.fresh (Nat.le_refl _))⟩
theorem pe_dnewT : PE X (.Dict [] [] pos) tDNewT := fun pins s σ H Q I h =>
 wpAny_Dict_empty ⟨.ref s.heap.objs.size, _, I.laid (a := s.heap.objs.size) (o := .dT []) (t' := s.toks) (fun _ _ q => get?_push_of_some _ q) (Nat.le_refl _) (dt_empty s.heap I.big), rfl, h _ (I.hok.fresh (Nat.le_refl _))⟩
end
end L2
namespace Att
open PySem PySem.W PySem.Calls PyProof.Rows
end Att
namespace L2
open PySem PySem.Spec PyProof.Rows
end L2
namespace Y.DEq
open PySem PySem.SeqAt PySem.MeetsSeq PySem.AutoSeq1
abbrev dob (dd : Option Addr) (es : Array DictEntry) (n : Nat) (sl : Array (Option Value)) : Obj := ⟨.type "dict", dd, .dict es n, sl⟩
abbrev lob (T : String) (dd : Option Addr) (xs : Array Value) (n : Nat) (sl : Array (Option Value)) : Obj := ⟨.type T, dd, .seq xs n, sl⟩
section
variable (l b : Addr) (es : Array DictEntry) (xs : Array Value) (n m : Nat) (dd de : Option Addr) (sl sm : Array (Option Value)) (q : Bool) (i : Int) (z : Str) (t : Tok)
theorem dict_none : Meets (Builtin.«dict.__eq__» ⟨[.ref l, .none], []⟩) (fun _ R s => s.heap.get? l = some (dob dd es n sl) /\ R (.ok (.ret .notImplemented)) s) :=
 .of_wp fun prog w A R s h => by
  obtain ⟨hp, g, d, tk, os⟩ := s
  obtain ⟨hl, h⟩ := h
  have f1 := F.sub_NoneType_dict
  wp_walk using wpAny_loadPart' hl
  exact ⟨_, rfl, h⟩
theorem dict_bool : Meets (Builtin.«dict.__eq__» ⟨[.ref l, .bool q], []⟩) (fun _ R s => s.heap.get? l = some (dob dd es n sl) /\ R (.ok (.ret .notImplemented)) s) :=
 .of_wp fun prog w A R s h => by
  obtain ⟨hp, g, d, tk, os⟩ := s
  obtain ⟨hl, h⟩ := h
  have f1 := F.sub_bool_dict
  wp_walk using wpAny_loadPart' hl
  exact ⟨_, rfl, h⟩
theorem dict_int : Meets (Builtin.«dict.__eq__» ⟨[.ref l, .int i t], []⟩) (fun _ R s => s.heap.get? l = some (dob dd es n sl) /\ R (.ok (.ret .notImplemented)) s) :=
 .of_wp fun prog w A R s h => by
  obtain ⟨hp, g, d, tk, os⟩ := s
  obtain ⟨hl, h⟩ := h
  have f1 := F.sub_int_dict
  wp_walk using wpAny_loadPart' hl
  exact ⟨_, rfl, h⟩
theorem dict_str : Meets (Builtin.«dict.__eq__» ⟨[.ref l, .str z t], []⟩) (fun _ R s => s.heap.get? l = some (dob dd es n sl) /\ R (.ok (.ret .notImplemented)) s) :=
 .of_wp fun prog w A R s h => by
  obtain ⟨hp, g, d, tk, os⟩ := s
  obtain ⟨hl, h⟩ := h
  have f1 := F.sub_str_dict
  wp_walk using wpAny_loadPart' hl
  exact ⟨_, rfl, h⟩
theorem dict_list : Meets (Builtin.«dict.__eq__» ⟨[.ref l, .ref b], []⟩) (fun _ R s => s.heap.get? l = some (dob dd es n sl) /\ s.heap.get? b = some (lob "list" de xs m sm) /\ R (.ok (.ret .notImplemented)) s) :=
 .of_wp fun prog w A R s h => by
  obtain ⟨hp, g, d, tk, os⟩ := s
  obtain ⟨hl, hb, h⟩ := h
  have f1 := F.sub_list_dict
  wp_walk using wpAny_loadPart' hl, wpAny_loadPart' hb
  exact ⟨_, rfl, h⟩
theorem list_dict : Meets (Builtin.«list.__eq__» ⟨[.ref b, .ref l], []⟩) (fun _ R s => s.heap.get? l = some (dob dd es n sl) /\ s.heap.get? b = some (lob "list" de xs m sm) /\ R (.ok (.ret .notImplemented)) s) :=
 .of_wp fun prog w A R s h => by
  obtain ⟨hp, g, d, tk, os⟩ := s
  obtain ⟨hl, hb, h⟩ := h
  have f1 := F.sub_dict_list
  wp_walk using wpAny_loadPart' hl, wpAny_loadPart' hb
  exact ⟨_, rfl, h⟩
theorem dict_tuple : Meets (Builtin.«dict.__eq__» ⟨[.ref l, .ref b], []⟩) (fun _ R s => s.heap.get? l = some (dob dd es n sl) /\ s.heap.get? b = some (lob "tuple" de xs m sm) /\ R (.ok (.ret .notImplemented)) s) :=
 .of_wp fun prog w A R s h => by
  obtain ⟨hp, g, d, tk, os⟩ := s
  obtain ⟨hl, hb, h⟩ := h
  have f1 := F.sub_tuple_dict
  wp_walk using wpAny_loadPart' hl, wpAny_loadPart' hb
  exact ⟨_, rfl, h⟩
theorem tuple_dict : Meets (Builtin.«tuple.__eq__» ⟨[.ref b, .ref l], []⟩) (fun _ R s => s.heap.get? l = some (dob dd es n sl) /\ s.heap.get? b = some (lob "tuple" de xs m sm) /\ R (.ok (.ret .notImplemented)) s) :=
 .of_wp fun prog w A R s h => by
  obtain ⟨hp, g, d, tk, os⟩ := s
  obtain ⟨hl, hb, h⟩ := h
  have f1 := F.sub_dict_tuple
  wp_walk using wpAny_loadPart' hl, wpAny_loadPart' hb
  exact ⟨_, rfl, h⟩
theorem bool_dict : Meets (Builtin.«int.__eq__» ⟨[.bool q, .ref l], []⟩) (fun _ R s => s.heap.get? l = some (dob dd es n sl) /\ R (.ok (.ret .notImplemented)) s) :=
 .of_wp fun prog w A R s h => by
  obtain ⟨hp, g, d, tk, os⟩ := s
  obtain ⟨hl, h⟩ := h
  wp_walk using wpAny_loadPart' hl, wpAny_load hl
  exact ⟨_, rfl, h⟩
theorem int_dict : Meets (Builtin.«int.__eq__» ⟨[.int i t, .ref l], []⟩) (fun _ R s => s.heap.get? l = some (dob dd es n sl) /\ R (.ok (.ret .notImplemented)) s) :=
 .of_wp fun prog w A R s h => by
  obtain ⟨hp, g, d, tk, os⟩ := s
  obtain ⟨hl, h⟩ := h
  wp_walk using wpAny_loadPart' hl, wpAny_load hl
  exact ⟨_, rfl, h⟩
theorem str_dict : Meets (Builtin.«str.__eq__» ⟨[.str z t, .ref l], []⟩) (fun _ R s => s.heap.get? l = some (dob dd es n sl) /\ R (.ok (.ret .notImplemented)) s) :=
 .of_wp fun prog w A R s h => by
  obtain ⟨hp, g, d, tk, os⟩ := s
  obtain ⟨hl, h⟩ := h
  wp_walk using wpAny_loadPart' hl, wpAny_load hl
  exact ⟨_, rfl, h⟩
end
def IsDct (h : Heap) (a : Addr) : Prop := ∃ dd es n sl, h.get? a = some (dob dd es n sl)
section
variable {A : Around} {s : Shared} {l b : Addr}
theorem rc_none  (hl : IsDct s.heap l) (hu : A.units < cLine) : RcAt A s (.none) (.ref l) false := fun prog w E Q h => by
 obtain ⟨dd, es, n, sl, ho⟩ := hl
 refine rc_eq_decline_or (k := false) (Ta := "NoneType") (rfl) ⟨_, ho, rfl⟩ (by decide) F.sub_dict_NoneType F.slot_NoneType_eq F.slot_dict_eq_refl (fun _ hq => ?_) (fun _ hq => ?_) (fun _ hq => wpAny_of_eq (rfl : isSame (.none) (.ref l) = pure false) hq) (.inr hu) h
 . exact call_gives F.slot_NoneType_eq rfl F.entry_NoneType_eq (F.args_NoneType_eq_2 _ _) (NoneType___eq___none_ref_0 l) hq
 . exact call_meets F.slot_dict_eq_refl ⟨_, ho, rfl⟩ F.entry_dict_eq (F.args_dict_eq_2 _ _) (dict_none l es n dd sl) ⟨ho, hq⟩
theorem at_none  (hl : IsDct s.heap l) (hu : A.units < cLine) : EqAt A s (.none) (.ref l) false := fun prog w E Q h => by
 unfold eqBool
 refine wpAny_holding (wpAny_ite_split (fun hab => absurd (eq_of_beq hab) nofun) fun _ => ?_)
 exact wpAny_bind (rc_none  hl hu prog w E _ (wpAny_truthy_bool h))
theorem rc_bool (q : Bool) (hl : IsDct s.heap l) (hu : A.units < cLine) : RcAt A s (.bool q) (.ref l) false := fun prog w E Q h => by
 obtain ⟨dd, es, n, sl, ho⟩ := hl
 refine rc_eq_decline_or (k := false) (Ta := "bool") (rfl) ⟨_, ho, rfl⟩ (by decide) F.sub_dict_bool F.slot_bool_eq F.slot_dict_eq_refl (fun _ hq => ?_) (fun _ hq => ?_) (fun _ hq => wpAny_of_eq (rfl : isSame (.bool q) (.ref l) = pure false) hq) (.inr hu) h
 . exact call_meets F.slot_bool_eq rfl F.entry_int_eq (F.args_int_eq_2 _ _) (bool_dict l es n dd sl q) ⟨ho, hq⟩
 . exact call_meets F.slot_dict_eq_refl ⟨_, ho, rfl⟩ F.entry_dict_eq (F.args_dict_eq_2 _ _) (dict_bool l es n dd sl q) ⟨ho, hq⟩
theorem at_bool (q : Bool) (hl : IsDct s.heap l) (hu : A.units < cLine) : EqAt A s (.bool q) (.ref l) false := fun prog w E Q h => by
 unfold eqBool
 refine wpAny_holding (wpAny_ite_split (fun hab => absurd (eq_of_beq hab) nofun) fun _ => ?_)
 exact wpAny_bind (rc_bool q hl hu prog w E _ (wpAny_truthy_bool h))
theorem rc_int (i : Int) (t : Tok) (hl : IsDct s.heap l) (hu : A.units < cLine) : RcAt A s (.int i t) (.ref l) false := fun prog w E Q h => by
 obtain ⟨dd, es, n, sl, ho⟩ := hl
 refine rc_eq_decline_or (k := false) (Ta := "int") (typeIs_int s i t) ⟨_, ho, rfl⟩ (by decide) F.sub_dict_int F.slot_int_eq F.slot_dict_eq_refl (fun _ hq => ?_) (fun _ hq => ?_) (fun _ hq => wpAny_of_eq (rfl : isSame (.int i t) (.ref l) = pure false) hq) (.inr hu) h
 . exact call_meets F.slot_int_eq (typeIs_int s i t) F.entry_int_eq (F.args_int_eq_2 _ _) (int_dict l es n dd sl i t) ⟨ho, hq⟩
 . exact call_meets F.slot_dict_eq_refl ⟨_, ho, rfl⟩ F.entry_dict_eq (F.args_dict_eq_2 _ _) (dict_int l es n dd sl i t) ⟨ho, hq⟩
theorem at_int (i : Int) (t : Tok) (hl : IsDct s.heap l) (hu : A.units < cLine) : EqAt A s (.int i t) (.ref l) false := fun prog w E Q h => by
 unfold eqBool
 refine wpAny_holding (wpAny_ite_split (fun hab => absurd (eq_of_beq hab) nofun) fun _ => ?_)
 exact wpAny_bind (rc_int i t hl hu prog w E _ (wpAny_truthy_bool h))
theorem rc_str (z : Str) (t : Tok) (hl : IsDct s.heap l) (hu : A.units < cLine) : RcAt A s (.str z t) (.ref l) false := fun prog w E Q h => by
 obtain ⟨dd, es, n, sl, ho⟩ := hl
 refine rc_eq_decline_or (k := false) (Ta := "str") (typeIs_str s z t) ⟨_, ho, rfl⟩ (by decide) F.sub_dict_str F.slot_str_eq F.slot_dict_eq_refl (fun _ hq => ?_) (fun _ hq => ?_) (fun _ hq => wpAny_of_eq (rfl : isSame (.str z t) (.ref l) = pure false) hq) (.inr hu) h
 . exact call_meets F.slot_str_eq (typeIs_str s z t) F.entry_str_eq (F.args_str_eq_2 _ _) (str_dict l es n dd sl z t) ⟨ho, hq⟩
 . exact call_meets F.slot_dict_eq_refl ⟨_, ho, rfl⟩ F.entry_dict_eq (F.args_dict_eq_2 _ _) (dict_str l es n dd sl z t) ⟨ho, hq⟩
theorem at_str (z : Str) (t : Tok) (hl : IsDct s.heap l) (hu : A.units < cLine) : EqAt A s (.str z t) (.ref l) false := fun prog w E Q h => by
 unfold eqBool
 refine wpAny_holding (wpAny_ite_split (fun hab => absurd (eq_of_beq hab) nofun) fun _ => ?_)
 exact wpAny_bind (rc_str z t hl hu prog w E _ (wpAny_truthy_bool h))
theorem ne_list {xs : Array Value} (hb : s.heap.IsList b xs) (hl : IsDct s.heap l) : b ≠ l := fun e => by
 subst e
 obtain ⟨o, ho, hc, _⟩ := hb
 obtain ⟨dd, es, n, sl, ho2⟩ := hl
 rw [ho] at ho2
 cases ho2
 exact absurd hc (by simp)
theorem rc_list {xs : Array Value} (hb : s.heap.IsList b xs) (hl : IsDct s.heap l) (hu : A.units < cLine) : RcAt A s (.ref b) (.ref l) false := fun prog w E Q h => by
 have hne := ne_list hb hl
 obtain ⟨dd, es, n, sl, ho⟩ := hl
 obtain ⟨⟨cls, de, data, sm⟩, hb1, hc, m, hd⟩ := id hb
 simp only at hc hd
 subst hc hd
 refine rc_eq_decline_or (k := false) (Ta := "list") ⟨_, hb1, rfl⟩ ⟨_, ho, rfl⟩ (by decide) F.sub_dict_list F.slot_list_eq F.slot_dict_eq_refl (fun _ hq => ?_) (fun _ hq => ?_) (fun _ hq => wpAny_isSame_ref_other hne hb1 ho (by simp) hq) (.inr hu) h
 . exact call_meets F.slot_list_eq ⟨_, hb1, rfl⟩ F.entry_list_eq (F.args_list_eq_2 _ _) (list_dict l b es xs n m dd de sl sm) ⟨ho, hb1, hq⟩
 . exact call_meets F.slot_dict_eq_refl ⟨_, ho, rfl⟩ F.entry_dict_eq (F.args_dict_eq_2 _ _) (dict_list l b es xs n m dd de sl sm) ⟨ho, hb1, hq⟩
theorem at_list {xs : Array Value} (hb : s.heap.IsList b xs) (hl : IsDct s.heap l) (hu : A.units < cLine) : EqAt A s (.ref b) (.ref l) false := .of_refs (ne_list hb hl) (rc_list hb hl hu)
theorem ne_tuple {xs : Array Value} (hb : s.heap.IsTuple b xs) (hl : IsDct s.heap l) : b ≠ l := fun e => by
 subst e
 obtain ⟨o, ho, hc, _⟩ := hb
 obtain ⟨dd, es, n, sl, ho2⟩ := hl
 rw [ho] at ho2
 cases ho2
 exact absurd hc (by simp)
theorem rc_tuple {xs : Array Value} (hb : s.heap.IsTuple b xs) (hl : IsDct s.heap l) (hu : A.units < cLine) : RcAt A s (.ref b) (.ref l) false := fun prog w E Q h => by
 have hne := ne_tuple hb hl
 obtain ⟨dd, es, n, sl, ho⟩ := hl
 obtain ⟨⟨cls, de, data, sm⟩, hb1, hc, m, hd⟩ := id hb
 simp only at hc hd
 subst hc hd
 refine rc_eq_decline_or (k := false) (Ta := "tuple") ⟨_, hb1, rfl⟩ ⟨_, ho, rfl⟩ (by decide) F.sub_dict_tuple F.slot_tuple_eq F.slot_dict_eq_refl (fun _ hq => ?_) (fun _ hq => ?_) (fun _ hq => wpAny_isSame_ref_other' hne hb1 ho (by simp) hq) (.inr hu) h
 . exact call_meets F.slot_tuple_eq ⟨_, hb1, rfl⟩ F.entry_tuple_eq (F.args_tuple_eq_2 _ _) (tuple_dict l b es xs n m dd de sl sm) ⟨ho, hb1, hq⟩
 . exact call_meets F.slot_dict_eq_refl ⟨_, ho, rfl⟩ F.entry_dict_eq (F.args_dict_eq_2 _ _) (dict_tuple l b es xs n m dd de sl sm) ⟨ho, hb1, hq⟩
theorem at_tuple {xs : Array Value} (hb : s.heap.IsTuple b xs) (hl : IsDct s.heap l) (hu : A.units < cLine) : EqAt A s (.ref b) (.ref l) false := .of_refs (ne_tuple hb hl) (rc_tuple hb hl hu)
end
end Y.DEq
set_option autoImplicit false
set_option maxHeartbeats 4000000
namespace Y
open PySem PySem.Spec PyProof.Rows L2
theorem el13 {α : Sort _} {B C D : α → Prop} {R : Prop} (h : ∃ a, B a /\ C a /\ D a) (f : ∀ a, B a → C a → D a → R) : R := by
 obtain ⟨a, b, c, d⟩ := h
 exact f a b c d
theorem el33 {α β γ : Sort _} {B C D : α → β → γ → Prop} {R : Prop} (h : ∃ a b c, B a b c /\ C a b c /\ D a b c) (f : ∀ a b c, B a b c → C a b c → D a b c → R) : R := by
 obtain ⟨a, b, c, x, y, z⟩ := h
 exact f a b c x y z
abbrev St := L2.St
class Tabs where
 T : List (Addr × Str)
variable [Tabs]
def isT : HO -> Bool
 | .tbl _ => true
 | _ => false
def recO (c : Addr) (q : Str) : HO := .ext fun h => h.CodeRec (.ref c) q
def TabsOk (H : Hp) : Prop := ∀ P ∈ Tabs.T, ∃ ps, H P.1 = some (.tbl ps) /\ TriplesOk ps.toList /\ ∀ pos cv, codeAmong pos ps.toList = some cv -> ∃ c, cv = .ref c /\ H c = some (recO c P.2)
structure Same (H H' : Hp) : Prop where
 get : ∀ b o, H b = some o -> isT o = false -> H' b = some o
 tbl : ∀ b ps, H b = some (.tbl ps) -> ∃ ps', H' b = some (.tbl ps')
 tabs : TabsOk H -> TabsOk H'
theorem Same.at {H H' : Hp} (s : Same H H') {b : Addr} {o : HO} (h : H b = some o) (n : isT o = false := by rfl) : H' b = some o := s.get b o h n
theorem Same.refl (H : Hp) : Same H H := ⟨fun _ _ h _ => h, fun _ ps h => ⟨ps, h⟩, fun t => t⟩
theorem Same.trans {H H1 H2 : Hp} (a : Same H H1) (b : Same H1 H2) : Same H H2 :=
 ⟨fun c o h n => b.get c o (a.get c o h n) n, fun c ps h => let ⟨ps', e⟩ := a.tbl c ps h; b.tbl c ps' e, fun t => b.tabs (a.tabs t)⟩
theorem Same.free {H H' : Hp} (e : Same H H') {l : Addr} (h : H' l = Option.none) : H l = Option.none := by
 cases q : H l with
 | none => rfl
 | some o =>
  cases n : isT o with
  | false => rw [e.get l o q n] at h; cases h
  | true =>
   cases o with
   | tbl ps => obtain ⟨ps', z⟩ := e.tbl l ps q; rw [z] at h; cases h
   | _ => cases n
theorem Same.seq {K : Frag} {H H' : Hp} {a : Addr} {xs : List V} (e : Same H H') (h : SqL K H a xs) : SqL K H' a xs := by
 rcases h with (h | ⟨o, h⟩) | h
 . exact .inl (.inl (e.at h))
 . exact .inl (.inr ⟨o, e.at h⟩)
 . exact .inr h
inductive DO where
 | k (kvs : List (Key × V))
 | t (kvs : List (List Key × V))
def DO.ho : DO -> HO
 | .k kvs => .dK kvs
 | .t kvs => .dT kvs
inductive MO where
 | l (xs : List V)
 | d (o : DO)
def MO.ho : MO -> HO
 | .l xs => .lst xs
 | .d o => o.ho
theorem MO.nt (o : MO) : isT o.ho = false := by
 rcases o with xs | (kvs | kvs) <;> rfl
theorem DO.nt (o : DO) : isT o.ho = false := MO.nt (.d o)
theorem DO.inj {o o' : DO} (h : o.ho = o'.ho) : o = o' := by
 cases o <;> cases o' <;> cases h <;> rfl
theorem MO.ntup (o : MO) {xs : List V} (h : o.ho = .tup xs) : False := by
 rcases o with xs | (kvs | kvs) <;> cases h
theorem MO.nfrz (o : MO) {b : Obj} {u : HO} (h : o.ho = .frz b u) : False := by
 rcases o with xs | (kvs | kvs) <;> cases h
theorem TabsOk.upd {H : Hp} {p : Addr} {o : HO} (h : H p = none \/ ∃ xs : MO, H p = some xs.ho) (t : TabsOk H) : TabsOk (upd H p o) := fun P hP => by
 obtain ⟨ps, e, tr, k⟩ := t P hP
 have ne : ∀ {b : Addr} {u : HO}, H b = some u -> (∀ xs : MO, u ≠ xs.ho) -> b ≠ p := fun {b u} q n z => by
  rcases h with h | ⟨xs, h⟩
  . rw [z, h] at q; cases q
  . rw [z, h] at q; exact n xs (Option.some.inj q).symm
 refine ⟨ps, by rw [upd_ne (ne e (by intro xs z; rcases xs with xs | (kvs | kvs) <;> cases z))]; exact e, tr, fun pos cv q => ?_⟩
 obtain ⟨c, rfl, hc⟩ := k pos cv q
 exact ⟨c, rfl, by rw [upd_ne (ne hc (by intro xs z; rcases xs with xs | (kvs | kvs) <;> cases z))]; exact hc⟩
theorem Same.writeM {H H' : Hp} {l : Addr} {xs : MO} {o : HO} (s : Same H H') (h : H l = none) (h' : H' l = some xs.ho) : Same H (upd H' l o) :=
 ⟨fun b u e n => by rw [upd_ne (ne_of_none e h)]; exact s.get b u e n, fun b ps e => by rw [upd_ne (ne_of_none e h)]; exact s.tbl b ps e, fun t => (s.tabs t).upd (.inr ⟨xs, h'⟩)⟩
theorem Same.write {H H' : Hp} {l : Addr} {xs : List V} {o : HO} (s : Same H H') (h : H l = none) (h' : H' l = some (.lst xs)) : Same H (upd H' l o) := s.writeM (xs := .l xs) h h'
inductive D where
 | non
 | bl (b : Bool)
 | int (i : Int)
 | str (x : Str)
 | lst (ds : List D)
 | tup (ds : List D)
 | dct (o : DO)
 | ktup (ks : List Key)
def kD : Key -> D
 | .inl i => .int i
 | .inr x => .str x
structure Zone where
 m : Bool
 S : Addr -> Prop
def RO (K : Frag) (H : Hp) (a : Addr) (xs : List V) : Prop :=
 (∃ o, H a = some (.frz o (.lst xs))) \/
  ∃ (o : Obj) (its : Array Value) (n : Nat), K.lookup a = some o /\ o.cls = .type "list" /\ o.dict = none /\ o.data = .seq its n /\ its.size <= sizeLine /\ Vals xs its.toList
def LstAt (K : Frag) (H : Hp) (Z : Zone) (a : Addr) (xs : List V) : Prop := (H a = some (.lst xs) /\ Z.S a) \/ (Z.m = false /\ RO K H a xs)
theorem LstAt.sq {K : Frag} {H : Hp} {Z : Zone} {a : Addr} {xs : List V} (h : LstAt K H Z a xs) : SqL K H a xs := by
 rcases h with ⟨h, _⟩ | ⟨_, h | h⟩
 . exact .inl (.inl h)
 . exact .inl (.inr h)
 . exact .inr h
def KTup (K : Frag) (a : Addr) (ks : List Key) : Prop := ∃ (o : Obj) (its : Array Value) (n : Nat), K.lookup a = some o /\ o.cls = .type "tuple" /\ o.data = .seq its n /\ its.size <= sizeLine /\ Vals (ks.map kV) its.toList
mutual
def In (K : Frag) (H : Hp) (Z : Zone) : D -> V -> Prop
 | .non, v => v = .non
 | .bl b, v => v = .bl b
 | .int i, v => v = .int i
 | .str x, v => v = .str x
 | .lst ds, v => ∃ a xs, v = .ref a /\ LstAt K H Z a xs /\ Ins K H Z ds xs
 | .tup ds, v => ∃ a xs, v = .ref a /\ H a = some (.tup xs) /\ Ins K H Z ds xs
 | .dct o, v => ∃ a, v = .ref a /\ H a = some o.ho /\ Z.S a
 | .ktup ks, v => ∃ a, v = .ref a /\ KTup K a ks
def Ins (K : Frag) (H : Hp) (Z : Zone) : List D -> List V -> Prop
 | [], xs => xs = []
 | d :: ds, xs => ∃ v vs, xs = v :: vs /\ In K H Z d v /\ Ins K H Z ds vs
end
structure Carry (K : Frag) (H : Hp) (Z : Zone) (H' : Hp) (Z' : Zone) : Prop where
 l : ∀ a (xs : MO), H a = some xs.ho -> Z.S a -> H' a = some xs.ho /\ Z'.S a
 r : Z.m = false -> Z'.m = false /\ ∀ a xs, RO K H a xs -> RO K H' a xs
 t : ∀ a (xs : List V), H a = some (.tup xs) -> H' a = some (.tup xs)
section
variable {K : Frag} {H H' H2 : Hp} {Z Z' Z2 : Zone}
theorem LstAt.carry {a : Addr} {xs : List V} (c : Carry K H Z H' Z') (h : LstAt K H Z a xs) : LstAt K H' Z' a xs := by
 rcases h with ⟨h, s⟩ | ⟨m, h⟩
 . exact .inl (c.l a (.l xs) h s)
 . exact .inr ⟨(c.r m).1, (c.r m).2 a xs h⟩
mutual
theorem In.carry (c : Carry K H Z H' Z') : ∀ {d : D} {v : V}, In K H Z d v -> In K H' Z' d v
 | .non, _, h => by unfold In at h ⊢; exact h
 | .bl _, _, h => by unfold In at h ⊢; exact h
 | .int _, _, h => by unfold In at h ⊢; exact h
 | .str _, _, h => by unfold In at h ⊢; exact h
 | .lst ds, v, h => by
  unfold In at h ⊢
  obtain ⟨a, xs, e, l, i⟩ := h
  exact ⟨a, xs, e, l.carry c, Ins.carry c i⟩
 | .tup ds, v, h => by
  unfold In at h ⊢
  obtain ⟨a, xs, e, l, i⟩ := h
  exact ⟨a, xs, e, c.t a xs l, Ins.carry c i⟩
 | .dct o, v, h => by
  unfold In at h ⊢
  obtain ⟨a, e, l, i⟩ := h
  exact ⟨a, e, c.l a (.d o) l i⟩
 | .ktup ks, v, h => by unfold In at h ⊢; exact h
theorem Ins.carry (c : Carry K H Z H' Z') : ∀ {ds : List D} {vs : List V}, Ins K H Z ds vs -> Ins K H' Z' ds vs
 | [], _, h => by unfold Ins at h ⊢; exact h
 | d :: ds, vs, h => by
  unfold Ins at h ⊢
  obtain ⟨v, r, e, i, j⟩ := h
  exact ⟨v, r, e, In.carry c i, Ins.carry c j⟩
end
theorem RO.same {a : Addr} {xs : List V} (s : Same H H') (h : RO K H a xs) : RO K H' a xs := by
 rcases h with ⟨o, h⟩ | h
 . exact .inl ⟨o, s.at h⟩
 . exact .inr h
theorem Carry.of (s : Same H H') (hS : ∀ a (xs : MO), H a = some xs.ho -> Z.S a -> Z'.S a) (hm : Z.m = false -> Z'.m = false) : Carry K H Z H' Z' :=
 ⟨fun a xs h z => ⟨s.at h xs.nt, hS a xs h z⟩, fun m => ⟨hm m, fun a xs h => h.same s⟩, fun a xs h => s.at h⟩
theorem Carry.same (s : Same H H') : Carry K H Z H' Z := .of s (fun _ _ _ z => z) fun m => m
theorem In.same {d : D} {v : V} (s : Same H H') (h : In K H Z d v) : In K H' Z d v := h.carry (.same s)
theorem Ins.same {ds : List D} {vs : List V} (s : Same H H') (h : Ins K H Z ds vs) : Ins K H' Z ds vs := h.carry (.same s)
theorem Carry.writeM {l : Addr} {xs : MO} {o : HO} (h : H l = some xs.ho) (n : ¬ Z.S l) : Carry K H Z (upd H l o) Z := by
 refine ⟨fun a zs e z => ⟨?_, z⟩, fun m => ⟨m, fun a zs e => ?_⟩, fun a zs e => ?_⟩
 . have : a ≠ l := by rintro rfl; exact n z
   rw [upd_ne this]; exact e
 . rcases e with ⟨o, e⟩ | e
   . refine .inl ⟨o, ?_⟩
     rw [upd_ne (ne_of e h (by intro q; exact xs.nfrz q.symm))]; exact e
   . exact .inr e
 . rw [upd_ne (ne_of e h (by intro q; exact xs.ntup q.symm))]; exact e
theorem Carry.write {l : Addr} {xs ys : List V} (h : H l = some (.lst xs)) (n : ¬ Z.S l) : Carry K H Z (upd H l (.lst ys)) Z := Carry.writeM (xs := .l xs) h n
mutual
def D.flat : D -> Bool
 | .lst _ => false
 | .dct _ => false
 | .tup ds => flats ds
 | _ => true
def flats : List D -> Bool
 | [] => true
 | d :: ds => D.flat d && flats ds
end
mutual
theorem In.flat (s : ∀ a (xs : List V), H a = some (.tup xs) -> H' a = some (.tup xs)) : ∀ {d : D} {v : V}, D.flat d = true -> In K H Z d v -> In K H' Z' d v
 | .non, _, _, h => by unfold In at h ⊢; exact h
 | .bl _, _, _, h => by unfold In at h ⊢; exact h
 | .int _, _, _, h => by unfold In at h ⊢; exact h
 | .str _, _, _, h => by unfold In at h ⊢; exact h
 | .lst ds, v, f, h => by unfold D.flat at f; cases f
 | .dct o, v, f, h => by unfold D.flat at f; cases f
 | .ktup ks, v, f, h => by unfold In at h ⊢; exact h
 | .tup ds, v, f, h => by
  unfold D.flat at f
  unfold In at h ⊢
  obtain ⟨a, xs, e, l, i⟩ := h
  exact ⟨a, xs, e, s a xs l, Ins.flat s f i⟩
theorem Ins.flat (s : ∀ a (xs : List V), H a = some (.tup xs) -> H' a = some (.tup xs)) : ∀ {ds : List D} {vs : List V}, flats ds = true -> Ins K H Z ds vs -> Ins K H' Z' ds vs
 | [], _, _, h => by unfold Ins at h ⊢; exact h
 | d :: ds, vs, f, h => by
  unfold flats at f
  rw [Bool.and_eq_true] at f
  unfold Ins at h ⊢
  obtain ⟨v, r, e, i, j⟩ := h
  exact ⟨v, r, e, In.flat s f.1 i, Ins.flat s f.2 j⟩
end
theorem In.flat' {d : D} {v : V} (f : d.flat = true) (h : In K H Z d v) : In K H Z' d v := In.flat (fun _ _ e => e) f h
theorem Ins.flat' {ds : List D} {vs : List V} (f : flats ds = true) (h : Ins K H Z ds vs) : Ins K H Z' ds vs := Ins.flat (fun _ _ e => e) f h
theorem in_non {v : V} : In K H Z .non v ↔ v = .non := by unfold In; exact Iff.rfl
theorem in_bl {b : Bool} {v : V} : In K H Z (.bl b) v ↔ v = .bl b := by unfold In; exact Iff.rfl
theorem in_int {i : Int} {v : V} : In K H Z (.int i) v ↔ v = .int i := by unfold In; exact Iff.rfl
theorem in_str {x : Str} {v : V} : In K H Z (.str x) v ↔ v = .str x := by unfold In; exact Iff.rfl
theorem in_lst {ds : List D} {v : V} : In K H Z (.lst ds) v ↔ ∃ a xs, v = .ref a /\ LstAt K H Z a xs /\ Ins K H Z ds xs := by unfold In; exact Iff.rfl
theorem in_tup {ds : List D} {v : V} : In K H Z (.tup ds) v ↔ ∃ a xs, v = .ref a /\ H a = some (.tup xs) /\ Ins K H Z ds xs := by unfold In; exact Iff.rfl
theorem in_tupS {ds : List D} {v : V} (h : In K H Z (.tup ds) v) : ∃ a xs, v = .ref a /\ SqT K H a xs /\ Ins K H Z ds xs :=
 let ⟨a, xs, e, l, i⟩ := in_tup.mp h
 ⟨a, xs, e, .inl (.inl l), i⟩
theorem in_ktup {ks : List Key} {v : V} : In K H Z (.ktup ks) v ↔ ∃ a, v = .ref a /\ KTup K a ks := by unfold In; exact Iff.rfl
theorem KTup.sq {a : Addr} {ks : List Key} (h : KTup K a ks) : SqT K H a (ks.map kV) := by
 obtain ⟨o, its, n, h1, h2, h3, h4, h5⟩ := h
 exact .inr ⟨o, its, n, h1, h2, h3, h4, h5⟩
theorem in_dct {o : DO} {v : V} : In K H Z (.dct o) v ↔ ∃ a, v = .ref a /\ H a = some o.ho /\ Z.S a := by unfold In; exact Iff.rfl
theorem ins_nil {vs : List V} : Ins K H Z [] vs ↔ vs = [] := by unfold Ins; exact Iff.rfl
theorem ins_cons {d : D} {ds : List D} {vs : List V} : Ins K H Z (d :: ds) vs ↔ ∃ v r, vs = v :: r /\ In K H Z d v /\ Ins K H Z ds r := by
 constructor
 . intro h; unfold Ins at h; exact h
 . intro h; unfold Ins; exact h
theorem Ins.length : ∀ {ds : List D} {vs : List V}, Ins K H Z ds vs -> ds.length = vs.length
 | [], _, h => by rw [ins_nil.mp h]; rfl
 | d :: ds, _, h => by
  obtain ⟨v, r, rfl, _, j⟩ := ins_cons.mp h
  rw [length_cons, length_cons, Ins.length j]
theorem Ins.get : ∀ {ds : List D} {vs : List V} {i : Nat} {d : D}, Ins K H Z ds vs -> ds[i]? = some d -> ∃ v, vs[i]? = some v /\ In K H Z d v
 | [], _, _, _, _, e => by simp at e
 | d :: ds, _, 0, _, h, e => by
  obtain ⟨v, r, rfl, a, _⟩ := ins_cons.mp h
  simp at e; subst e
  exact ⟨v, rfl, a⟩
 | d :: ds, _, i + 1, d', h, e => by
  obtain ⟨v, r, rfl, _, j⟩ := ins_cons.mp h
  obtain ⟨w, h1, h2⟩ := Ins.get (i := i) (d := d') j (by simpa using e)
  exact ⟨w, by simpa using h1, h2⟩
theorem Ins.append : ∀ {ds es : List D} {vs ws : List V}, Ins K H Z ds vs -> Ins K H Z es ws -> Ins K H Z (ds ++ es) (vs ++ ws)
 | [], _, _, _, h, k => by rw [ins_nil.mp h]; exact k
 | d :: ds, _, _, _, h, k => by
  obtain ⟨v, r, rfl, a, j⟩ := ins_cons.mp h
  exact ins_cons.mpr ⟨v, r ++ _, rfl, a, Ins.append j k⟩
theorem Ins.one {d : D} {v : V} (h : In K H Z d v) : Ins K H Z [d] [v] := ins_cons.mpr ⟨v, [], rfl, h, ins_nil.mpr rfl⟩
theorem Ins.drop : ∀ {ds : List D} {vs : List V} (n : Nat), Ins K H Z ds vs -> Ins K H Z (ds.drop n) (vs.drop n)
 | _, _, 0, h => h
 | [], _, _ + 1, h => by rw [ins_nil.mp h]; exact ins_nil.mpr (by simp)
 | _ :: _, _, n + 1, h => by
  obtain ⟨v, r, rfl, _, j⟩ := ins_cons.mp h
  exact Ins.drop n j
theorem Ins.take : ∀ {ds : List D} {vs : List V} (n : Nat), Ins K H Z ds vs -> Ins K H Z (ds.take n) (vs.take n)
 | _, _, 0, h => by rw [List.take_zero, List.take_zero]; exact ins_nil.mpr rfl
 | [], _, _ + 1, h => by rw [ins_nil.mp h]; exact ins_nil.mpr (by simp)
 | _ :: _, _, n + 1, h => by
  obtain ⟨v, r, rfl, a, j⟩ := ins_cons.mp h
  exact ins_cons.mpr ⟨v, r.take n, rfl, a, Ins.take n j⟩
theorem Ins.of_get : ∀ {ds : List D} {vs : List V}, ds.length = vs.length -> (∀ (i : Nat) d v, ds[i]? = some d -> vs[i]? = some v -> In K H Z d v) -> Ins K H Z ds vs
 | [], [], _, _ => ins_nil.mpr rfl
 | d :: ds, v :: vs, e, h => ins_cons.mpr ⟨v, vs, rfl, h 0 d v rfl rfl, Ins.of_get (by simpa using e) fun i d' v' a b => h (i + 1) d' v' (by simpa using a) (by simpa using b)⟩
 | [], _ :: _, e, _ => by simp at e
 | _ :: _, [], e, _ => by simp at e
theorem ins_ints : ∀ (ns : List Int), Ins K H Z (ns.map D.int) (ns.map V.int)
 | [] => ins_nil.mpr rfl
 | n :: ns => ins_cons.mpr ⟨_, _, rfl, in_int.mpr rfl, ins_ints ns⟩
theorem ins_strs : ∀ (ns : List Str), Ins K H Z (ns.map D.str) (ns.map V.str)
 | [] => ins_nil.mpr rfl
 | n :: ns => ins_cons.mpr ⟨_, _, rfl, in_str.mpr rfl, ins_strs ns⟩
theorem ins_strs_inv : ∀ {ns : List Str} {vs : List V}, Ins K H Z (ns.map D.str) vs -> vs = ns.map V.str
 | [], _, h => ins_nil.mp h
 | n :: ns, _, h => by
  obtain ⟨v, r, rfl, a, j⟩ := ins_cons.mp h
  rw [in_str.mp a, ins_strs_inv j]; rfl
theorem in_kV (k : Key) : In K H Z (kD k) (kV k) := by
 cases k with
 | inl i => exact in_int.mpr rfl
 | inr x => exact in_str.mpr rfl
theorem ins_kV : ∀ (ks : List Key), Ins K H Z (ks.map kD) (ks.map kV)
 | [] => ins_nil.mpr rfl
 | k :: ks => ins_cons.mpr ⟨_, _, rfl, in_kV k, ins_kV ks⟩
theorem ins_ints_inv : ∀ {ns : List Int} {vs : List V}, Ins K H Z (ns.map D.int) vs -> vs = ns.map V.int
 | [], _, h => ins_nil.mp h
 | n :: ns, _, h => by
  obtain ⟨v, r, rfl, a, j⟩ := ins_cons.mp h
  rw [in_int.mp a, ins_ints_inv j]; rfl
theorem flats_ints : ∀ (ns : List Int), flats (ns.map D.int) = true
 | [] => by simp [flats]
 | n :: ns => by simp [flats, D.flat, flats_ints ns]
theorem flats_strs : ∀ (ns : List Str), flats (ns.map D.str) = true
 | [] => by simp [flats]
 | n :: ns => by simp [flats, D.flat, flats_strs ns]
theorem flats_all : ∀ {ds : List D}, (∀ d ∈ ds, d.flat = true) -> flats ds = true
 | [], _ => by simp [flats]
 | d :: ds, h => by
  have h1 := h d mem_cons_self
  have h2 : flats ds = true := flats_all fun e he => h e (mem_cons_of_mem _ he)
  simp [flats, h1, h2]
end
structure Zone.Open (Z : Zone) (H : Hp) : Prop where
 op : ∀ a, H a = none -> Z.S a
 tb : TabsOk H
instance {Z : Zone} {H : Hp} : CoeFun (Z.Open H) (fun _ => ∀ a, H a = none -> Z.S a) := ⟨fun o => o.op⟩
def nw (H : Hp) : Zone := ⟨true, fun a => H a = none⟩
theorem nwF {H : Hp} {C : Prop} (h : (nw H).m = false) : C := Bool.noConfusion (show true = false from h)
def out (m : Bool) (Z : Zone) (H : Hp) : Zone := if m then nw H else Z
def anyZ : Zone := ⟨false, fun _ => True⟩
section
variable {K : Frag} {H H1 H' : Hp} {Z : Zone} {m : Bool}
theorem Zone.Open.same (o : Z.Open H) (s : Same H H') : Z.Open H' := ⟨fun a h => o.op a (s.free h), s.tabs o.tb⟩
theorem anyZ_open (t : TabsOk H) : anyZ.Open H := ⟨fun _ _ => trivial, t⟩
theorem nw_open (t : TabsOk H) (s : Same H H') : (nw H).Open H' := ⟨fun a h => s.free h, s.tabs t⟩
theorem In.up {d : D} {v : V} (o : Z.Open H) (h : In K H' (nw H) d v) : In K H' Z d v := h.carry ⟨fun a xs e z => ⟨e, o a z⟩, fun m => nwF m, fun _ _ e => e⟩
theorem Ins.up {ds : List D} {vs : List V} (o : Z.Open H) (h : Ins K H' (nw H) ds vs) : Ins K H' Z ds vs := h.carry ⟨fun a xs e z => ⟨e, o a z⟩, fun m => nwF m, fun _ _ e => e⟩
theorem In.plain {d : D} {v : V} (o : Z.Open H) (h : In K H' (out m Z H) d v) : In K H' Z d v := by
 cases m
 . exact h
 . exact h.up o
theorem In.later {d : D} {v : V} (s : Same H H1) (h : In K H' (out m Z H1) d v) : In K H' (out m Z H) d v := by
 cases m
 . exact h
 . exact h.carry ⟨fun a xs e z => ⟨e, s.free z⟩, fun m => nwF m, fun _ _ e => e⟩
theorem In.outflat {d : D} {v : V} {Z' : Zone} (f : d.flat = true) (h : In K H' Z' d v) : In K H' (out m Z H) d v := h.flat' f
end
def EnvIn (K : Frag) (H : Hp) (Z : Zone) (σ : St) (ρ : List (Option D)) : Prop := ∀ (i : Nat) d, ρ[i]? = some (some d) -> ∃ v, σ[i]? = some (some v) /\ In K H Z d v
theorem EnvIn.same {K : Frag} {H H' : Hp} {Z : Zone} {σ : St} {ρ : List (Option D)} (s : Same H H') (h : EnvIn K H Z σ ρ) : EnvIn K H' Z σ ρ := fun i d e =>
 let ⟨v, a, b⟩ := h i d e; ⟨v, a, b.same s⟩
def tE (K : Frag) (m : Bool) (ρ : List (Option D)) (d : D) : TE := fun σ H Q => ∃ Z : Zone, Z.Open H /\ EnvIn K H Z σ ρ /\ ∀ v H', Same H H' -> In K H' (out m Z H) d v -> Q v H'
def tB' (K : Frag) (ρ : List (Option D)) (b : Bool) : TT := fun σ H Q => ∃ Z : Zone, Z.Open H /\ EnvIn K H Z σ ρ /\ ∀ H', Same H H' -> Q b H'
def tEA (K : Frag) (ρ : List (Option D)) (ds : List D) : TA := fun σ H Q => ∃ Z : Zone, Z.Open H /\ EnvIn K H Z σ ρ /\ ∀ vs H', Same H H' -> Ins K H' Z ds vs -> Q vs H'
def E (X : Cx) (m : Bool) (ρ : List (Option D)) (e : Expr) (d : D) : Prop := PE X e (tE X.K m ρ d)
def T (X : Cx) (ρ : List (Option D)) (e : Expr) (b : Bool) : Prop := PT X e (tB' X.K ρ b)
def TW (X : Cx) (ρ : List (Option D)) (e : Expr) (b : Bool) : Prop := PW X e (tB' X.K ρ b)
def EA (X : Cx) (ρ : List (Option D)) (es : List Expr) (ds : List D) : Prop := PA X es (tEA X.K ρ ds)
theorem PE.mono {X : Cx} {e : Expr} {t t' : TE} (h : PE X e t) (k : ∀ σ H Q, t' σ H Q -> t σ H Q) : PE X e t' := fun pins s σ H Q I q => h pins s σ H Q I (k σ H Q q)
theorem PT.mono {X : Cx} {e : Expr} {t t' : TT} (h : PT X e t) (k : ∀ σ H Q, t' σ H Q -> t σ H Q) : PT X e t' := fun pins s σ H Q I q => h pins s σ H Q I (k σ H Q q)
theorem PW.mono {X : Cx} {e : Expr} {t t' : TT} (h : PW X e t) (k : ∀ σ H Q, t' σ H Q -> t σ H Q) : PW X e t' := fun wh pins s σ H Q I q => h wh pins s σ H Q I (k σ H Q q)
theorem PA.mono {X : Cx} {es : List Expr} {t t' : TA} (h : PA X es t) (k : ∀ σ H Q, t' σ H Q -> t σ H Q) : PA X es t' := fun pos pins s σ H Q I q => h pos pins s σ H Q I (k σ H Q q)
section
variable {X : Cx} {ρ : List (Option D)} {m m1 m2 m3 : Bool} {a b c e : Expr} {es : List Expr} {d d1 d2 d3 : D} {pos : Pos}
theorem E.mode (h : E X true ρ e d) : E X m ρ e d := by
 cases m
 . refine PE.mono h fun σ H Q z0 => el13 z0 fun Z oz en k => ⟨Z, oz, en, fun v H' s i => k v H' s (i.up oz)⟩
 . exact h
theorem E.plainM (h : E X m ρ e d) : E X false ρ e d := by
 cases m
 . exact h
 . exact E.mode h
theorem E.flat (h : E X m1 ρ e d) (f : d.flat = true) : E X m ρ e d :=
 PE.mono h fun σ H Q z0 => el13 z0 fun Z oz en k => ⟨Z, oz, en, fun v H' s i => k v H' s (i.flat' f)⟩
theorem E.cast {d' : D} (h : E X m ρ e d) (q : d = d') : E X m ρ e d' := q ▸ h
theorem e_var (i : Nat) {x : Str} {d : D} (hr : ρ[i]? = some (some d) := by rfl) (hN : X.N[i]? = some x := by rfl)
 (hv : Vis X.env.scope x := by first | exact Or.inl rfl | exact Or.inr (Or.inl rfl) | exact Or.inr (Or.inr rfl)) (hd : (x == ("__debug__" : Str)) = false := by decide)
 (hcd : (x == ("__classdict__" : Str)) = false := by decide) : E X false ρ (.Name x pos) d :=
 PE.mono (pe_var hN hv hd hcd) fun σ H Q z0 => el13 z0 fun Z oz en k => by
  obtain ⟨v, e, i⟩ := en i d hr
  exact ⟨v, e, k v H (Same.refl H) i⟩
theorem e_int {i : Int} {j : Nat} : E X true ρ (.Constant (.int i) j pos) (.int i) := PE.mono pe_int fun σ H Q z0 => el13 z0 fun Z oz en k => k _ _ (Same.refl H) (in_int.mpr rfl)
theorem e_bl {b : Bool} {j : Nat} : E X true ρ (.Constant (.bool b) j pos) (.bl b) := PE.mono pe_bl fun σ H Q z0 => el13 z0 fun Z oz en k => k _ _ (Same.refl H) (in_bl.mpr rfl)
theorem e_str {x : Str} {j : Nat} : E X true ρ (.Constant (.str x) j pos) (.str x) := PE.mono pe_str fun σ H Q z0 => el13 z0 fun Z oz en k => k _ _ (Same.refl H) (in_str.mpr rfl)
theorem e_gstr {x y : Str} {t : Tok} (hm : X.mg x = some (.str y t)) (hg : Gl X x := by rfl) (hd : (x == ("__debug__" : Str)) = false := by decide) : E X true ρ (.Name x pos) (.str y) :=
 PE.mono (pe_glob (v := .str y) hg hm ⟨t, rfl⟩ hd) fun σ H Q z0 => el13 z0 fun Z oz en k => k _ _ (Same.refl H) (in_str.mpr rfl)
theorem ea_nil : EA X ρ [] [] := PA.mono pa_nil fun σ H Q z0 => el13 z0 fun Z oz en k => k [] H (Same.refl H) (ins_nil.mpr rfl)
theorem ea_cons {ds : List D} (ha : E X m1 ρ e d) (hr : EA X ρ es ds) (hs : starEach (e :: es) X.env = (false, eval e X.env) :: starEach es X.env := by rfl) : EA X ρ (e :: es) (d :: ds) :=
 PA.mono (pa_cons ha hr hs) fun σ H Q z0 => el13 z0 fun Z oz en k => ⟨Z, oz, en, fun v H1 s1 i1 => ⟨Z, oz.same s1, en.same s1, fun vs H2 s2 i2 => k (v :: vs) H2 (s1.trans s2) (ins_cons.mpr ⟨v, vs, rfl, (i1.plain oz).same s2, i2⟩)⟩⟩
theorem ea_one (ha : E X m1 ρ e d) (hs : starEach (e :: []) X.env = (false, eval e X.env) :: starEach [] X.env := by rfl) : EA X ρ [e] [d] := ea_cons ha ea_nil hs
def EAF (X : Cx) (ρ : List (Option D)) (es : List Expr) (ds : List D) : Prop := PA X es (fun σ H Q => ∃ Z : Zone, Z.Open H /\ EnvIn X.K H Z σ ρ /\ ∀ vs H', Same H H' -> Ins X.K H' (nw H) ds vs -> Q vs H')
theorem eaf_nil : EAF X ρ [] [] := PA.mono pa_nil fun σ H Q z0 => el13 z0 fun Z oz en k => k [] H (Same.refl H) (ins_nil.mpr rfl)
theorem Ins.later {K : Frag} {H H1 H' : Hp} {ds : List D} {vs : List V} (s : Same H H1) (h : Ins K H' (nw H1) ds vs) : Ins K H' (nw H) ds vs :=
 h.carry ⟨fun a xs e z => ⟨e, s.free z⟩, fun m => nwF m, fun _ _ e => e⟩
theorem eaf_cons {ds : List D} (ha : E X true ρ e d) (hr : EAF X ρ es ds) (hs : starEach (e :: es) X.env = (false, eval e X.env) :: starEach es X.env := by rfl) : EAF X ρ (e :: es) (d :: ds) :=
 PA.mono (pa_cons ha hr hs) fun σ H Q z0 => el13 z0 fun Z oz en k => ⟨Z, oz, en, fun v H1 s1 i1 => ⟨Z, oz.same s1, en.same s1, fun vs H2 s2 i2 => k (v :: vs) H2 (s1.trans s2) (ins_cons.mpr ⟨v, vs, rfl, In.same s2 i1, i2.later s1⟩)⟩⟩
theorem same_new {H : Hp} {p : Addr} {o : HO} (h : H p = none) : Same H (upd H p o) := ⟨fun b u e _ => by rw [upd_ne (ne_of_none e h)]; exact e, fun b ps e => ⟨ps, by rw [upd_ne (ne_of_none e h)]; exact e⟩, fun t => t.upd (.inl h)⟩
theorem e_tup {ds : List D} {x1} (h : EA X ρ es ds) (hz : ds.length <= 1000 := by exact of_decide_eq_true rfl) : E X false ρ (.Tuple es x1 pos) (.tup ds) :=
 PE.mono (pe_tup h) fun σ H Q z0 => el13 z0 fun Z oz en k => ⟨Z, oz, en, fun vs H1 s1 i1 => ⟨by rw [<- i1.length]; exact Nat.le_trans hz (Nat.le_of_lt (small1000 (Nat.le_refl _))), fun p hp =>
  k (.ref p) _ (s1.trans (same_new hp)) (in_tup.mpr ⟨p, vs, rfl, upd_same, i1.same (same_new hp)⟩)⟩⟩
theorem e_tupF {ds : List D} {x1} (h : EAF X ρ es ds) (hz : ds.length <= 1000 := by exact of_decide_eq_true rfl) : E X true ρ (.Tuple es x1 pos) (.tup ds) :=
 PE.mono (pe_tup h) fun σ H Q z0 => el13 z0 fun Z oz en k => ⟨Z, oz, en, fun vs H1 s1 i1 => ⟨by rw [<- i1.length]; exact Nat.le_trans hz (Nat.le_of_lt (small1000 (Nat.le_refl _))), fun p hp =>
  k (.ref p) _ (s1.trans (same_new hp)) (in_tup.mpr ⟨p, vs, rfl, upd_same, i1.same (same_new hp)⟩)⟩⟩
theorem e_lst {ds : List D} (h : EA X ρ es ds) (hz : ds.length <= 1000 := by exact of_decide_eq_true rfl) : E X false ρ (.List es pos) (.lst ds) :=
 PE.mono (pe_lst h) fun σ H Q z0 => el13 z0 fun Z oz en k => ⟨Z, oz, en, fun vs H1 s1 i1 => ⟨by rw [<- i1.length]; exact Nat.le_trans hz (Nat.le_of_lt (small1000 (Nat.le_refl _))), fun p hp =>
  k (.ref p) _ (s1.trans (same_new hp)) (in_lst.mpr ⟨p, vs, rfl, .inl ⟨upd_same, oz p (s1.free hp)⟩, i1.same (same_new hp)⟩)⟩⟩
theorem e_lstF {ds : List D} (h : EAF X ρ es ds) (hz : ds.length <= 1000 := by exact of_decide_eq_true rfl) : E X true ρ (.List es pos) (.lst ds) :=
 PE.mono (pe_lst h) fun σ H Q z0 => el13 z0 fun Z oz en k => ⟨Z, oz, en, fun vs H1 s1 i1 => ⟨by rw [<- i1.length]; exact Nat.le_trans hz (Nat.le_of_lt (small1000 (Nat.le_refl _))), fun p hp =>
  k (.ref p) _ (s1.trans (same_new hp)) (in_lst.mpr ⟨p, vs, rfl, .inl ⟨upd_same, s1.free hp⟩, i1.same (same_new hp)⟩)⟩⟩
theorem e_lstN {ds : List D} (h : EA X ρ es ds) (f : flats ds = true := by rfl) (hz : ds.length <= 1000 := by exact of_decide_eq_true rfl) : E X true ρ (.List es pos) (.lst ds) := by
 refine E.mode (PE.mono (pe_lst h) fun σ H Q z0 => el13 z0 fun Z oz en k => ⟨Z, oz, en, fun vs H1 s1 i1 => ⟨by rw [<- i1.length]; exact Nat.le_trans hz (Nat.le_of_lt (small1000 (Nat.le_refl _))), fun p hp =>
  k (.ref p) _ (s1.trans (same_new hp)) (in_lst.mpr ⟨p, vs, rfl, .inl ⟨upd_same, s1.free hp⟩, (i1.same (same_new hp)).flat' f⟩)⟩⟩)
theorem two {ta tb : TE} {σ : St} {H : Hp} {Z : Zone} {R : V -> V -> Hp -> Prop} (oz : Z.Open H) (en : EnvIn X.K H Z σ ρ)
 (h : ∀ x y H', Same H H' -> In X.K H' Z d1 x -> In X.K H' Z d2 y -> R x y H') : tE X.K m1 ρ d1 σ H fun x H1 => tE X.K m2 ρ d2 σ H1 fun y H2 => R x y H2 :=
 ⟨Z, oz, en, fun x H1 s1 i1 => ⟨Z, oz.same s1, en.same s1, fun y H2 s2 i2 => h x y H2 (s1.trans s2) ((i1.plain oz).same s2) (i2.plain (oz.same s1))⟩⟩
theorem e_op {op : Operator} {r : R2} (ho : OpR X (binaryOp op) r) (ha : E X m1 ρ a d1) (hb : E X m2 ρ b d2)
 (h : ∀ x y H Z Q, Z.Open H -> In X.K H Z d1 x -> In X.K H Z d2 y -> (∀ v H', Same H H' -> In X.K H' (out m Z H) d v -> Q v H') -> r x y H Q) : E X m ρ (.BinOp a op b pos) d :=
 PE.mono (pe_op ho ha hb) fun σ H Q z0 => el13 z0 fun Z oz en k => two (ta := tE X.K m1 ρ d1) (tb := tE X.K m2 ρ d2) oz en fun x y H2 s i1 i2 => h x y H2 Z _ (oz.same s) i1 i2 fun v H' s' i => k v H' (s.trans s') (i.later s)
theorem e_cmp {op : CmpOp} {r : R2} (ho : OpR X (compareOp op) r) (ha : E X m1 ρ a d1) (hb : E X m2 ρ b d2)
 (h : ∀ x y H Z Q, Z.Open H -> In X.K H Z d1 x -> In X.K H Z d2 y -> (∀ v H', Same H H' -> In X.K H' (out m Z H) d v -> Q v H') -> r x y H Q) (hm : behindInMarks op b = false) : E X m ρ (.Compare a [op] [b] pos) d :=
 PE.mono (pe_cmpR ho ha hb hm) fun σ H Q z0 => el13 z0 fun Z oz en k => two (ta := tE X.K m1 ρ d1) (tb := tE X.K m2 ρ d2) oz en fun x y H2 s i1 i2 => h x y H2 Z _ (oz.same s) i1 i2 fun v H' s' i => k v H' (s.trans s') (i.later s)
theorem t_cmp {op : CmpOp} {r : R2} {p : Bool} (ho : OpR X (compareOp op) r) (ha : E X m1 ρ a d1) (hb : E X m2 ρ b d2)
 (h : ∀ x y H Z Q, Z.Open H -> In X.K H Z d1 x -> In X.K H Z d2 y -> (∀ H', Same H H' -> Q (.bl p) H') -> r x y H Q) (hm : behindInMarks op b = false) : T X ρ (.Compare a [op] [b] pos) p :=
 PT.mono (pt_cmpR ho ha hb hm) fun σ H Q z0 => el13 z0 fun Z oz en k => two (ta := tE X.K m1 ρ d1) (tb := tE X.K m2 ρ d2) oz en fun x y H2 s i1 i2 => h x y H2 Z _ (oz.same s) i1 i2 fun H' s' => ⟨p, rfl, k H' (s.trans s')⟩
theorem e_add {i j : Int} (ha : E X m1 ρ a (.int i)) (hb : E X m2 ρ b (.int j)) : E X true ρ (.BinOp a .Add b pos) (.int (i + j)) :=
 e_op op_add ha hb fun x y H Z Q _ i1 i2 k => ⟨_, _, in_int.mp i1, in_int.mp i2, k _ _ (Same.refl H) (in_int.mpr rfl)⟩
theorem e_sub {i j : Int} (ha : E X m1 ρ a (.int i)) (hb : E X m2 ρ b (.int j)) : E X true ρ (.BinOp a .Sub b pos) (.int (i - j)) :=
 e_op op_sub ha hb fun x y H Z Q _ i1 i2 k => ⟨_, _, in_int.mp i1, in_int.mp i2, k _ _ (Same.refl H) (in_int.mpr rfl)⟩
theorem e_mul {i j : Int} (ha : E X m1 ρ a (.int i)) (hb : E X m2 ρ b (.int j)) (hc : CMul i j) : E X true ρ (.BinOp a .Mult b pos) (.int (i * j)) :=
 e_op op_mul ha hb fun x y H Z Q _ i1 i2 k => ⟨_, _, in_int.mp i1, in_int.mp i2, hc, k _ _ (Same.refl H) (in_int.mpr rfl)⟩
theorem e_mod {i j : Int} (ha : E X m1 ρ a (.int i)) (hb : E X m2 ρ b (.int j)) (hc : 0 < j) : E X true ρ (.BinOp a .Mod b pos) (.int (i % j)) :=
 e_op op_mod ha hb fun x y H Z Q _ i1 i2 k => ⟨_, _, in_int.mp i1, in_int.mp i2, hc, k _ _ (Same.refl H) (in_int.mpr rfl)⟩
theorem e_fdiv {i j : Int} (ha : E X m1 ρ a (.int i)) (hb : E X m2 ρ b (.int j)) (hc : CDiv i j) : E X true ρ (.BinOp a .FloorDiv b pos) (.int (i / j)) :=
 e_op op_fdiv ha hb fun x y H Z Q _ i1 i2 k => ⟨_, _, in_int.mp i1, in_int.mp i2, hc, k _ _ (Same.refl H) (in_int.mpr rfl)⟩
theorem e_pow {i j : Int} (ha : E X m1 ρ a (.int i)) (hb : E X m2 ρ b (.int j)) (hc : CPow i j) : E X true ρ (.BinOp a .Pow b pos) (.int (i ^ j.toNat)) :=
 e_op op_pow ha hb fun x y H Z Q _ i1 i2 k => ⟨_, _, in_int.mp i1, in_int.mp i2, hc, k _ _ (Same.refl H) (in_int.mpr rfl)⟩
theorem e_neg {i : Int} (ha : E X m1 ρ a (.int i)) : E X true ρ (.UnaryOp .USub a pos) (.int (-i)) :=
 PE.mono (pe_un un_neg ha) fun σ H Q z0 => el13 z0 fun Z oz en k => ⟨Z, oz, en, fun x H1 s1 i1 => ⟨i, in_int.mp (i1.plain oz), k _ _ s1 (in_int.mpr rfl)⟩⟩
theorem e_addS {x y : Str} (ha : E X m1 ρ a (.str x)) (hb : E X m2 ρ b (.str y)) (hz : x.length + y.length <= sizeLine) : E X true ρ (.BinOp a .Add b pos) (.str (x ++ y)) :=
 e_op op_add_str ha hb fun x y H Z Q _ i1 i2 k => ⟨_, _, in_str.mp i1, in_str.mp i2, hz, k _ _ (Same.refl H) (in_str.mpr rfl)⟩
theorem t_ltI {i j : Int} (ha : E X m1 ρ a (.int i)) (hb : E X m2 ρ b (.int j)) : T X ρ (.Compare a [.Lt] [b] pos) (decide (i < j)) :=
 t_cmp op_lt ha hb (fun x y H Z Q _ i1 i2 k => ⟨_, _, in_int.mp i1, in_int.mp i2, k _ (Same.refl H)⟩) (nomark _)
theorem t_gtI {i j : Int} (ha : E X m1 ρ a (.int i)) (hb : E X m2 ρ b (.int j)) : T X ρ (.Compare a [.Gt] [b] pos) (decide (j < i)) :=
 t_cmp op_gt ha hb (fun x y H Z Q _ i1 i2 k => ⟨_, _, in_int.mp i1, in_int.mp i2, k _ (Same.refl H)⟩) (nomark _)
theorem e_geI {i j : Int} (ha : E X m1 ρ a (.int i)) (hb : E X m2 ρ b (.int j)) : E X true ρ (.Compare a [.GtE] [b] pos) (.bl (decide (j <= i))) :=
 e_cmp op_ge ha hb (fun x y H Z Q _ i1 i2 k => ⟨_, _, in_int.mp i1, in_int.mp i2, k _ _ (Same.refl H) (in_bl.mpr rfl)⟩) (nomark _)
theorem t_geI {i j : Int} (ha : E X m1 ρ a (.int i)) (hb : E X m2 ρ b (.int j)) : T X ρ (.Compare a [.GtE] [b] pos) (decide (j <= i)) :=
 t_cmp op_ge ha hb (fun x y H Z Q _ i1 i2 k => ⟨_, _, in_int.mp i1, in_int.mp i2, k _ (Same.refl H)⟩) (nomark _)
theorem t_eqI {i j : Int} (ha : E X m1 ρ a (.int i)) (hb : E X m2 ρ b (.int j)) : T X ρ (.Compare a [.Eq] [b] pos) (decide (i = j)) :=
 t_cmp op_eq ha hb (fun x y H Z Q _ i1 i2 k => by rw [in_int.mp i1, in_int.mp i2]; exact ⟨rfl, by simpa using k _ (Same.refl H)⟩) (nomark _)
theorem t_neI {i j : Int} (ha : E X m1 ρ a (.int i)) (hb : E X m2 ρ b (.int j)) : T X ρ (.Compare a [.NotEq] [b] pos) (!decide (i = j)) :=
 t_cmp op_ne ha hb (fun x y H Z Q _ i1 i2 k => by rw [in_int.mp i1, in_int.mp i2]; exact ⟨rfl, by simpa using k _ (Same.refl H)⟩) (nomark _)
theorem e_eqS {i j : Str} (ha : E X m1 ρ a (.str i)) (hb : E X m2 ρ b (.str j)) : E X true ρ (.Compare a [.Eq] [b] pos) (.bl (decide (i = j))) :=
 e_cmp op_eq ha hb (fun x y H Z Q _ i1 i2 k => by rw [in_str.mp i1, in_str.mp i2]; exact ⟨rfl, k _ _ (Same.refl H) (in_bl.mpr (by simp))⟩) (nomark _)
theorem t_eqS {i j : Str} (ha : E X m1 ρ a (.str i)) (hb : E X m2 ρ b (.str j)) : T X ρ (.Compare a [.Eq] [b] pos) (decide (i = j)) :=
 t_cmp op_eq ha hb (fun x y H Z Q _ i1 i2 k => by rw [in_str.mp i1, in_str.mp i2]; exact ⟨rfl, by simpa using k _ (Same.refl H)⟩) (nomark _)
theorem t_inS {i j : Str} (ha : E X m1 ρ a (.str i)) (hb : E X m2 ρ b (.str j)) (hm : behindInMarks .In b = false := by rfl) : T X ρ (.Compare a [.In] [b] pos) (!(Builtin.Str.occurrences j i 0 j.length 1).isEmpty) :=
 t_cmp op_in_str ha hb (fun x y H Z Q _ i1 i2 k => ⟨_, _, in_str.mp i1, in_str.mp i2, k _ (Same.refl H)⟩) hm
theorem tw_and1 {p : Bool} (ha : T X ρ a p) : TW X ρ (.BoolOp .And [a] pos) p := pw_and1 ha
theorem tw_and {p q : Bool} {r : List Expr} (ha : T X ρ a p) (hb : p = true -> TW X ρ (.BoolOp .And (b :: r) pos) q) : TW X ρ (.BoolOp .And (a :: b :: r) pos) (p && q) := by
 cases p with
 | true =>
  exact PW.mono (pw_and ha (hb rfl)) fun σ H Q z0 => el13 z0 fun Z oz en k => ⟨Z, oz, en, fun H1 s1 => by
   refine iteT ?_; exact ⟨Z, oz.same s1, en.same s1, fun H2 s2 => k H2 (s1.trans s2)⟩⟩
 | false =>
  exact PW.mono (pw_and (tB' := fun _ _ _ => False) ha (fun wh pins s σ H Q I h => h.elim)) fun σ H Q z0 => el13 z0 fun Z oz en k => ⟨Z, oz, en, fun H1 s1 => by
   refine iteF ?_; exact k H1 s1⟩
theorem TW.t {p : Bool} (h : TW X ρ a p) : T X ρ a p := PW.pt h
theorem t_not {p : Bool} (ha : T X ρ a p) : T X ρ (.UnaryOp .Not a pos) (!p) := PT.mono (pt_not ha) fun σ H Q z0 => el13 z0 fun Z oz en k => ⟨Z, oz, en, fun H1 s1 => k H1 s1⟩
theorem t_val {p : Bool} (h : E X m1 ρ e (.bl p)) (he : ∀ whole, isTrue e X.env whole = (do let v <- whole; standAt e.pos; holding [v] (truthy v)) := by intro _; rfl) : T X ρ e p :=
 PT.mono (pt_val h he) fun σ H Q z0 => el13 z0 fun Z oz en k => ⟨Z, oz, en, fun v H1 s1 i1 => ⟨p, in_bl.mp (i1.plain oz), k H1 s1⟩⟩
theorem e_one {op : BoolOp} (h : E X m ρ a d) : E X m ρ (.BoolOp op [a] pos) d := pe_one h
theorem e_and {p : Bool} {q : Bool} {r : List Expr} (ha : E X m1 ρ a (.bl p)) (hb : p = true -> E X m2 ρ (.BoolOp .And (b :: r) pos) (.bl q)) : E X true ρ (.BoolOp .And (a :: b :: r) pos) (.bl (p && q)) := by
 cases p with
 | true =>
  exact PE.mono (pe_and ha (hb rfl)) fun σ H Q z0 => el13 z0 fun Z oz en k => ⟨Z, oz, en, fun v H1 s1 i1 => ⟨true, in_bl.mp (i1.plain oz), by
   refine iteT ?_; exact ⟨Z, oz.same s1, en.same s1, fun w H2 s2 i2 => k w H2 (s1.trans s2) (i2.outflat rfl)⟩⟩⟩
 | false =>
  exact PE.mono (pe_and (tb := fun _ _ _ => False) ha (fun pins s σ H Q I h => h.elim)) fun σ H Q z0 => el13 z0 fun Z oz en k => ⟨Z, oz, en, fun v H1 s1 i1 => ⟨false, in_bl.mp (i1.plain oz), by
   refine iteF ?_; exact k _ H1 s1 (in_bl.mpr rfl)⟩⟩
theorem e_or {p : Bool} {q : Bool} {r : List Expr} (ha : E X m1 ρ a (.bl p)) (hb : p = false -> E X m2 ρ (.BoolOp .Or (b :: r) pos) (.bl q)) : E X true ρ (.BoolOp .Or (a :: b :: r) pos) (.bl (p || q)) := by
 cases p with
 | false =>
  exact PE.mono (pe_or ha (hb rfl)) fun σ H Q z0 => el13 z0 fun Z oz en k => ⟨Z, oz, en, fun v H1 s1 i1 => ⟨false, in_bl.mp (i1.plain oz), by
   refine iteF ?_; exact ⟨Z, oz.same s1, en.same s1, fun w H2 s2 i2 => k w H2 (s1.trans s2) (i2.outflat rfl)⟩⟩⟩
 | true =>
  exact PE.mono (pe_or (tb := fun _ _ _ => False) ha (fun pins s σ H Q I h => h.elim)) fun σ H Q z0 => el13 z0 fun Z oz en k => ⟨Z, oz, en, fun v H1 s1 i1 => ⟨true, in_bl.mp (i1.plain oz), by
   refine iteT ?_; exact k _ H1 s1 (in_bl.mpr rfl)⟩⟩
theorem e_ifExp {p : Bool} (hc : T X ρ c p) (ha : p = true -> E X m ρ a d) (hb : p = false -> E X m ρ b d) : E X m ρ (.IfExp c a b pos) d := by
 cases p with
 | true =>
  exact PE.mono (pe_ifExp (tb := fun _ _ _ => False) hc (ha rfl) (fun pins s σ H Q I h => h.elim)) fun σ H Q z0 => el13 z0 fun Z oz en k => ⟨Z, oz, en, fun H1 s1 => by
   refine iteT ?_; exact ⟨Z, oz.same s1, en.same s1, fun v H2 s2 i2 => k v H2 (s1.trans s2) (i2.later s1)⟩⟩
 | false =>
  exact PE.mono (pe_ifExp (ta := fun _ _ _ => False) hc (fun pins s σ H Q I h => h.elim) (hb rfl)) fun σ H Q z0 => el13 z0 fun Z oz en k => ⟨Z, oz, en, fun H1 s1 => by
   refine iteF ?_; exact ⟨Z, oz.same s1, en.same s1, fun v H2 s2 i2 => k v H2 (s1.trans s2) (i2.later s1)⟩⟩
theorem Ins.atI {K : Frag} {H : Hp} {Z : Zone} {ds : List D} {vs : List V} {i : Int} {d : D} (h : Ins K H Z ds vs) (e : atI ds i = some d) : ∃ v, atI vs i = some v /\ In K H Z d v := by
 unfold L2.atI at e ⊢
 rw [<- h.length]
 cases q : ixN ds.length i with
 | none => rw [q] at e; cases e
 | some j =>
  rw [q] at e
  exact h.get e
theorem e_ixL {ds : List D} {i : Int} (ha : E X m1 ρ a (.lst ds)) (hb : E X m2 ρ b (.int i)) (h : atI ds i = some d) (hs : PlainIx b := by intro _ _; rfl) : E X m1 ρ (.Subscript a b pos) d :=
 PE.mono (pe_ix ix_list ha hb hs) fun σ H Q z0 => el13 z0 fun Z oz en k => ⟨Z, oz, en, fun x H1 s1 i1 => ⟨Z, oz.same s1, en.same s1, fun y H2 s2 i2 => by
  obtain ⟨p, xs, rfl, l, j⟩ := in_lst.mp (In.same s2 i1)
  obtain ⟨v, e, iv⟩ := j.atI h
  exact ⟨p, xs, i, v, rfl, in_int.mp (i2.plain (oz.same s1)), l.sq, e, k v H2 (s1.trans s2) iv⟩⟩⟩
theorem e_ixT {ds : List D} {i : Int} (ha : E X m1 ρ a (.tup ds)) (hb : E X m2 ρ b (.int i)) (h : atI ds i = some d) (hs : PlainIx b := by intro _ _; rfl) : E X m1 ρ (.Subscript a b pos) d :=
 PE.mono (pe_ix ix_tup ha hb hs) fun σ H Q z0 => el13 z0 fun Z oz en k => ⟨Z, oz, en, fun x H1 s1 i1 => ⟨Z, oz.same s1, en.same s1, fun y H2 s2 i2 => by
  obtain ⟨p, xs, rfl, l, j⟩ := in_tupS (In.same s2 i1)
  obtain ⟨v, e, iv⟩ := j.atI h
  exact ⟨p, xs, i, v, rfl, in_int.mp (i2.plain (oz.same s1)), l, e, k v H2 (s1.trans s2) iv⟩⟩⟩
theorem e_ixS {z : Str} {i : Int} {cp : Nat} (ha : E X m1 ρ a (.str z)) (hb : E X m2 ρ b (.int i)) (hz : z.length <= sizeLine) (h : atI z.cps.toList i = some cp) (hs : PlainIx b := by intro _ _; rfl) : E X true ρ (.Subscript a b pos) (.str ⟨#[cp]⟩) :=
 PE.mono (pe_ix ix_str ha hb hs) fun σ H Q z0 => el13 z0 fun Z oz en k => two (ta := tE X.K m1 ρ (.str z)) (tb := tE X.K m2 ρ (.int i)) oz en fun x y H2 s i1 i2 =>
  ⟨z, i, cp, in_str.mp i1, in_int.mp i2, hz, h, k _ H2 s (in_str.mpr rfl)⟩
def EO (X : Cx) (ρ : List (Option D)) (e : Option Expr) (o : Option Int) : Prop := PO X e (fun σ H Q => ∃ Z : Zone, Z.Open H /\ EnvIn X.K H Z σ ρ /\ ∀ H', Same H H' -> Q o H')
theorem PO.mono {e : Option Expr} {t t' : TO} (h : PO X e t) (k : ∀ σ H Q, t' σ H Q -> t σ H Q) : PO X e t' := fun pins s σ H Q I q => h pins s σ H Q I (k σ H Q q)
theorem eo_none : EO X ρ none none := PO.mono po_none fun σ H Q z0 => el13 z0 fun Z oz en k => k H (Same.refl H)
theorem eo_some {i : Int} (h : E X m1 ρ e (.int i)) : EO X ρ (some e) (some i) := PO.mono (po_some h) fun σ H Q z0 => el13 z0 fun Z oz en k => ⟨Z, oz, en, fun v H1 s1 i1 => ⟨i, in_int.mp (i1.plain oz), k H1 s1⟩⟩
def cut {α : Type} (xs : List α) (lo hi : Option Int) : List α := (xs.drop (HT.sIx xs.length 0 lo)).take (HT.sIx xs.length xs.length hi - HT.sIx xs.length 0 lo)
theorem Ins.cut {K : Frag} {H : Hp} {Z : Zone} {ds : List D} {vs : List V} (h : Ins K H Z ds vs) (lo hi : Option Int) : Ins K H Z (cut ds lo hi) (cutV vs lo hi) := by
 unfold Y.cut cutV
 rw [h.length]
 exact (h.drop _).take _
variable {lo hi : Option Expr} {l u : Option Int} {p2 : Pos}
theorem e_slL {ds : List D} (ha : E X m1 ρ a (.lst ds)) (hl : EO X ρ lo l) (hu : EO X ρ hi u) (hm : m = true -> m1 = true \/ flats (cut ds l u) = true := by intro h; first | exact .inl h | cases h) : E X m ρ (.Subscript a (.Slice lo hi none p2) pos) (.lst (cut ds l u)) :=
 PE.mono (pe_slice sl_list ha hl hu) fun σ H Q z0 => el13 z0 fun Z oz en k => ⟨Z, oz, en, fun x H1 s1 i1 => ⟨Z, oz.same s1, en.same s1, fun H2 s2 => ⟨Z, oz.same (s1.trans s2), en.same (s1.trans s2), fun H3 s3 => by
  have s := (s1.trans s2).trans s3
  have i3 : In X.K H3 (out m1 Z H) (.lst ds) x := In.same (s2.trans s3) i1
  obtain ⟨p, xs, rfl, lq, j⟩ := in_lst.mp i3
  refine ⟨p, xs, rfl, lq.sq, fun q hq => k (.ref q) _ (s.trans (same_new hq)) (in_lst.mpr ⟨q, _, rfl, .inl ⟨upd_same, ?_⟩, ?_⟩)⟩
  . cases m
    . exact oz q (s.free hq)
    . exact s.free hq
  . have jc := (j.cut l u).same (same_new (o := .lst (cutV xs l u)) hq)
    cases m
    . cases m1
      . exact jc
      . exact jc.up oz
    . rcases hm rfl with h | h
      . subst h; exact jc
      . exact jc.flat' h⟩⟩⟩
end
end Y
namespace Y
open PySem PySem.Spec PyProof.Rows L2
variable [Tabs]
def clOf (cells : List (Str × Addr)) : List (Str × NameKind) -> List (Str × Addr) -> List (Str × Addr)
 | [], acc => acc
 | (n, k) :: r, acc => if k == .free then clOf cells r ((n, (cells.lookup n).getD 0) :: acc) else clOf cells r acc
theorem clOf_sub {cells : List (Str × Addr)} : ∀ {names : List (Str × NameKind)} {acc : List (Str × Addr)}, (∀ y ∈ names, y.2 = .free -> ∃ c, cells.lookup y.1 = some c) -> (∀ x c, acc.lookup x = some c -> cells.lookup x = some c) ->
 ∀ x c, (clOf cells names acc).lookup x = some c -> cells.lookup x = some c
 | [], _, _, h2, x, c, e => h2 x c e
 | (n, k) :: r, acc, h1, h2, x, c, e => by
  unfold clOf at e
  by_cases hk : (k == NameKind.free) = true
  . rw [if_pos hk] at e
    refine clOf_sub (fun y hy => h1 y (mem_cons_of_mem _ hy)) (fun y c' e' => ?_) x c e
    obtain ⟨c0, e0⟩ := h1 (n, k) mem_cons_self (by simpa using hk)
    rw [lookup_cons] at e'
    cases hy : y == n with
    | true =>
     rw [hy] at e'
     simp at e'
     have : y = n := by simpa using hy
     subst this
     rw [e0] at e' ⊢
     simpa using e'
    | false =>
     rw [hy] at e'
     exact h2 y c' e'
  . rw [if_neg hk] at e
    exact clOf_sub (fun y hy => h1 y (mem_cons_of_mem _ hy)) h2 x c e
theorem clOf_acc {cells : List (Str × Addr)} : ∀ {names : List (Str × NameKind)} {acc : List (Str × Addr)} {x : Str}, (∃ c, acc.lookup x = some c) -> ∃ c, (clOf cells names acc).lookup x = some c
 | [], _, _, h => h
 | (n, k) :: r, acc, x, h => by
  unfold clOf
  by_cases hk : (k == NameKind.free) = true
  . rw [if_pos hk]
    refine clOf_acc ?_
    rw [lookup_cons]
    cases hy : x == n with
    | true => exact ⟨_, rfl⟩
    | false => exact h
  . rw [if_neg hk]; exact clOf_acc h
theorem clOf_has {cells : List (Str × Addr)} : ∀ {names : List (Str × NameKind)} {acc : List (Str × Addr)} {x : Str}, (x, NameKind.free) ∈ names -> ∃ c, (clOf cells names acc).lookup x = some c
 | [], _, _, h => by cases h
 | (n, k) :: r, acc, x, h => by
  unfold clOf
  rcases mem_cons.mp h with e | h
  . cases e
    rw [if_pos (by decide)]
    exact clOf_acc ⟨(cells.lookup n).getD 0, by rw [lookup_cons]; simp⟩
  . by_cases hk : (k == NameKind.free) = true
    . rw [if_pos hk]; exact clOf_has h
    . rw [if_neg hk]; exact clOf_has h
theorem closure_of {scope : Scope} {env : Env} (h : ∀ y ∈ scope.names, y.2 = .free -> ∃ c, env.cells.lookup y.1 = some c) : closureFor scope env = pure (clOf env.cells scope.names []) := by
 have key : ∀ (names : List (Str × NameKind)) (acc : List (Str × Addr)), (∀ y ∈ names, y.2 = .free -> ∃ c, env.cells.lookup y.1 = some c) ->
  (forIn names acc fun (x : Str × NameKind) (cs : List (Str × Addr)) => (match x with
   | (name, kind) => if (kind == NameKind.free) = true then do let a <- cellOf env name; pure (ForInStep.yield ((name, a) :: cs)) else pure (ForInStep.yield cs)) : Sem (List (Str × Addr))) = pure (clOf env.cells names acc) := by
  intro names
  induction names with
  | nil => intro acc _; rfl
  | cons y r ih =>
   intro acc hy
   obtain ⟨n, k⟩ := y
   rw [List.forIn_cons]
   unfold clOf
   by_cases hk : (k == NameKind.free) = true
   . obtain ⟨c, e⟩ := hy (n, k) mem_cons_self (by simpa using hk)
     have e1 : cellOf env n = pure c := by unfold cellOf; rw [e]
     simp only [hk, if_true, e1, pure_bind]
     rw [ih _ fun z hz => hy z (mem_cons_of_mem _ hz), e]
     rfl
   . simp only [hk, if_false, pure_bind]
     exact ih _ fun z hz => hy z (mem_cons_of_mem _ hz)
 unfold closureFor
 have k := key scope.names [] h
 first
  | (simp only [bind_pure]; exact k)
  | (rw [k]; rfl)
  | exact k
theorem lookup_relabel {env : Env} {P : NameKind -> Prop} (hP : P .free -> P .cell) : ∀ {names : List (Str × NameKind)} {x : Str} {k : NameKind}, names.lookup x = some k -> P k ->
 ∃ k', (names.map fun (n, k) => if (k == NameKind.free && env.scope.kind == .function && env.kindOf n == some .cell) then (n, NameKind.cell) else (n, k)).lookup x = some k' /\ P k'
 | [], _, _, h, _ => by simp at h
 | (n, k0) :: r, x, k, h, p => by
  have ih := @lookup_relabel env P hP r x k
  show ∃ k', List.lookup x ((if (k0 == NameKind.free && env.scope.kind == .function && env.kindOf n == some .cell) = true then (n, NameKind.cell) else (n, k0)) :: _) = some k' /\ P k'
  cases hx : x == n with
  | true =>
   simp only [lookup_cons, hx] at h
   have hk : k0 = k := Option.some.inj h
   subst hk
   by_cases hc : (k0 == NameKind.free && env.scope.kind == .function && env.kindOf n == some .cell) = true
   . rw [if_pos hc]; simp only [lookup_cons, hx]
     refine ⟨_, rfl, ?_⟩
     have : k0 = .free := by simp at hc; exact hc.1.1
     subst this
     exact hP p
   . rw [if_neg hc]; simp only [lookup_cons, hx]; exact ⟨_, rfl, p⟩
  | false =>
   simp only [lookup_cons, hx] at h
   by_cases hc : (k0 == NameKind.free && env.scope.kind == .function && env.kindOf n == some .cell) = true
   . rw [if_pos hc]; simp only [lookup_cons, hx]; exact ih h p
   . rw [if_neg hc]; simp only [lookup_cons, hx]; exact ih h p
theorem unlook_relabel {env : Env} : ∀ {names : List (Str × NameKind)} {x : Str} {k' : NameKind}, (names.map fun (n, k) => if (k == NameKind.free && env.scope.kind == .function && env.kindOf n == some .cell) then (n, NameKind.cell) else (n, k)).lookup x = some k' ->
 ∃ k, (x, k) ∈ names /\ (k' = k \/ k = .free)
 | [], _, _, h => by simp at h
 | (n, k0) :: r, x, k', h => by
  have ih := @unlook_relabel env r x k'
  have h' : List.lookup x ((if (k0 == NameKind.free && env.scope.kind == .function && env.kindOf n == some .cell) = true then (n, NameKind.cell) else (n, k0)) :: (r.map fun (n, k) => if (k == NameKind.free && env.scope.kind == .function && env.kindOf n == some .cell) then (n, NameKind.cell) else (n, k))) = some k' := h
  cases hx : x == n with
  | true =>
   have hxn : x = n := by simpa using hx
   subst hxn
   by_cases hc : (k0 == NameKind.free && env.scope.kind == .function && env.kindOf x == some .cell) = true
   . have : k0 = .free := by simp at hc; exact hc.1.1
     exact ⟨k0, mem_cons_self, .inr this⟩
   . rw [if_neg hc] at h'; simp only [lookup_cons, hx] at h'
     cases h'
     exact ⟨k0, mem_cons_self, .inl rfl⟩
  | false =>
   have h2 : List.lookup x (r.map fun (n, k) => if (k == NameKind.free && env.scope.kind == .function && env.kindOf n == some .cell) then (n, NameKind.cell) else (n, k)) = some k' := by
    by_cases hc : (k0 == NameKind.free && env.scope.kind == .function && env.kindOf n == some .cell) = true
    . rw [if_pos hc] at h'; simp only [lookup_cons, hx] at h'; exact h'
    . rw [if_neg hc] at h'; simp only [lookup_cons, hx] at h'; exact h'
   obtain ⟨k, a, b⟩ := ih h2
   exact ⟨k, mem_cons_of_mem _ a, b⟩
def CapOk (X : Cx) : List Str -> List Nat -> Prop
 | [], [] => True
 | y :: ys, j :: js => (X.N[j]? = some y /\ (X.env.scope.names.lookup y = some .cell \/ X.env.scope.names.lookup y = some .free)) /\ CapOk X ys js
 | _, _ => False
theorem CapOk.at {X : Cx} : ∀ {caps : List Str} {js : List Nat}, CapOk X caps js -> ∀ (k : Nat) y j, caps[k]? = some y -> js[k]? = some j -> X.N[j]? = some y /\ (X.env.scope.names.lookup y = some .cell \/ X.env.scope.names.lookup y = some .free)
 | [], _, _, _, _, _, e, _ => by simp at e
 | _ :: _, [], h, _, _, _, _, _ => by exact False.elim h
 | y :: ys, j :: js, h, 0, _, _, e1, e2 => by simp at e1 e2; subst e1 e2; exact h.1
 | y :: ys, j :: js, h, k + 1, y', j', e1, e2 => h.2.at k y' j' (by simpa using e1) (by simpa using e2)
theorem CapOk.len {X : Cx} : ∀ {caps : List Str} {js : List Nat}, CapOk X caps js -> js.length = caps.length
 | [], [], _ => rfl
 | [], _ :: _, h => False.elim h
 | _ :: _, [], h => False.elim h
 | _ :: _, _ :: _, h => by simp [h.2.len]
structure BlkScope (X : Cx) (scope : Scope) (own caps : List Str) (js : List Nat) : Prop where
 kind : scope.kind = .function
 nocell : ∀ y ∈ scope.names, y.2 ≠ .cell
 names : ∀ y ∈ scope.names, y.2 = .local -> scope.names.lookup y.1 = some .local
 nd : (own ++ caps).Nodup
 own : ∀ y ∈ own, scope.names.lookup y = some .local
 capf : ∀ y ∈ caps, (y, NameKind.free) ∈ scope.names /\ scope.names.lookup y = some .free
 capO : CapOk X caps js
 free : ∀ y ∈ scope.names, y.2 = .free -> y.1 ∈ caps
def blk (X : Cx) (N' : List Str) (scope : Scope) (C : Addr) (s : Shared) (H : Hp) (fp : List Addr) : Cx :=
 { X with N := N', s₀ := s, H₀ := H, env := compEnvC scope (clOf X.env.cells scope.names []) C X.env, outer := X.stack, ex := fp, fn := fun _ => false, pn := [], xe := fun _ _ => False }
def capsOf (js : List Nat) (σ : St) : St := js.map fun j => (σ[j]?).join
section
variable {X : Cx} {pins : List (Addr × Obj)} {σ : St} {H H' : Hp} {s : Shared} {scope : Scope} {own caps : List Str} {js : List Nat} {fp : List Addr}
theorem BlkScope.cells (B : BlkScope X scope own caps js) (ok : X.Ok) : ∀ y ∈ scope.names, y.2 = .free -> ∃ c, X.env.cells.lookup y.1 = some c := fun y hy hf => by
 obtain ⟨k, hk⟩ := List.getElem?_of_mem (B.free y hy hf)
 have hj : k < js.length := by rw [B.capO.len]; exact (List.getElem?_eq_some_iff.mp hk).1
 obtain ⟨_, h⟩ := B.capO.at k y.1 js[k] hk (by simp [hj])
 exact ok.has y.1 h
theorem inv_blk (B : BlkScope X scope own caps js) (I : Inv X pins σ H s) (hf : ∀ b ∈ fp, FpOk X pins H b) (ho : ∀ b ∈ fp, b < s.heap.objs.size) {h4 : Heap} {tk : Nat}
 (hn : h4.Ns (s.heap.objs.size + 1) (fun _ => none)) (hk : ∀ b o, s.heap.get? b = some o -> h4.get? b = some o)
 (hl : h4.get? s.heap.objs.size = some { cls := .type "list", data := .seq ([] : List Value).toArray 0 }) :
 Inv (blk X (own ++ caps) scope (s.heap.objs.size + 1) s H fp) [] (own.map (fun _ => none) ++ capsOf js σ) (upd H s.heap.objs.size (.lst [])) { s with heap := h4, toks := tk } := by
 have fresh : H s.heap.objs.size = none := I.hok.fresh (Nat.le_refl _)
 have freshC : H (s.heap.objs.size + 1) = none := I.hok.fresh (Nat.le_succ _)
 have hcl := B.cells I.ok
 have sub := clOf_sub (acc := []) hcl (fun x c e => by simp at e)
 have ok' : (blk X (own ++ caps) scope (s.heap.objs.size + 1) s H fp).Ok := by
  refine ⟨I.ok.mod, B.kind, I.ok.glob, I.ok.blt, Nat.le_succ _, fun x y c h1 h2 => I.ok.inj x y c (sub x c h1) (sub y c h2), fun x hx => ?_, fun x c hx => (nomatch hx), I.ok.hd, I.ok.frames, .inl rfl, fun b hb => ⟨?_, fun x c e => ?_⟩, I.bs, Nat.le_trans I.ok.bsz I.sz, fun b o e hb => ?_, fun b hb hs => ?_, I.stack, I.stkFree⟩
  . have hx' : ∃ k', (scope.names.map fun (n, k) => if (k == NameKind.free && X.env.scope.kind == .function && X.env.kindOf n == some .cell) then (n, NameKind.cell) else (n, k)).lookup x = some k' /\ (k' = .cell \/ k' = .free) := by
     rcases hx with e | e
     . exact ⟨_, e, .inl rfl⟩
     . exact ⟨_, e, .inr rfl⟩
    obtain ⟨k', e, hk'⟩ := hx'
    obtain ⟨k, hm, q⟩ := unlook_relabel e
    have hfree : k = .free := by
     rcases q with q | q
     . subst q
       rcases hk' with z | z
       . exact absurd z (B.nocell _ hm)
       . exact z
     . exact q
    subst hfree
    exact clOf_has hm
  . exact Nat.ne_of_lt (Nat.lt_succ_of_lt (ho b hb))
  . exact (hf b hb).2.2.2.2.1 x c (sub x c e)
  . rcases (hf b hb).2.2.2.1 with z | z
    . exact I.ok.noex b o e z
    . exact absurd (Nat.lt_of_lt_of_le (lt_size e) (Nat.le_trans I.ok.bsz z)) (Nat.lt_irrefl _)
  . rcases mem_cons.mp (I.stkSub b hs) with z | z
    . exact (hf b hb).2.1 z
    . exact (hf b hb).2.2.1 z
 refine ⟨ok', rfl, I.bare, Un.laid hk (Nat.le_refl _) fresh, ⟨_, hn, fun i x v e1 e2 e3 => ?_⟩, fun x c e => ?_, ?_, fun x c e => ?_, fun p hp => absurd (show p ∈ ([] : List (Addr × Obj)) from hp) (by simp), I.hok.laid hk (Nat.le_refl _) ⟨Nat.zero_le _, [], 0, .nil, hl⟩, ?_⟩
 . have e1 : (own ++ caps)[i]? = some x := e1
   have hi : ¬ i < own.length := fun hi => by
    rw [getElem?_append_left (by simpa using hi), getElem?_map] at e2
    cases q : own[i]? with
    | none => rw [q] at e2; cases e2
    | some y => rw [q] at e2; cases e2
   rw [getElem?_append_right (by simpa using hi)] at e2
   rw [getElem?_append_right (by simpa using hi)] at e1
   rw [length_map] at e2
   unfold capsOf at e2
   rw [getElem?_map] at e2
   cases q : js[i - own.length]? with
   | none => rw [q] at e2; cases e2
   | some j =>
    rw [q] at e2
    have e2 : (σ[j]?).join = some v := by simpa using e2
    have e2' : σ[j]? = some (some v) := by
     cases z : σ[j]? with
     | none => rw [z] at e2; cases e2
     | some w => rw [z] at e2; simpa using e2
    obtain ⟨c1, c2⟩ := B.capO.at _ x j e1 q
    obtain ⟨m, _, hl'⟩ := I.loc
    obtain ⟨u, r, lk⟩ := hl' j x v c1 e2' (c2.elim (fun z => .inr (.inl z)) fun z => .inr (.inr z))
    refine ⟨u, r, ?_⟩
    rcases lk with ⟨z, _⟩ | ⟨_, c, ec, cell⟩
    . have z : X.env.scope.names.lookup x = some .local := z
      rcases c2 with c2 | c2 <;> (rw [c2] at z; cases z)
    . have hfr := B.capf x (mem_of_getElem? e1)
      obtain ⟨k', ek, pk⟩ := lookup_relabel (env := X.env) (P := fun k => k = .cell \/ k = .free) (fun _ => .inl rfl) hfr.2 (.inr rfl)
      refine .inr ⟨?_, c, ?_, ?_⟩
      . rcases pk with rfl | rfl
        . exact .inl ek
        . exact .inr ek
      . obtain ⟨c', e'⟩ := clOf_has (cells := X.env.cells) (acc := []) hfr.1
        have := sub x c' e'
        rw [ec] at this
        cases this
        exact e'
      . obtain ⟨oo, ho', hd'⟩ := cell
        exact ⟨oo, hk _ _ ho', hd'⟩
 . obtain ⟨v, oo, ho', hd'⟩ := I.cell x c (sub x c e)
   exact ⟨v, oo, hk _ _ ho', hd'⟩
 . show (upd H s.heap.objs.size (.lst [])) (s.heap.objs.size + 1) = none
   rw [upd_ne (Nat.succ_ne_self _)]; exact freshC
 . obtain ⟨v, oo, ho', hd'⟩ := I.cell x c (sub x c e)
   rw [upd_ne (Nat.ne_of_lt (lt_size ho'))]
   exact I.freeC x c (sub x c e)
 . show _ = (own ++ caps).length
   unfold capsOf
   rw [List.length_append, List.length_append, length_map, length_map, B.capO.len]
theorem inv_back {C : Addr} {σ' : St} {pl : List (Addr × Obj)} {s' : Shared} {h' : Heap} (I : Inv X pins σ H s) (hf : ∀ b ∈ fp, FpOk X pins H b) (I' : Inv (blk X (own ++ caps) scope C s H fp) pl σ' H' s') (hC : s.heap.objs.size <= C) (hs : Heap.SameBut C s'.heap h') :
 Inv X pins σ H' { s' with heap := h' } := by
 have neC : ∀ b o, s.heap.get? b = some o -> b ≠ C := fun b o e => Nat.ne_of_lt (Nat.lt_of_lt_of_le (lt_size e) hC)
 have freeC : H' C = none := I'.free
 have b' : Un (frs X.stack) fp H H' s.heap s'.heap := I'.base
 refine I.call' (s' := { s' with heap := h' }) (ch := fp) I'.os ⟨fun b o e n hb hx => (hs.2 b (neC b o e)).trans (b'.keep b o e n hb hx), fun b o e n hb hx => ?_, b'.free, fun b o e hx => ?_, b'.tups, b'.frzs, b'.tbls⟩ (fun b ob e => ?_) I'.bare fun b hb => ?_
 . obtain ⟨sl, e1⟩ := b'.slot b o e n hb hx
   exact ⟨sl, (hs.2 b (neC b o e)).trans e1⟩
 . obtain ⟨o', e1⟩ := b'.there b o e hx
   exact ⟨o', (hs.2 b (neC b o e)).trans e1⟩
 . refine (I'.hok b ob e).stay (fun c w' hc q => (hs.2 c ?_).trans q) (fun _ q => q) fun _ _ q => q
   rintro rfl
   rcases hc with rfl | hc
   . rw [freeC] at e; cases e
   . rw [freeC] at hc; cases hc
 . exact ⟨(hf b hb).2.2.2.1, (hf b hb).2.1, (hf b hb).2.2.2.2.1, (hf b hb).2.2.2.2.2⟩
end
theorem sure {α : Type} {M : Model} {A : Around} {m : Sem α} {P Q : α -> Shared -> Prop} {E : Value -> Shared -> Prop} {s : Shared} (h : wpAny M A m P (fun _ _ => False) s) (k : ∀ a s, P a s -> Q a s) : wpAny M A m Q E s := wpAny_mono h k fun _ _ f => f.elim
def PTs (X : Cx) (ifs : List Expr) (t : TT) : Prop := ∀ (pins : List (Addr × Obj)) (s : Shared) (σ : St) (H : Hp) (Q : Bool -> Hp -> Prop), Inv X pins σ H s -> t σ H Q ->
 wpAny (model X.prog X.w) X.A (forIn ifs true fun c r => if r = true then do let ok <- isTrue c X.env (eval c X.env); pure (ForInStep.yield ok) else pure (ForInStep.yield r)) (TP X pins σ Q) X.xe s
theorem pts_nil {X : Cx} : PTs X [] (fun _ H Q => Q true H) := fun pins s σ H Q I h => wpAny_tests_nil ⟨H, I, h⟩
theorem pts_one {X : Cx} {c : Expr} {t : TT} (h : PT X c t) : PTs X [c] t := fun pins s σ H Q I q => wpAny_tests_one (h pins s σ H Q I q)
def tComp (wi : TI) (n : Nat) (js : List Nat) (g : TG) (tc : Nat -> TT) (te : Nat -> TE) : TE := fun σ H Q => wi σ H fun J H1 => ∀ l, H1 l = none ->
 ∃ W : Nat -> Nat -> List V -> Hp -> Prop, (∃ m, W 0 m [] (upd H1 l (.lst []))) /\ ∀ i m xs H ow, ow.length = n -> W i m xs H -> H l = some (.lst xs) /\
  ((J.stop i H /\ Q (.ref l) H) \/ (J.go i H /\ ∀ x H', J.yld i H x H' -> g x (ow ++ capsOf js σ) H' fun σ2 H2 => (∃ ow', ow'.length = n /\ σ2 = ow' ++ capsOf js σ) /\
   tc i σ2 H2 fun b H3 => if b = true then te i σ2 H3 fun y H4 => H4 l = some (.lst xs) /\ xs.length < sizeLine /\ ∃ m', m' < m /\ W (i + 1) m' (xs ++ [y]) (upd H4 l (.lst (xs ++ [y])))
    else ∃ m', m' < m /\ W (i + 1) m' xs H3))
def CompEnd (X : Cx) (pins : List (Addr × Obj)) (σ : St) (Q : VK) (acc : Value) (C : Addr) (s' : Shared) : Prop :=
 ∃ v H', Inv X pins σ H' s' /\ RelV v acc /\ Q v H' /\ (∃ m, s'.heap.Ns C m) /\ FpOk X pins H' C
theorem comp_core {X : Cx} {elt tg iter : Expr} {ifs : List Expr} {scope : Scope} {pos : Pos} {own caps : List Str} {js : List Nat} {g : TG} {tc : Nat -> TT} {te : Nat -> TE} (hc : X.calm = true) (B : BlkScope X scope own caps js)
 (hg : ∀ C s H fp, PG (blk X (own ++ caps) scope C s H fp) tg g) (ht : ∀ C s H fp i, PTs (blk X (own ++ caps) scope C s H fp) ifs (tc i)) (he : ∀ C s H fp i, PE (blk X (own ++ caps) scope C s H fp) elt (te i))
 {pins : List (Addr × Obj)} {σ : St} {Q : VK} {itv : Value} {s2 : Shared} {RR : Value -> Addr -> Result -> Shared -> Prop} (hRR : ∀ acc C s', CompEnd X pins σ Q acc C s' -> RR acc C (.ok .next) s')
 (h2 : PIE X pins σ tg (fun J H1 => ∀ l, H1 l = none ->
  ∃ W : Nat -> Nat -> List V -> Hp -> Prop, (∃ m, W 0 m [] (upd H1 l (.lst []))) /\ ∀ i m xs H ow, ow.length = own.length -> W i m xs H -> H l = some (.lst xs) /\
   ((J.stop i H /\ Q (.ref l) H) \/ (J.go i H /\ ∀ x H', J.yld i H x H' -> g x (ow ++ capsOf js σ) H' fun σ2 H2 => (∃ ow', ow'.length = own.length /\ σ2 = ow' ++ capsOf js σ) /\
    tc i σ2 H2 fun b H3 => if b = true then te i σ2 H3 fun y H4 => H4 l = some (.lst xs) /\ xs.length < sizeLine /\ ∃ m', m' < m /\ W (i + 1) m' (xs ++ [y]) (upd H4 l (.lst (xs ++ [y])))
     else ∃ m', m' < m /\ W (i + 1) m' xs H3))) itv s2) :
 wpAny (model X.prog X.w) X.A (newList []) (fun acc s₃ => wpAny (model X.prog X.w) X.A (newFunctionEnv scope X.env.globals (clOf X.env.cells scope.names []) [] X.env.qual none .none (some X.env)) (fun cenv s₄ =>
  codeAny (model X.prog X.w) X.A (.compStart (.ListComp elt [⟨tg, iter, ifs, 0⟩] scope pos) 0 itv acc { cenv with scope := relabel scope X.env }) (RR acc cenv.locals) s₄) X.xe s₃) X.xe s2 := by
 obtain ⟨it, fp, tn, J, H2, e, I2, TT, st2, f2, q⟩ := h2
 subst e
 have fresh : H2 s2.heap.objs.size = none := I2.hok.fresh (Nat.le_refl _)
 obtain ⟨W, ⟨m0, w0⟩, turn⟩ := q s2.heap.objs.size fresh
 have hlt : ∀ b ∈ fp, b < s2.heap.objs.size := fun b hb => let ⟨o, e, _⟩ := TT.obj _ _ st2 b hb; lt_size e
 refine wpAny_newObj_type (wpAny_newFunctionEnv B.nocell (by intro y hy; simp at hy) (fun h₁ hns₁ hsb₁ => ?_) B.kind)
 dsimp only at hns₁ hsb₁ ⊢
 generalize hH2 : s2.heap.push { cls := .type "list", dict := none, data := .seq ([] : List Value).toArray } = H3 at hns₁ hsb₁ ⊢
 have hC : H3.objs.size = s2.heap.objs.size + 1 := by rw [<- hH2, Heap.size_push]
 have old : ∀ b o, s2.heap.get? b = some o -> h₁.get? b = some o := fun b o e => hsb₁.extBut b o (by rw [hC]; exact Nat.ne_of_lt (Nat.lt_succ_of_lt (lt_size e))) (get?_push_of_some _ (hH2 ▸ get?_push_of_some _ e))
 have hacc : h₁.get? s2.heap.objs.size = some { cls := .type "list", data := .seq ([] : List Value).toArray 0 } :=
  hsb₁.extBut _ _ (by rw [hC]; exact Nat.ne_of_lt (Nat.lt_succ_self _)) (get?_push_of_some _ (hH2 ▸ get?_push_size _ rfl))
 have hns : h₁.Ns (s2.heap.objs.size + 1) (fun _ => none) := by rw [<- hC]; exact hns₁
 have I4 : ∀ tk, Inv (blk X (own ++ caps) scope (s2.heap.objs.size + 1) s2 H2 fp) [] (own.map (fun _ => none) ++ capsOf js σ) (upd H2 s2.heap.objs.size (.lst [])) { s2 with heap := h₁, toks := tk } := fun tk => inv_blk B I2 f2 hlt hns old hacc
 rw [hC]
 -- what stays of the iterator
 have stat : ∀ {H' : Hp}, (∀ b ∈ fp, H' b = none) -> ∀ b ∈ fp, FpOk (blk X (own ++ caps) scope (s2.heap.objs.size + 1) s2 H2 fp) [] H' b := fun {H'} hn b hb => by
  have F := (I4 0).ok
  exact ⟨hn b hb, (F.exf b hb).1, F.exfs b hb, .inl hb, (F.exf b hb).2, fun p hp => absurd (show p ∈ ([] : List (Addr × Obj)) from hp) (by simp)⟩
 have loop : ∀ s3 : Shared, s3 = { s2 with heap := h₁, toks := s2.toks + ([] : List (Str × Value)).length } ->
  codeAny (model X.prog X.w) X.A (.compLoop (.ListComp elt [⟨tg, iter, ifs, 0⟩] scope pos) 0 (.ref it) (.ref s2.heap.objs.size) (compEnvC scope (clOf X.env.cells scope.names []) (s2.heap.objs.size + 1) X.env))
   (RR (.ref s2.heap.objs.size) (s2.heap.objs.size + 1)) s3 := by
  rintro s3 rfl
  refine codeAny_loop rfl (fun n s' => ∃ i xs ow H', ow.length = own.length /\ Inv (blk X (own ++ caps) scope (s2.heap.objs.size + 1) s2 H2 fp) [] (ow ++ capsOf js σ) H' s' /\ tn i s'.heap /\ (∀ b ∈ fp, H' b = none) /\ W i n xs H') ?_ m0
   ⟨0, [], own.map (fun _ => none), _, by simp, I4 _, TT.keep _ _ _ st2 fun b _ o e => old b o e, fun b hb => by rw [upd_ne (Nat.ne_of_lt (hlt b hb))]; exact (f2 b hb).1, w0⟩
  rintro n s4 ⟨i, xs, ow, H4, how, I5, st4, fr4, w4⟩
  obtain ⟨hl4, q4⟩ := turn i n xs H4 ow how w4
  refine wpAny_noted ?_
  refine cast (congrArg (fun m => wpAny (model X.prog X.w) X.A m _ _ s4) (compTurn_list _ _ _ _ _ _ _ _ _).symm) ?_
  refine wpAny_bind (wpAny_standAt (wpAny_bind ?_))
  rcases q4 with ⟨stop, qn⟩ | ⟨go, step⟩
  . refine sure (TT.done (blk X (own ++ caps) scope (s2.heap.objs.size + 1) s2 H2 fp) rfl rfl rfl hc i [] s4 _ H4 _ I5 (stat fr4) st4 stop) fun r s6 ⟨hr, I6⟩ => ?_
    subst hr
    obtain ⟨m, hm, _⟩ := I6.loc
    refine wpAny_pure (hRR _ _ _ ⟨.ref s2.heap.objs.size, H4, inv_back I2 f2 I6 (Nat.le_succ _) (Heap.SameBut.refl ..), rfl, qn, ⟨m, hm⟩, I2.fpOk (Nat.le_succ _) I6.free⟩)
  . refine sure (TT.item (blk X (own ++ caps) scope (s2.heap.objs.size + 1) s2 H2 fp) rfl rfl rfl hc i [] s4 _ H4 (fun _ _ => False) I5 (stat fr4) st4 go) fun r s6 ⟨u, hr, h6⟩ => ?_
    subst hr
    refine wpAny_bind (sure h6 fun _ s7 ⟨x, H7, I7, r7, y7, st7, fr7⟩ => ?_)
    have I7' := I7.pinned (stat fr7) (TT.obj _ _ st7)
    refine wpAny_bind (sure (hg _ _ _ _ _ s7 _ H7 x u _ I7' r7 (step x H7 y7)) fun _ s8 ⟨σ8, H8, I8, ⟨ow', how', eσ⟩, q8⟩ => ?_)
    subst eσ
    refine wpAny_bind (sure (ht _ _ _ _ i _ s8 _ H8 _ I8 q8) fun b s9 ⟨H9, I9, q9⟩ => ?_)
    have again : ∀ {H10 : Hp} {s10 : Shared}, Inv (blk X (own ++ caps) scope (s2.heap.objs.size + 1) s2 H2 fp) ([] ++ pinsAt fp s7.heap) (ow' ++ capsOf js σ) H10 s10 -> tn (i + 1) s10.heap /\ ∀ b ∈ fp, H10 b = none := fun {H10 s10} I10 => by
     refine ⟨TT.keep _ _ _ st7 fun b hb o e => (I10.pin (b, o) (mem_append_right _ (mem_append_right _ (mem_pinsAt hb e)))).1, fun b hb => ?_⟩
     obtain ⟨o, e, d⟩ := TT.obj _ _ st7 b hb
     exact (I10.pin (b, o) (mem_append_right _ (mem_append_right _ (mem_pinsAt hb e)))).2.1
    cases b with
    | false =>
     rw [if_neg Bool.false_ne_true] at q9
     obtain ⟨m', hm, w9⟩ := q9
     exact wpAny_pure ⟨rfl, m', hm, i + 1, xs, ow', H9, how', I9.unpinned, (again I9).1, (again I9).2, w9⟩
    | true =>
     rw [if_pos rfl] at q9
     refine wpAny_bind (wpAny_bind (sure (he _ _ _ _ i _ s9 _ H9 _ I9 q9) fun y s10 ⟨z, H10, I10, r10, hl10, hz, m', hm, w10⟩ => wpAny_bind ?_))
     refine sure (mt_append _ s10 _ H10 (.ref s2.heap.objs.size) [z] (.ref s2.heap.objs.size) [y] (fun _ H' => H' = upd H10 s2.heap.objs.size (.lst (xs ++ [z]))) I10 rfl (.cons r10 .nil) ⟨_, xs, z, rfl, rfl, hl10, hz, rfl⟩) fun _ s11 ⟨_, H11, I11, _, e11⟩ => ?_
     subst e11
     exact wpAny_pure (wpAny_pure ⟨rfl, m', hm, i + 1, xs ++ [z], ow', _, how', I11.unpinned, (again I11).1, (again I11).2, w10⟩)
 exact codeAny_compStart_list (loop _ rfl) (TT.self _ 0 _ _ _ (TT.keep _ _ _ st2 fun b _ o e => old b o e) (loop _ rfl))
theorem away {X : Cx} {pins : List (Addr × Obj)} {σ : St} {H : Hp} {s : Shared} {C : Addr} {h' : Heap} (I : Inv X pins σ H s) (f : FpOk X pins H C) (hs : Heap.SameBut C s.heap h') : Inv X pins σ H { s with heap := h' } :=
 I.turned (t' := s.toks) (fun b o hb e => (hs.2 b hb).trans e) f.1 f.2.1 f.2.2.2.1 f.2.2.2.2.1 f.2.2.2.2.2
theorem pe_comp {X : Cx} {elt tg iter : Expr} {ifs : List Expr} {scope : Scope} {pos : Pos} {wi : TI} {own caps : List Str} {js : List Nat} {g : TG} {tc : Nat -> TT} {te : Nat -> TE} (hc : X.calm = true) (B : BlkScope X scope own caps js) (hi : PI X tg iter wi)
 (hg : ∀ C s H fp, PG (blk X (own ++ caps) scope C s H fp) tg g) (ht : ∀ C s H fp i, PTs (blk X (own ++ caps) scope C s H fp) ifs (tc i)) (he : ∀ C s H fp i, PE (blk X (own ++ caps) scope C s H fp) elt (te i))
 (hs : ∀ x, foldedSetIterable iter X.env x = pure x := by intro _; rfl) : PE X (.ListComp elt [⟨tg, iter, ifs, 0⟩] scope pos) (tComp wi own.length js g tc te) := by
 intro pins s σ H Q I h
 rw [eval_ListComp]
 refine wpAny_comprehension_free (use := none) rfl hs (closure_of (B.cells I.ok)) B.kind B.names (thn (hi pins s σ H _ I h) fun v s1 h1 => thn h1 fun itv s2 h2 => ?_)
 refine comp_core (RR := fun acc C => compPost (model X.prog X.w) X.A X.xe none (EP X pins σ Q) acc C) hc B hg ht he (fun acc C s' ⟨v, H', I', r, q, ⟨m, hm⟩, f⟩ => ?_) h2
 exact ⟨m, hm, fun h' hs' => ⟨v, H', away I' f hs', r, q⟩⟩
theorem ps_comp {X : Cx} {elt tg iter : Expr} {ifs : List Expr} {scope : Scope} {pos spos py : Pos} {wi : TI} {own caps : List Str} {js : List Nat} {g : TG} {tc : Nat -> TT} {te : Nat -> TE} {y : Str} {k : Nat} (hN : X.N.Nodup) (hk : X.N[k]? = some y) (hy : Loc X.env.scope y)
 (hc : X.calm = true) (B : BlkScope X scope own caps js) (hi : PI X tg iter wi)
 (hg : ∀ C s H fp, PG (blk X (own ++ caps) scope C s H fp) tg g) (ht : ∀ C s H fp i, PTs (blk X (own ++ caps) scope C s H fp) ifs (tc i)) (he : ∀ C s H fp i, PE (blk X (own ++ caps) scope C s H fp) elt (te i))
 (hsw : swapsWith (.ListComp elt [⟨tg, iter, ifs, 0⟩] scope pos) (some (.Name y py)) spos.line X.env = pure true) (hf : X.fn y = true \/ X.env.scope.names.lookup y = some .local)
 (hs : ∀ x, foldedSetIterable iter X.env x = pure x := by intro _; rfl) : PS X (.Assign [.Name y py] (.ListComp elt [⟨tg, iter, ifs, 0⟩] scope pos) spos) (tAsg (tComp wi own.length js g tc te) (gName k)) := by
 intro pins s σ H D I h
 rw [exec_Assign_Name_used _ _ _ _ hsw]
 refine wpAny_bind (wpAny_standAt (wpAny_bind ?_))
 show wpAny _ X.A (do let _ <- comprehension (.ListComp elt [⟨tg, iter, ifs, 0⟩] scope pos) scope X.env _ (newList []) false (eval iter X.env) (some (assign (.Name y py) X.env))) _ _ s
 refine wpAny_bind (wpAny_mono (wpAny_comprehension_free (use := some (assign (.Name y py) X.env)) (Q := fun _ s' => SP X pins D .next s') rfl hs (closure_of (B.cells I.ok)) B.kind B.names
  (thn (hi pins s σ H _ I h) fun v s1 h1 => thn h1 fun itv s2 h2 => ?_)) (fun _ s' hq => wpAny_pure (wpAny_pure hq)) fun _ _ e => e)
 refine comp_core (RR := fun acc C => compPost (model X.prog X.w) X.A X.xe (some (assign (.Name y py) X.env)) (fun _ s' => SP X pins D .next s') acc C) (pins := pins) (σ := σ) (Q := fun v H' => D.nx (σ.set k (some v)) H') hc B hg ht he (fun acc C s' ⟨v, H', I', r, q, ⟨m, hm⟩, f⟩ => ?_) h2
 show wpAny _ X.A (assign (.Name y py) X.env acc) _ _ _
 refine wpAny_assign_Name (store_ok2 I' hN hk hy r (fun s'' I'' ⟨a, sb, ha⟩ => ?_) hf)
 have hCa : C ≠ a := by
  rcases ha with rfl | ha
  . exact f.2.1
  . exact fun z => f.2.2.2.2.1 y a ha z.symm
 exact ⟨m, hm.sameBut sb hCa, fun h' hs' => ⟨_, H', away I'' f hs', q⟩⟩
structure Yields (K : Frag) (J : It) (vs : List V) (srcs ds : List D) : Prop where
 go : ∀ (Z : Zone) H, Z.Open H -> Ins K H Z srcs vs -> ∀ (i : Nat) d, ds[i]? = some d -> J.go i H /\ ∀ x H2, J.yld i H x H2 -> Same H H2 /\ In K H2 Z d x
 stop : ∀ (Z : Zone) H, Z.Open H -> Ins K H Z srcs vs -> J.stop ds.length H
def tIT (K : Frag) (m : Bool) (ρ : List (Option D)) (ds : List D) : TI := fun σ H R => ∃ Z : Zone, Z.Open H /\ EnvIn K H Z σ ρ /\
 ∀ J H' vs srcs, Same H H' -> Ins K H' (out m Z H) srcs vs -> Yields K J vs srcs ds -> R J H'
def IT (X : Cx) (tg : Expr) (m : Bool) (ρ : List (Option D)) (iter : Expr) (ds : List D) : Prop := PI X tg iter (tIT X.K m ρ ds)
theorem PI.mono {X : Cx} {tg iter : Expr} {t t' : TI} (h : PI X tg iter t) (k : ∀ σ H R, t' σ H R -> t σ H R) : PI X tg iter t' := fun pins s σ H R I q => h pins s σ H R I (k σ H R q)
section
variable {X : Cx} {ρ : List (Option D)} {m m1 m2 : Bool} {tg e a b : Expr} {ds : List D} {d : D} {pos p : Pos}
theorem it_list (h : E X m ρ e (.lst ds)) : IT X tg m ρ e ds := PI.mono (pi_list h) fun σ H R z0 => el13 z0 fun Z oz en k => ⟨Z, oz, en, fun v H1 s1 i1 => by
 obtain ⟨a, xs, rfl, l, j⟩ := in_lst.mp i1
 refine ⟨a, rfl, ⟨xs, l.sq⟩, k _ H1 [.ref a] [.lst ds] s1 (Ins.one i1) ⟨fun Z2 H2 o2 j2 i d e => ?_, fun Z2 H2 o2 j2 => ?_⟩⟩
 . obtain ⟨w, r, e1, j3, j4⟩ := ins_cons.mp j2
   cases e1
   obtain ⟨a', ys, e2, l2, j5⟩ := in_lst.mp j3
   cases e2
   obtain ⟨v, e3, iv⟩ := j5.get e
   refine ⟨⟨ys, v, l2.sq, e3⟩, fun x H3 ⟨e4, y⟩ => ?_⟩
   subst e4
   have := y ys l2.sq
   rw [e3] at this
   cases this
   exact ⟨Same.refl _, iv⟩
 . obtain ⟨w, r, e1, j3, j4⟩ := ins_cons.mp j2
   cases e1
   obtain ⟨a', ys, e2, l2, j5⟩ := in_lst.mp j3
   cases e2
   exact ⟨ys, l2.sq, Nat.le_of_eq j5.length.symm⟩⟩
def rangeD (lo : Int) (n : Nat) : List D := (List.range n).map fun i => D.int (lo + (i : Nat))
theorem rangeD_get {lo : Int} {n i : Nat} {d : D} (h : (rangeD lo n)[i]? = some d) : i < n /\ d = .int (lo + i) := by
 unfold rangeD at h
 rw [getElem?_map] at h
 by_cases hi : i < n
 . rw [List.getElem?_range hi] at h
   exact ⟨hi, by simpa using h.symm⟩
 . rw [List.getElem?_eq_none (by simpa using hi)] at h
   cases h
theorem rangeD_len {lo : Int} {n : Nat} : (rangeD lo n).length = n := by simp [rangeD]
theorem yields_range {K : Frag} (lo : Int) (n : Nat) : Yields K (Itr lo n) [] [] (rangeD lo n) :=
 ⟨fun Z H _ _ i d e => by
  obtain ⟨hi, rfl⟩ := rangeD_get e
  refine ⟨hi, fun x H2 ⟨e1, e2⟩ => ?_⟩
  subst e1 e2
  exact ⟨Same.refl _, in_int.mpr rfl⟩, fun Z H _ _ => by rw [rangeD_len]; exact Nat.le_refl n⟩
theorem it_range {n : Int} (h : E X m1 ρ a (.int n)) (hn : n < 2 ^ 62) (hn2 : -(2 ^ 62) <= n) (hm : X.mg "range" = none) (hg : Gl X "range" := by rfl) (hs : starEach [a] X.env = [(false, eval a X.env)] := by rfl) :
 IT X tg m ρ (.Call (.Name "range" p) [a] [] pos) (rangeD 0 n.toNat) :=
 PI.mono (pi_range1 hg hm (pa_cons h pa_nil (by rw [hs]; rfl)) hs) fun σ H R z0 => el13 z0 fun Z oz en k => ⟨Z, oz, en, fun v H1 s1 i1 => ⟨n, by rw [in_int.mp (i1.plain oz)], hn2, hn, k _ H1 [] [] s1 (ins_nil.mpr rfl) (yields_range 0 n.toNat)⟩⟩
def Its (z : Str) : It := ⟨fun i _ => i < z.cps.size, fun i H x H' => H' = H /\ ∃ c, z.cps[i]? = some c /\ x = .str ⟨#[c]⟩, fun i _ => z.cps.size <= i⟩
theorem turn_ascii {P : Program} {w : World} {K : Frag} {tg : Expr} (it : Addr) (z : Str) (t : Tok) : Turn P w K tg (Its z) [it] it (fun i h => h.IsStrIter it "str_ascii_iterator" z t i) where
 mem := by simp
 obj := fun i h st b hb => by
  have e : b = it := by simpa using hb
  subst e
  obtain ⟨o, e, c, d⟩ := st
  exact ⟨o, e, fun v z => by rw [d] at z; cases z⟩
 keep := fun i h h' st k => let ⟨o, ho, r⟩ := st; ⟨o, k it (by simp) o ho, r⟩
 item := by
  intro X hP hw hK hc i pins s σ H E I hf st hg
  subst hP hw hK
  obtain ⟨f0, f1, f2, f3, f4, f5⟩ := hf it (by simp)
  have hg : i < z.cps.size := hg
  refine wpAny_pyNext_ascii_item st (c := z.cps[i]) (by simp [hg]) fun h' st' sb => ?_
  have I1 : Inv X pins σ H { s with heap := h', toks := s.toks + 1 } := I.turned (t' := s.toks + 1) (fun b o hb e => (sb.2 b hb).trans e) f0 f1 f3 f4 f5
  obtain ⟨o, e, c, d⟩ := id st'
  exact ⟨_, rfl, go_of (s := { s with heap := h', toks := s.toks + 1 }) e c d (by decide) ⟨.str ⟨#[z.cps[i]]⟩, H, I1, ⟨_, rfl⟩, ⟨rfl, z.cps[i], by simp [hg], rfl⟩, st', fun b hb => (hf b hb).1⟩⟩
 done := by
  intro X hP hw hK hc i pins s σ H E I hf st hg
  subst hP hw hK
  obtain ⟨f0, f1, f2, f3, f4, f5⟩ := hf it (by simp)
  have hg : z.cps.size <= i := hg
  exact wpAny_pyNext_ascii_end (I.ok.hd hc) st (by simp [hg]) fun h' eb => ⟨rfl, I.turned (t' := s.toks) (fun b o hb e => eb b o hb e) f0 f1 f3 f4 f5⟩
 self := fun _ _ _ _ _ st h => wpAny_pyIter_striter_ascii st h
theorem turn_wide {P : Program} {w : World} {K : Frag} {tg : Expr} (it : Addr) (z : Str) (t : Tok) : Turn P w K tg (Its z) [it] it (fun i h => h.IsStrIter it "str_iterator" z t i) where
 mem := by simp
 obj := fun i h st b hb => by
  have e : b = it := by simpa using hb
  subst e
  obtain ⟨o, e, c, d⟩ := st
  exact ⟨o, e, fun v z => by rw [d] at z; cases z⟩
 keep := fun i h h' st k => let ⟨o, ho, r⟩ := st; ⟨o, k it (by simp) o ho, r⟩
 item := by
  intro X hP hw hK hc i pins s σ H E I hf st hg
  subst hP hw hK
  obtain ⟨f0, f1, f2, f3, f4, f5⟩ := hf it (by simp)
  have hg : i < z.cps.size := hg
  refine wpAny_pyNext_wide_item st (c := z.cps[i]) (by simp [hg]) fun h' st' sb => ?_
  have I1 : Inv X pins σ H { s with heap := h', toks := s.toks + 1 } := I.turned (t' := s.toks + 1) (fun b o hb e => (sb.2 b hb).trans e) f0 f1 f3 f4 f5
  obtain ⟨o, e, c, d⟩ := id st'
  exact ⟨_, rfl, go_of (s := { s with heap := h', toks := s.toks + 1 }) e c d (by decide) ⟨.str ⟨#[z.cps[i]]⟩, H, I1, ⟨_, rfl⟩, ⟨rfl, z.cps[i], by simp [hg], rfl⟩, st', fun b hb => (hf b hb).1⟩⟩
 done := by
  intro X hP hw hK hc i pins s σ H E I hf st hg
  subst hP hw hK
  obtain ⟨f0, f1, f2, f3, f4, f5⟩ := hf it (by simp)
  have hg : z.cps.size <= i := hg
  exact wpAny_pyNext_wide_end (I.ok.hd hc) st (by simp [hg]) fun h' eb => ⟨rfl, I.turned (t' := s.toks) (fun b o hb e => eb b o hb e) f0 f1 f3 f4 f5⟩
 self := fun _ _ _ _ _ st h => wpAny_pyIter_striter_wide st h
def iStr (tl : TE) : TI := fun σ H R => tl σ H fun x H1 => ∃ z, x = .str z /\ R (Its z) H1
theorem pi_str {tl : TE} (hl : PE X e tl) : PI X tg e (iStr tl) := by
 intro pins s σ H R I h
 refine thn (hl pins s σ H _ I h) fun v s1 ⟨x, H1, I1, r1, q1⟩ => ?_
 obtain ⟨z, rfl, q⟩ := q1
 obtain ⟨t, rfl⟩ := r1
 have fp : ∀ b ∈ [s1.heap.objs.size], FpOk X pins H1 b := fun b hb => by
  have e : b = s1.heap.objs.size := by simpa using hb
  subst e
  exact I1.fpOk (Nat.le_refl _) (I1.hok.fresh (Nat.le_refl _))
 cases ha : z.cps.all (· < 128)
 . exact wpAny_pyIter_wide ha ⟨s1.heap.objs.size, [s1.heap.objs.size], _, _, H1, rfl, I1.kept (t' := s1.toks) fun b o e => get?_push_of_some _ e, turn_wide _ z t, ⟨_, get?_push_size _ rfl, rfl, rfl⟩, fp, q⟩
 . exact wpAny_pyIter_ascii ha ⟨s1.heap.objs.size, [s1.heap.objs.size], _, _, H1, rfl, I1.kept (t' := s1.toks) fun b o e => get?_push_of_some _ e, turn_ascii _ z t, ⟨_, get?_push_size _ rfl, rfl, rfl⟩, fp, q⟩
def signsD (z : Str) : List D := z.cps.toList.map fun c => D.str ⟨#[c]⟩
theorem it_str {z : Str} (h : E X m1 ρ e (.str z)) : IT X tg m ρ e (signsD z) := PI.mono (pi_str h) fun σ H R z0 => el13 z0 fun Z oz en k => ⟨Z, oz, en, fun v H1 s1 i1 => by
 refine ⟨z, in_str.mp (i1.plain oz), k _ H1 [] [] s1 (ins_nil.mpr rfl) ⟨fun Z2 H2 o2 j2 i d e => ?_, fun Z2 H2 o2 j2 => ?_⟩⟩
 . unfold signsD at e
   rw [getElem?_map] at e
   cases q : z.cps.toList[i]? with
   | none => rw [q] at e; cases e
   | some c =>
    rw [q] at e
    have e' : D.str ⟨#[c]⟩ = d := by simpa using e
    subst e'
    have hi : i < z.cps.size := by simpa using (List.getElem?_eq_some_iff.mp q).1
    refine ⟨hi, fun x H3 ⟨e1, c', e2, e3⟩ => ?_⟩
    subst e1 e3
    have : c' = c := by
     have q' : z.cps[i]? = some c := by simpa using q
     rw [q'] at e2
     exact (Option.some.inj e2).symm
    subst this
    exact ⟨Same.refl _, in_str.mpr rfl⟩
 . show z.cps.size <= (signsD z).length
   simp [signsD]⟩
def TS' (X : Cx) (ρ : List (Option D)) (ifs : List Expr) (b : Bool) : Prop := PTs X ifs (tB' X.K ρ b)
theorem ts_nil : TS' X ρ [] true := fun pins s σ H Q I z0 => el13 z0 fun Z oz en k => pts_nil pins s σ H Q I (k H (Same.refl H))
theorem ts_one {p : Bool} (h : T X ρ e p) : TS' X ρ [e] p := pts_one h
def capD (js : List Nat) (ρ : List (Option D)) : List (Option D) := js.map fun j => (ρ[j]?).join
theorem envIn_caps {K : Frag} {H : Hp} {Z : Zone} {σ : St} {js : List Nat} (en : EnvIn K H Z σ ρ) {ow : St} {ov : List (Option D)} (hl : ow.length = ov.length) (h : ∀ (i : Nat) d, ov[i]? = some (some d) -> ∃ v, ow[i]? = some (some v) /\ In K H Z d v) :
 EnvIn K H Z (ow ++ capsOf js σ) (ov ++ capD js ρ) := fun i d e => by
 by_cases hi : i < ov.length
 . rw [getElem?_append_left hi] at e
   rw [getElem?_append_left (by omega)]
   exact h i d e
 . rw [getElem?_append_right (by omega)] at e
   rw [getElem?_append_right (by omega), hl]
   unfold capD at e
   unfold capsOf
   rw [getElem?_map] at e ⊢
   cases q : js[i - ov.length]? with
   | none => rw [q] at e; cases e
   | some j =>
    rw [q] at e
    have e : (ρ[j]?).join = some d := by simpa using e
    have e' : ρ[j]? = some (some d) := by
     cases z : ρ[j]? with
     | none => rw [z] at e; cases e
     | some w => rw [z] at e; simpa using e
    obtain ⟨v, a, b⟩ := en j d e'
    exact ⟨v, by simp [a], b⟩
def tcD (K : Frag) (js : List Nat) (ρ : List (Option D)) (ds : List D) (p : D -> Bool) (i : Nat) : TT := fun σ H Q => ∃ d, ds[i]? = some d /\ tB' K ([some d] ++ capD js ρ) (p d) σ H Q
def teD (K : Frag) (js : List Nat) (ρ : List (Option D)) (ds : List D) (p : D -> Bool) (f : D -> D) (me : Bool) (i : Nat) : TE := fun σ H Q => ∃ d, ds[i]? = some d /\ p d = true /\ tE K me ([some d] ++ capD js ρ) (f d) σ H Q
theorem comp_reads {js : List Nat} {me : Bool} (p : D -> Bool) (f : D -> D) (hz : ds.length <= sizeLine) (hm : m = true -> me = true \/ ∀ d ∈ ds, (f d).flat = true) (σ : St) (H : Hp) (Q : VK) (h : tE X.K m ρ (.lst ((ds.filter p).map f)) σ H Q) :
 tComp (tIT X.K m1 ρ ds) 1 js (gName 0) (tcD X.K js ρ ds p) (teD X.K js ρ ds p f me) σ H Q := by
 obtain ⟨Z, oz, en, k⟩ := h
 refine ⟨Z, oz, en, fun J H1 vs srcs s1 i1 Y l hl => ?_⟩
 have hlH : H l = none := s1.free hl
 -- all zones without l
 have noL : ∀ {ds : List D} {vs : List V} {Z' : Zone} {Ha Hb : Hp}, Ha l = none -> Same Ha Hb -> Ins X.K Ha Z' ds vs -> Ins X.K Hb ⟨Z'.m, fun a => Z'.S a /\ a ≠ l⟩ ds vs := fun {ds vs Z' Ha Hb} ha sa h => Ins.carry (Z' := ⟨Z'.m, fun a => Z'.S a /\ a ≠ l⟩) (Carry.of sa (fun a zs e z => ⟨z, ne_of_none e ha⟩) fun m => m) h
 have noL1 : ∀ {d : D} {v : V} {Z' : Zone} {Ha Hb : Hp}, Ha l = none -> Same Ha Hb -> In X.K Ha Z' d v -> In X.K Hb ⟨Z'.m, fun a => Z'.S a /\ a ≠ l⟩ d v := fun {d v Z' Ha Hb} ha sa h => In.carry (Z' := ⟨Z'.m, fun a => Z'.S a /\ a ≠ l⟩) (Carry.of sa (fun a zs e z => ⟨z, ne_of_none e ha⟩) fun m => m) h
 refine ⟨fun i n xs H' => n = ds.length - i /\ i <= ds.length /\ Same H1 H' /\ H' l = some (.lst xs) /\ xs.length <= i /\ Ins X.K H' ⟨(out m Z H).m, fun a => (out m Z H).S a /\ a ≠ l⟩ (((ds.take i).filter p).map f) xs, ⟨ds.length, by simp, Nat.zero_le _, same_new hl, upd_same, Nat.zero_le _, by simp; exact ins_nil.mpr rfl⟩, ?_⟩
 rintro i n xs H' ow how ⟨rfl, hi', s1', hl', hxi, jx⟩
 refine ⟨hl', ?_⟩
 have srcsZ : Ins X.K H1 Z srcs vs := by
  cases m1
  . exact i1
  . exact i1.up oz
 let Zl : Zone := ⟨Z.m, fun a => Z.S a /\ a ≠ l⟩
 have opl : ∀ {Ha : Hp} {o : HO}, Same H Ha -> Ha l = some o -> Zl.Open Ha := fun sa e => ⟨fun a ha => ⟨oz.op a (sa.free ha), by rintro rfl; rw [e] at ha; cases ha⟩, sa.tabs oz.tb⟩
 by_cases hlt : i < ds.length
 . have hd : ds[i]? = some ds[i] := by simp [hlt]
   obtain ⟨go, yl⟩ := Y.go Zl H' (opl (s1.trans s1') hl') (noL hl s1' srcsZ) i ds[i] hd
   refine .inr ⟨go, fun y H2 hy => ?_⟩
   obtain ⟨s2, iy⟩ := yl y H2 hy
   have hl2 : H2 l = some (.lst xs) := s2.at hl'
   have sH2 : Same H H2 := (s1.trans s1').trans s2
   obtain ⟨w, rfl⟩ : ∃ w, ow = [w] := by
    match ow, how with
    | [w], _ => exact ⟨w, rfl⟩
   have en2 : EnvIn X.K H2 Zl ([some y] ++ capsOf js σ) ([some ds[i]] ++ capD js ρ) := envIn_caps (fun i d e => let ⟨v, a, b⟩ := en i d e; ⟨v, a, noL1 hlH sH2 b⟩) rfl fun i d e => by
    match i, e with
    | 0, e => cases e; exact ⟨y, rfl, iy⟩
   refine ⟨⟨[some y], rfl, rfl⟩, ds[i], hd, Zl, opl sH2 hl2, en2, fun H3 s3 => ?_⟩
   have hl3 : H3 l = some (.lst xs) := s3.at hl2
   have st : (ds.take (i + 1)).filter p = (ds.take i).filter p ++ (if p ds[i] then [ds[i]] else []) := take_succ_filter p ds i ds[i] hd
   cases hp : p ds[i] with
   | false =>
    refine iteF ?_
    refine ⟨ds.length - (i + 1), by omega, rfl, hlt, (s1'.trans s2).trans s3, hl3, by omega, ?_⟩
    rw [st, hp]
    simp only [Bool.false_eq_true, if_false, append_nil]
    exact jx.same (s2.trans s3)
   | true =>
    refine iteT ?_
    refine ⟨ds[i], hd, hp, Zl, opl (sH2.trans s3) hl3, en2.same s3, fun v H4 s4 iv => ?_⟩
    have hl4 : H4 l = some (.lst xs) := s4.at hl3
    refine ⟨hl4, by omega, ds.length - (i + 1), by omega, rfl, hlt, ((s1'.trans s2).trans (s3.trans s4)).write hl hl4, upd_same, by rw [List.length_append]; simp; omega, ?_⟩
    . rw [st, hp]
      simp only [if_true, map_append, map_cons, map_nil]
      have n : ¬ (⟨(out m Z H).m, fun a => (out m Z H).S a /\ a ≠ l⟩ : Zone).S l := fun z => z.2 rfl
      refine Ins.append ((jx.same (s2.trans (s3.trans s4))).carry (.write hl4 n)) (Ins.one ?_)
      refine In.carry (.write hl4 n) ?_
      cases m with
      | false => exact iv.plain (opl (sH2.trans s3) hl3)
      | true =>
       rcases hm rfl with h | h
       . subst h
         exact In.carry (Z := nw H3) (Z' := ⟨true, fun a => H a = none /\ a ≠ l⟩) ⟨fun a zs e z => ⟨e, (sH2.trans s3).free z, by rintro rfl; have z : H3 a = none := z; rw [hl3] at z; cases z⟩, fun m => nwF m, fun _ _ e => e⟩ iv
       . exact iv.flat' (h _ (getElem_mem hlt))
 . have e : i = ds.length := by omega
   subst e
   refine .inl ⟨Y.stop Zl H' (opl (s1.trans s1') hl') (noL hl s1' srcsZ), k (.ref l) H' (s1.trans s1') (in_lst.mpr ⟨l, xs, rfl, .inl ⟨hl', ?_⟩, ?_⟩)⟩
   . cases m
     . exact oz l hlH
     . exact hlH
   . rw [take_length] at jx
     exact Ins.carry (Z := ⟨(out m Z H).m, fun a => (out m Z H).S a /\ a ≠ l⟩) (Z' := out m Z H) (Carry.of (Same.refl H') (fun a zs e z => And.left z) fun m => m) jx
structure EC (X : Cx) (m : Bool) (ρ : List (Option D)) (e : Expr) (d : D) : Prop where
 val : E X m ρ e d
 s : ∀ (y : Str) (k : Nat) (spos py : Pos), X.N.Nodup -> X.N[k]? = some y -> Loc X.env.scope y -> swapsWith e (some (.Name y py)) spos.line X.env = pure true -> (X.fn y = true \/ X.env.scope.names.lookup y = some .local) -> PS X (.Assign [.Name y py] e spos) (tAsg (tE X.K m ρ d) (gName k))
theorem EC.cast {d' : D} (h : EC X m ρ e d) (q : d = d') : EC X m ρ e d' := q ▸ h
theorem PS.mono' {X : Cx} {st : Stmt} {t t' : TS} (h : PS X st t) (k : ∀ Q σ H, t' Q σ H -> t Q σ H) : PS X st t' := fun pins s σ H Q I q => h pins s σ H Q I (k Q σ H q)
theorem ec_comp {elt iter : Expr} {x : Str} {px : Pos} {ifs : List Expr} {scope : Scope} {me : Bool} (caps : List Str) (js : List Nat) (p : D -> Bool) (f : D -> D) (hi : IT X (.Name x px) m1 ρ iter ds)
 (ht : ∀ C s H fp d, d ∈ ds -> TS' (blk X ([x] ++ caps) scope C s H fp) ([some d] ++ capD js ρ) ifs (p d)) (he : ∀ C s H fp d, d ∈ ds -> p d = true -> E (blk X ([x] ++ caps) scope C s H fp) me ([some d] ++ capD js ρ) elt (f d))
 (hz : ds.length <= sizeLine) (hm : m = true -> me = true \/ ∀ d ∈ ds, (f d).flat = true := by intro h; first | exact .inl h | cases h) (hc : X.calm = true := by rfl)
 (B : BlkScope X scope [x] caps js := by exact ⟨rfl, by decide, by decide, by decide, by decide, by decide, by repeat (first | exact trivial | refine ⟨⟨rfl, by first | exact .inl rfl | exact .inr rfl⟩, ?_⟩), by decide⟩)
 (hs : ∀ x, foldedSetIterable iter X.env x = pure x := by intro _; rfl) : EC X m ρ (.ListComp elt [⟨.Name x px, iter, ifs, 0⟩] scope pos) (.lst ((ds.filter p).map f)) := by
 have hg : ∀ C s H fp, PG (blk X ([x] ++ caps) scope C s H fp) (.Name x px) (gName 0) := fun C s H fp => pg_name (i := 0) B.nd rfl (.inl (lookup_relabel_local (B.own x (by simp)))) (.inr (lookup_relabel_local (B.own x (by simp))))
 have ht' : ∀ C s H fp i, PTs (blk X ([x] ++ caps) scope C s H fp) ifs (tcD X.K js ρ ds p i) := fun C s H fp i pins s' σ H' Q I h => by
  obtain ⟨d, hd, h⟩ := h
  exact ht C s H fp d (mem_of_getElem? hd) pins s' σ H' Q I h
 have he' : ∀ C s H fp i, PE (blk X ([x] ++ caps) scope C s H fp) elt (teD X.K js ρ ds p f me i) := fun C s H fp i pins s' σ H' Q I h => by
  obtain ⟨d, hd, hp, h⟩ := h
  exact he C s H fp d (mem_of_getElem? hd) hp pins s' σ H' Q I h
 refine ⟨PE.mono (pe_comp (own := [x]) (caps := caps) hc B hi hg ht' he' hs) fun σ H Q h => comp_reads p f hz hm σ H Q h, fun y k spos py hN hk hy hsw hf => ?_⟩
 exact PS.mono' (ps_comp (own := [x]) (caps := caps) hN hk hy hc B hi hg ht' he' hsw hf hs) fun Q σ H h => comp_reads p f hz hm σ H _ h
theorem e_comp {elt iter : Expr} {x : Str} {px : Pos} {ifs : List Expr} {scope : Scope} {me : Bool} (caps : List Str) (js : List Nat) (p : D -> Bool) (f : D -> D) (hi : IT X (.Name x px) m1 ρ iter ds)
 (ht : ∀ C s H fp d, d ∈ ds -> TS' (blk X ([x] ++ caps) scope C s H fp) ([some d] ++ capD js ρ) ifs (p d)) (he : ∀ C s H fp d, d ∈ ds -> p d = true -> E (blk X ([x] ++ caps) scope C s H fp) me ([some d] ++ capD js ρ) elt (f d))
 (hz : ds.length <= sizeLine) (hm : m = true -> me = true \/ ∀ d ∈ ds, (f d).flat = true := by intro h; first | exact .inl h | cases h) (hc : X.calm = true := by rfl)
 (B : BlkScope X scope [x] caps js := by exact ⟨rfl, by decide, by decide, by decide, by decide, by decide, by repeat (first | exact trivial | refine ⟨⟨rfl, by first | exact .inl rfl | exact .inr rfl⟩, ?_⟩), by decide⟩)
 (hs : ∀ x, foldedSetIterable iter X.env x = pure x := by intro _; rfl) : E X m ρ (.ListComp elt [⟨.Name x px, iter, ifs, 0⟩] scope pos) (.lst ((ds.filter p).map f)) := (ec_comp caps js p f hi ht he hz hm hc B hs).val
theorem ec_map {elt iter : Expr} {x : Str} {px : Pos} {scope : Scope} {me : Bool} (caps : List Str) (js : List Nat) (f : D -> D) (hi : IT X (.Name x px) m1 ρ iter ds)
 (he : ∀ C s H fp d, d ∈ ds -> E (blk X ([x] ++ caps) scope C s H fp) me ([some d] ++ capD js ρ) elt (f d)) (hz : ds.length <= sizeLine) (hm : m = true -> me = true \/ ∀ d ∈ ds, (f d).flat = true := by intro h; first | exact .inl h | cases h) (hc : X.calm = true := by rfl)
 (B : BlkScope X scope [x] caps js := by exact ⟨rfl, by decide, by decide, by decide, by decide, by decide, by repeat (first | exact trivial | refine ⟨⟨rfl, by first | exact .inl rfl | exact .inr rfl⟩, ?_⟩), by decide⟩)
 (hs : ∀ x, foldedSetIterable iter X.env x = pure x := by intro _; rfl) : EC X m ρ (.ListComp elt [⟨.Name x px, iter, [], 0⟩] scope pos) (.lst (ds.map f)) := by
 have h := ec_comp (m := m) (pos := pos) caps js (fun _ => true) f hi (fun C s H fp d hd => ts_nil) (fun C s H fp d hd _ => he C s H fp d hd) hz hm hc B hs
 rwa [List.filter_eq_self.mpr fun _ _ => rfl] at h
theorem e_map {elt iter : Expr} {x : Str} {px : Pos} {scope : Scope} {me : Bool} (caps : List Str) (js : List Nat) (f : D -> D) (hi : IT X (.Name x px) m1 ρ iter ds)
 (he : ∀ C s H fp d, d ∈ ds -> E (blk X ([x] ++ caps) scope C s H fp) me ([some d] ++ capD js ρ) elt (f d)) (hz : ds.length <= sizeLine) (hm : m = true -> me = true \/ ∀ d ∈ ds, (f d).flat = true := by intro h; first | exact .inl h | cases h) (hc : X.calm = true := by rfl)
 (B : BlkScope X scope [x] caps js := by exact ⟨rfl, by decide, by decide, by decide, by decide, by decide, by repeat (first | exact trivial | refine ⟨⟨rfl, by first | exact .inl rfl | exact .inr rfl⟩, ?_⟩), by decide⟩)
 (hs : ∀ x, foldedSetIterable iter X.env x = pure x := by intro _; rfl) : E X m ρ (.ListComp elt [⟨.Name x px, iter, [], 0⟩] scope pos) (.lst (ds.map f)) := by
 have h := e_comp (m := m) (pos := pos) caps js (fun _ => true) f hi (fun C s H fp d hd => ts_nil) (fun C s H fp d hd _ => he C s H fp d hd) hz hm hc B hs
 rwa [List.filter_eq_self.mpr fun _ _ => rfl] at h
end
mutual
def Tr (K : Frag) (H : Hp) : D -> V -> List Addr -> Prop
 | .lst ds, v, as => ∃ a xs bs, v = .ref a /\ as = a :: bs /\ H a = some (.lst xs) /\ Trs K H ds xs bs
 | .tup ds, v, as => ∃ a xs, v = .ref a /\ H a = some (.tup xs) /\ Trs K H ds xs as
 | .non, v, as => as = [] /\ v = .non
 | .bl b, v, as => as = [] /\ v = .bl b
 | .int i, v, as => as = [] /\ v = .int i
 | .str x, v, as => as = [] /\ v = .str x
 | .dct _, _, _ => False
 | .ktup ks, v, as => as = [] /\ ∃ a, v = .ref a /\ KTup K a ks
def Trs (K : Frag) (H : Hp) : List D -> List V -> List Addr -> Prop
 | [], xs, as => xs = [] /\ as = []
 | d :: ds, xs, as => ∃ v r bs cs, xs = v :: r /\ as = bs ++ cs /\ Tr K H d v bs /\ Trs K H ds r cs
end
section
variable {K : Frag} {H H' : Hp} {Z : Zone}
theorem tr_lst {ds : List D} {v : V} {as : List Addr} : Tr K H (.lst ds) v as ↔ ∃ a xs bs, v = .ref a /\ as = a :: bs /\ H a = some (.lst xs) /\ Trs K H ds xs bs := by unfold Tr; exact Iff.rfl
theorem tr_tup {ds : List D} {v : V} {as : List Addr} : Tr K H (.tup ds) v as ↔ ∃ a xs, v = .ref a /\ H a = some (.tup xs) /\ Trs K H ds xs as := by unfold Tr; exact Iff.rfl
theorem trs_nil {xs : List V} {as : List Addr} : Trs K H [] xs as ↔ xs = [] /\ as = [] := by unfold Trs; exact Iff.rfl
theorem trs_cons {d : D} {ds : List D} {xs : List V} {as : List Addr} : Trs K H (d :: ds) xs as ↔ ∃ v r bs cs, xs = v :: r /\ as = bs ++ cs /\ Tr K H d v bs /\ Trs K H ds r cs := by
 constructor
 . intro h; unfold Trs at h; exact h
 . intro h; unfold Trs; exact h
mutual
theorem Tr.carry (t : ∀ a (xs : List V), H a = some (.tup xs) -> H' a = some (.tup xs)) : ∀ {d : D} {v : V} {as : List Addr}, (∀ a (xs : List V), a ∈ as -> H a = some (.lst xs) -> H' a = some (.lst xs)) -> Tr K H d v as -> Tr K H' d v as
 | .non, _, _, _, h => by unfold Tr at h ⊢; exact h
 | .bl _, _, _, _, h => by unfold Tr at h ⊢; exact h
 | .int _, _, _, _, h => by unfold Tr at h ⊢; exact h
 | .str _, _, _, _, h => by unfold Tr at h ⊢; exact h
 | .dct _, _, _, _, h => by unfold Tr at h; exact h.elim
 | .ktup _, _, _, _, h => by unfold Tr at h ⊢; exact h
 | .lst ds, _, _, k, h => by
  obtain ⟨a, xs, bs, e, rfl, ha, i⟩ := tr_lst.mp h
  exact tr_lst.mpr ⟨a, xs, bs, e, rfl, k a xs mem_cons_self ha, Trs.carry t (fun b ys hb => k b ys (mem_cons_of_mem _ hb)) i⟩
 | .tup ds, _, _, k, h => by
  obtain ⟨a, xs, e, ha, i⟩ := tr_tup.mp h
  exact tr_tup.mpr ⟨a, xs, e, t a xs ha, Trs.carry t k i⟩
theorem Trs.carry (t : ∀ a (xs : List V), H a = some (.tup xs) -> H' a = some (.tup xs)) : ∀ {ds : List D} {vs : List V} {as : List Addr}, (∀ a (xs : List V), a ∈ as -> H a = some (.lst xs) -> H' a = some (.lst xs)) -> Trs K H ds vs as -> Trs K H' ds vs as
 | [], _, _, _, h => trs_nil.mpr (trs_nil.mp h)
 | d :: ds, _, _, k, h => by
  obtain ⟨v, r, bs, cs, e, rfl, i, j⟩ := trs_cons.mp h
  exact trs_cons.mpr ⟨v, r, bs, cs, e, rfl, Tr.carry t (fun b ys hb => k b ys (List.mem_append_left _ hb)) i, Trs.carry t (fun b ys hb => k b ys (mem_append_right _ hb)) j⟩
end
mutual
theorem Tr.inn : ∀ {d : D} {v : V} {as : List Addr}, (∀ a ∈ as, Z.S a) -> Tr K H d v as -> In K H Z d v
 | .non, _, _, _, h => by unfold Tr at h; exact in_non.mpr h.2
 | .bl _, _, _, _, h => by unfold Tr at h; exact in_bl.mpr h.2
 | .int _, _, _, _, h => by unfold Tr at h; exact in_int.mpr h.2
 | .str _, _, _, _, h => by unfold Tr at h; exact in_str.mpr h.2
 | .dct _, _, _, _, h => by unfold Tr at h; exact h.elim
 | .ktup _, _, _, _, h => by unfold Tr at h; exact in_ktup.mpr h.2
 | .lst ds, _, _, k, h => by
  obtain ⟨a, xs, bs, e, rfl, ha, i⟩ := tr_lst.mp h
  exact in_lst.mpr ⟨a, xs, e, .inl ⟨ha, k a mem_cons_self⟩, Trs.inn (fun b hb => k b (mem_cons_of_mem _ hb)) i⟩
 | .tup ds, _, _, k, h => by
  obtain ⟨a, xs, e, ha, i⟩ := tr_tup.mp h
  exact in_tup.mpr ⟨a, xs, e, ha, Trs.inn k i⟩
theorem Trs.inn : ∀ {ds : List D} {vs : List V} {as : List Addr}, (∀ a ∈ as, Z.S a) -> Trs K H ds vs as -> Ins K H Z ds vs
 | [], _, _, _, h => ins_nil.mpr (trs_nil.mp h).1
 | d :: ds, _, _, k, h => by
  obtain ⟨v, r, bs, cs, e, rfl, i, j⟩ := trs_cons.mp h
  exact ins_cons.mpr ⟨v, r, e, Tr.inn (fun b hb => k b (List.mem_append_left _ hb)) i, Trs.inn (fun b hb => k b (mem_append_right _ hb)) j⟩
end
end
inductive Slot where
 | pl (fr : Bool) (d : D)
 | ow (fr : Bool) (ds : List D)
 | ow2 (fr : Bool) (dss : List (List D))
 | oa (d : D)
 | sh (p : D -> Prop)
 | owl (l : Addr) (fr : Bool) (ds : List D)
 | od (o : DO)
 | rf (v : V)
 | tr (d : D)
 | trl (u : V) (d : D)
abbrev Rho := List (Option Slot)
structure Fn where
 m : Bool
 Z : Zone
 H : Hp
def zn (F : Fn) (O : Addr -> Prop) (fr : Bool) : Zone := if fr then ⟨true, fun a => F.H a = none /\ ¬ O a⟩ else ⟨F.Z.m, fun a => F.Z.S a /\ ¬ O a⟩
def RowsAt (K : Frag) (H : Hp) (Z : Zone) (dss : List (List D)) (as : List Addr) : Prop := Paired (fun ds a => ∃ xs, H a = some (.lst xs) /\ Ins K H Z ds xs) dss as
def SlotIn (K : Frag) (F : Fn) (H : Hp) (O : Addr -> Prop) (mine : List Addr) (v : V) : Slot -> Prop
 | .pl fr d => In K H (zn F O fr) d v
 | .ow fr ds => ∃ l xs, mine = [l] /\ v = .ref l /\ H l = some (.lst xs) /\ Ins K H (zn F O fr) ds xs
 | .ow2 fr dss => ∃ l as, mine = l :: as /\ v = .ref l /\ H l = some (.lst (as.map V.ref)) /\ RowsAt K H (zn F O fr) dss as
 | .oa d => In K H ⟨true, fun a => a ∈ mine⟩ d v
 | .sh p => ∃ d, p d /\ In K H ⟨true, fun a => a ∈ mine⟩ d v
 | .owl l fr ds => ∃ xs, mine = [l] /\ v = .ref l /\ H l = some (.lst xs) /\ Ins K H (zn F O fr) ds xs
 | .od o => ∃ l, mine = [l] /\ v = .ref l /\ H l = some o.ho
 | .rf u => v = u
 | .tr d => Tr K H d v mine
 | .trl u d => v = u /\ Tr K H d v mine
abbrev Owned (A : Nat -> List Addr) (a : Addr) : Prop := ∃ j, a ∈ A j
structure StIn (K : Frag) (F : Fn) (H : Hp) (vs : St) (ρ : Rho) (A : Nat -> List Addr) : Prop where
 same : Same F.H H
 opn : F.Z.Open F.H
 nd : ∀ i, (A i).Nodup
 one : ∀ i j a, a ∈ A i -> a ∈ A j -> i = j
 new : ∀ i a, a ∈ A i -> F.H a = none
 lst : ∀ i a, a ∈ A i -> ∃ xs : MO, H a = some xs.ho
 at' : ∀ (i : Nat) sl, ρ[i]? = some (some sl) -> ∃ v, vs[i]? = some (some v) /\ SlotIn K F H (Owned A) (A i) v sl
section
variable {K : Frag} {F : Fn} {H H' : Hp} {vs : St} {ρ : Rho} {A : Nat -> List Addr} {O O' : Addr -> Prop} {fr : Bool}
theorem RowsAt.carry {Z Z' : Zone} {dss : List (List D)} {as : List Addr} (h : RowsAt K H Z dss as) (k : ∀ a xs, a ∈ as -> H a = some (.lst xs) -> H' a = some (.lst xs)) (c : Carry K H Z H' Z') : RowsAt K H' Z' dss as := by
 induction h with
 | nil => exact .nil
 | cons r t ih =>
  obtain ⟨xs, e, i⟩ := r
  exact .cons ⟨xs, k _ xs (by simp) e, i.carry c⟩ (ih fun a xs ha e => k a xs (by simp [ha]) e)
theorem carry_zn (s : Same H H') (hO : ∀ a (xs : MO), H a = some xs.ho -> ¬ O a -> ¬ O' a) : Carry K H (zn F O fr) H' (zn F O' fr) := by
 unfold zn
 cases fr
 . exact .of s (fun a xs e z => ⟨z.1, hO a xs e z.2⟩) fun m => m
 . exact .of s (fun a xs e z => ⟨z.1, hO a xs e z.2⟩) fun m => m
theorem SlotIn.carry {mine : List Addr} {v : V} {sl : Slot} (h : SlotIn K F H O mine v sl) (k : ∀ a (xs : MO), a ∈ mine -> H a = some xs.ho -> H' a = some xs.ho) (c : ∀ fr, Carry K H (zn F O fr) H' (zn F O' fr)) : SlotIn K F H' O' mine v sl := by
 cases sl with
 | pl fr d => exact In.carry (c fr) h
 | ow fr ds =>
  obtain ⟨l, xs, rfl, e, hl, i⟩ := h
  exact ⟨l, xs, rfl, e, k l (.l xs) (by simp) hl, i.carry (c fr)⟩
 | ow2 fr dss =>
  obtain ⟨l, as, rfl, e, hl, i⟩ := h
  exact ⟨l, as, rfl, e, k l (.l _) (by simp) hl, i.carry (fun a xs ha q => k a (.l xs) (by simp [ha]) q) (c fr)⟩
 | oa d => exact In.carry ⟨fun a xs e z => ⟨k a xs z e, z⟩, fun m => Bool.noConfusion (show true = false from m), (c true).t⟩ h
 | sh p =>
  obtain ⟨d, hp, i⟩ := h
  exact ⟨d, hp, i.carry ⟨fun a xs e z => ⟨k a xs z e, z⟩, fun m => Bool.noConfusion (show true = false from m), (c true).t⟩⟩
 | owl l fr ds =>
  obtain ⟨xs, rfl, e, hl, i⟩ := h
  exact ⟨xs, rfl, e, k l (.l xs) (by simp) hl, i.carry (c fr)⟩
 | od o =>
  obtain ⟨l, rfl, e, hl⟩ := h
  exact ⟨l, rfl, e, k l (.d o) (by simp) hl⟩
 | rf u => exact h
 | tr d => exact Tr.carry (c true).t (fun a xs ha e => k a (.l xs) ha e) h
 | trl u d => exact ⟨h.1, Tr.carry (c true).t (fun a xs ha e => k a (.l xs) ha e) h.2⟩
theorem StIn.grow (S : StIn K F H vs ρ A) (s : Same H H') : StIn K F H' vs ρ A :=
 ⟨S.same.trans s, S.opn, S.nd, S.one, S.new, fun i a ha => let ⟨xs, e⟩ := S.lst i a ha; ⟨xs, s.at e xs.nt⟩, fun i sl e => let ⟨v, a, b⟩ := S.at' i sl e; ⟨v, a, b.carry (fun a xs _ q => s.at q xs.nt) fun fr => carry_zn s fun a xs _ n => n⟩⟩
theorem zn_open (S : StIn K F H vs ρ A) (fr : Bool) : (zn F (Owned A) fr).Open H := ⟨fun a h => by
 have n : ¬ Owned A a := fun ⟨j, hj⟩ => by obtain ⟨xs, e⟩ := S.lst j a hj; rw [h] at e; cases e
 unfold zn
 cases fr
 . exact ⟨S.opn.op a (S.same.free h), n⟩
 . exact ⟨S.same.free h, n⟩, S.same.tabs S.opn.tb⟩
def vz (F : Fn) (O : Addr -> Prop) (ow fr : Bool) : Zone := if ow then (if fr then nw F.H else F.Z) else zn F O fr
theorem vz_open (S : StIn K F H vs ρ A) (ow fr : Bool) : (vz F (Owned A) ow fr).Open H := by
 unfold vz
 cases ow
 . exact zn_open S fr
 . cases fr
   . exact S.opn.same S.same
   . exact nw_open S.opn.tb S.same
def viewS (ow fr : Bool) : Option Slot -> Option D
 | some (.pl f d) => if fr && !f then none else some d
 | some (.ow f ds) => if ow && (!fr || f) then some (.lst ds) else none
 | some (.ow2 f dss) => if ow && (!fr || f) then some (.lst (dss.map .lst)) else none
 | some (.oa d) => if ow then some d else none
 | some (.sh _) => none
 | some (.owl _ _ _) => none
 | some (.od o) => if ow then some (.dct o) else none
 | some (.rf _) => none
 | some (.tr d) => if ow then some d else none
 | some (.trl _ d) => if ow then some d else none
 | none => none
def view (ow fr : Bool) (ρ : Rho) : List (Option D) := ρ.map (viewS ow fr)
theorem zn_vz (op : F.Z.Open F.H) {f ow : Bool} (hf : fr = true -> f = true) : Carry K H (zn F O f) H (vz F O ow fr) := by
 refine .of (Same.refl H) (fun a xs e z => ?_) fun m => ?_
 . unfold vz zn at *
   cases ow <;> cases fr <;> cases f <;> simp at hf z ⊢ <;> first
    | exact z
    | exact z.1
    | exact ⟨op a z.1, z.2⟩
    | exact op a z.1
 . unfold vz zn at *
   cases ow <;> cases fr <;> cases f <;> simp at hf m ⊢ <;> exact m
theorem ins_rows {Z Z' : Zone} {dss : List (List D)} {as : List Addr} (h : RowsAt K H Z dss as) (c : Carry K H Z H Z') (n : ∀ a ∈ as, Z'.S a) : Ins K H Z' (dss.map D.lst) (as.map V.ref) := by
 induction h with
 | nil => exact ins_nil.mpr rfl
 | cons r t ih =>
  obtain ⟨xs, e, i⟩ := r
  exact ins_cons.mpr ⟨_, _, rfl, in_lst.mpr ⟨_, xs, rfl, .inl ⟨e, n _ (by simp)⟩, i.carry c⟩, ih fun a ha => n a (by simp [ha])⟩
theorem slot_view (op : F.Z.Open F.H) {mine : List Addr} {v : V} {sl : Slot} {ow : Bool} {d : D} (new : ∀ a ∈ mine, F.H a = none) (h : SlotIn K F H O mine v sl) (e : viewS ow fr (some sl) = some d) : In K H (vz F O ow fr) d v := by
 have inS : ow = true -> ∀ a ∈ mine, (vz F O ow fr).S a := fun ho a ha => by
  subst ho
  unfold vz
  cases fr
  . exact op a (new a ha)
  . exact new a ha
 cases sl with
 | pl f d' =>
  change (if (fr && !f) = true then none else some d') = some d at e
  by_cases q : (fr && !f) = true
  . rw [if_pos q] at e; cases e
  . rw [if_neg q] at e
    cases e
    refine In.carry (zn_vz op fun hf => ?_) h
    subst hf
    simpa using q
 | ow f ds =>
  change (if (ow && (!fr || f)) = true then some (D.lst ds) else none) = some d at e
  by_cases q : (ow && (!fr || f)) = true
  . rw [if_pos q] at e
    cases e
    obtain ⟨l, xs, rfl, rfl, hl, i⟩ := h
    simp at q
    refine in_lst.mpr ⟨l, xs, rfl, .inl ⟨hl, inS q.1 l (by simp)⟩, i.carry (zn_vz op fun hf => ?_)⟩
    subst hf
    simpa using q.2
  . rw [if_neg q] at e; cases e
 | ow2 f dss =>
  change (if (ow && (!fr || f)) = true then some (D.lst (dss.map D.lst)) else none) = some d at e
  by_cases q : (ow && (!fr || f)) = true
  . rw [if_pos q] at e
    cases e
    obtain ⟨l, as, rfl, rfl, hl, i⟩ := h
    simp at q
    refine in_lst.mpr ⟨l, _, rfl, .inl ⟨hl, inS q.1 l (by simp)⟩, ins_rows i (zn_vz op fun hf => ?_) fun a ha => inS q.1 a (by simp [ha])⟩
    subst hf
    simpa using q.2
  . rw [if_neg q] at e; cases e
 | oa d' =>
  change (if ow = true then some d' else none) = some d at e
  by_cases q : ow = true
  . rw [if_pos q] at e
    cases e
    exact In.carry ⟨fun a xs e z => ⟨e, inS q a z⟩, fun m => Bool.noConfusion (show true = false from m), fun _ _ e => e⟩ h
  . rw [if_neg q] at e; cases e
 | sh p => cases e
 | owl l f ds => cases e
 | rf u => cases e
 | tr d' =>
  change (if ow = true then some d' else none) = some d at e
  by_cases q : ow = true
  . rw [if_pos q] at e
    cases e
    exact Tr.inn (inS q) h
  . rw [if_neg q] at e; cases e
 | trl u d' =>
  change (if ow = true then some d' else none) = some d at e
  by_cases q : ow = true
  . rw [if_pos q] at e
    cases e
    exact Tr.inn (inS q) h.2
  . rw [if_neg q] at e; cases e
 | od o =>
  change (if ow = true then some (D.dct o) else none) = some d at e
  by_cases q : ow = true
  . rw [if_pos q] at e
    cases e
    obtain ⟨l, rfl, rfl, hl⟩ := h
    exact in_dct.mpr ⟨l, rfl, hl, inS q l (by simp)⟩
  . rw [if_neg q] at e; cases e
theorem StIn.env {σ hv : St} {hρ : Rho} (S : StIn K F H (σ ++ hv) (ρ ++ hρ) A) (hl : σ.length = ρ.length) (ow fr : Bool) : EnvIn K H (vz F (Owned A) ow fr) σ (view ow fr ρ) := fun i d e => by
 unfold view at e
 rw [getElem?_map] at e
 cases q : ρ[i]? with
 | none => rw [q] at e; cases e
 | some o =>
  rw [q] at e
  cases o with
  | none => simp [viewS] at e
  | some sl =>
   have hi : i < ρ.length := (List.getElem?_eq_some_iff.mp q).1
   obtain ⟨v, a, b⟩ := S.at' i sl (by rw [getElem?_append_left hi]; exact q)
   rw [getElem?_append_left (by omega)] at a
   exact ⟨v, a, slot_view S.opn (S.new i) b (by simpa using e)⟩
def putA (A : Nat -> List Addr) (i : Nat) (l : List Addr) : Nat -> List Addr := fun j => if j = i then l else A j
theorem putA_same {i : Nat} {l : List Addr} : putA A i l i = l := by unfold putA; rw [if_pos rfl]
theorem putA_ne {i j : Nat} {l : List Addr} (h : j ≠ i) : putA A i l j = A j := by unfold putA; rw [if_neg h]
theorem carry_re {i : Nat} {l : List Addr} {H2 : Hp} (S : StIn K F H vs ρ A) (k : ∀ b o, H b = some o -> isT o = false -> b ∉ A i -> H2 b = some o) (hl : ∀ a ∈ l, a ∈ A i \/ H a = none) (fr : Bool) : Carry K H (zn F (Owned A) fr) H2 (zn F (Owned (putA A i l)) fr) := by
 have notI : ∀ {a : Addr} {o : HO}, H a = some o -> (∀ xs : MO, o ≠ xs.ho) -> a ∉ A i := fun {a o} e n z => by
  obtain ⟨xs, e'⟩ := S.lst i a z
  rw [e] at e'
  exact n xs (Option.some.inj e')
 refine ⟨fun a xs e z => ?_, fun m => ⟨?_, fun a xs e => ?_⟩, fun a xs e => ?_⟩
 . have key : ¬ Owned A a -> H2 a = some xs.ho /\ ¬ Owned (putA A i l) a := fun n => ⟨k a _ e xs.nt fun z => n ⟨i, z⟩, fun ⟨k', hk⟩ => by
    by_cases q2 : k' = i
    . rw [q2, putA_same] at hk
      rcases hl a hk with z | z
      . exact n ⟨i, z⟩
      . rw [e] at z; cases z
    . rw [putA_ne q2] at hk
      exact n ⟨k', hk⟩⟩
   unfold zn at z ⊢
   cases fr
   . exact ⟨(key z.2).1, z.1, (key z.2).2⟩
   . exact ⟨(key z.2).1, z.1, (key z.2).2⟩
 . unfold zn at m ⊢
   cases fr
   . exact m
   . exact m
 . rcases e with ⟨o, e⟩ | e
   . exact .inl ⟨o, k a _ e rfl (notI e fun xs z => xs.nfrz z.symm)⟩
   . exact .inr e
 . exact k a _ e rfl (notI e fun xs z => xs.ntup z.symm)
theorem StIn.re {i : Nat} {v : V} {sl : Slot} {l : List Addr} {H2 : Hp} (S : StIn K F H vs ρ A) (hi : i < ρ.length) (hiv : i < vs.length) (sm : Same F.H H2) (k : ∀ b o, H b = some o -> isT o = false -> b ∉ A i -> H2 b = some o) (nd : l.Nodup)
 (hl : ∀ a ∈ l, (a ∈ A i \/ H a = none) /\ ∃ xs : MO, H2 a = some xs.ho) (h : SlotIn K F H2 (Owned (putA A i l)) l v sl) : StIn K F H2 (vs.set i (some v)) (ρ.set i (some sl)) (putA A i l) := by
 have disj : ∀ j a, j ≠ i -> a ∈ A j -> a ∉ l := fun j a hj ha hal => by
  rcases (hl a hal).1 with z | z
  . exact hj (S.one j i a ha z)
  . obtain ⟨xs, e⟩ := S.lst j a ha; rw [z] at e; cases e
 refine ⟨sm, S.opn, fun j => ?_, fun j k' a hj hk => ?_, fun j a ha => ?_, fun j a ha => ?_, fun j sl' e => ?_⟩
 . by_cases q : j = i
   . rw [q, putA_same]; exact nd
   . rw [putA_ne q]; exact S.nd j
 . by_cases q : j = i
   . by_cases q2 : k' = i
     . rw [q, q2]
     . rw [q, putA_same] at hj; rw [putA_ne q2] at hk
       exact absurd hj (disj k' a q2 hk)
   . rw [putA_ne q] at hj
     by_cases q2 : k' = i
     . rw [q2, putA_same] at hk
       exact absurd hk (disj j a q hj)
     . rw [putA_ne q2] at hk
       exact S.one j k' a hj hk
 . by_cases q : j = i
   . rw [q, putA_same] at ha
     rcases (hl a ha).1 with z | z
     . exact S.new i a z
     . exact S.same.free z
   . rw [putA_ne q] at ha; exact S.new j a ha
 . by_cases q : j = i
   . rw [q, putA_same] at ha; exact (hl a ha).2
   . rw [putA_ne q] at ha
     obtain ⟨xs, e⟩ := S.lst j a ha
     exact ⟨xs, k a _ e xs.nt fun z => q (S.one j i a ha z)⟩
 . by_cases q : j = i
   . subst q
     rw [List.getElem?_set_self hi] at e
     cases e
     exact ⟨v, by rw [List.getElem?_set_self hiv], by rw [putA_same]; exact h⟩
   . rw [List.getElem?_set_ne (Ne.symm q)] at e
     obtain ⟨w, a, b⟩ := S.at' j sl' e
     refine ⟨w, by rw [List.getElem?_set_ne (Ne.symm q)]; exact a, ?_⟩
     rw [putA_ne q]
     exact b.carry (fun a xs ha e => k a _ e xs.nt fun z => q (S.one j i a ha z)) fun fr => carry_re S k (fun a ha => (hl a ha).1) fr
theorem StIn.put {i : Nat} {v : V} {sl : Slot} {l : List Addr} {H2 : Hp} (S : StIn K F H vs ρ A) (hi : i < ρ.length) (hiv : i < vs.length) (s : Same H H2) (nd : l.Nodup) (hl : ∀ a ∈ l, H a = none /\ ∃ xs : MO, H2 a = some xs.ho)
 (h : SlotIn K F H2 (Owned (putA A i l)) l v sl) : StIn K F H2 (vs.set i (some v)) (ρ.set i (some sl)) (putA A i l) := S.re hi hiv (S.same.trans s) (fun b o e n _ => s.get b o e n) nd (fun a ha => ⟨.inr (hl a ha).1, (hl a ha).2⟩) h
theorem zn_drop {i : Nat} : Carry K H (zn F (Owned A) fr) H (zn F (Owned (putA A i [])) fr) := by
 have n : ∀ {P : Prop} {a : Addr}, P /\ ¬ Owned A a -> P /\ ¬ Owned (putA A i []) a := fun {P a} z => ⟨z.1, fun ⟨k, hk⟩ => by
  by_cases q : k = i
  . rw [q, putA_same] at hk; simp at hk
  . rw [putA_ne q] at hk; exact z.2 ⟨k, hk⟩⟩
 refine .of (Same.refl _) (fun a xs e z => ?_) fun m => ?_
 . unfold zn at z ⊢
   cases fr
   . exact n z
   . exact n z
 . unfold zn at m ⊢
   cases fr
   . exact m
   . exact m
end
structure EndD where
 nx : Rho -> Prop
 rt : D -> Prop
 bk : Rho -> Prop := fun _ => False
 ct : Rho -> Prop := fun _ => False
 rtT : D -> Prop := fun _ => False
 rtM : Rho -> D -> Prop := fun _ _ => False
def StOk (K : Frag) (F : Fn) (hv : St) (hρ : Rho) (N : Rho -> Prop) (σ : St) (H : Hp) : Prop := ∃ ρ A, σ.length = ρ.length /\ StIn K F H (σ ++ hv) (ρ ++ hρ) A /\ N ρ
structure Fits (K : Frag) (F : Fn) (hv : St) (hρ : Rho) (Q : EndD) (Q' : Ends) : Prop where
 hl : hv.length = hρ.length
 nx : ∀ σ H, StOk K F hv hρ Q.nx σ H -> Q'.nx σ H
 bk : ∀ σ H, StOk K F hv hρ Q.bk σ H -> Q'.bk σ H
 ct : ∀ σ H, StOk K F hv hρ Q.ct σ H -> Q'.ct σ H
 rt : ∀ v d H, Same F.H H -> In K H (out F.m F.Z F.H) d v -> Q.rt d -> Q'.rt v H
 rtT : ∀ v d H as, Same F.H H -> Tr K H d v as -> as.Nodup -> (∀ a ∈ as, F.H a = none) -> Q.rtT d -> Q'.rt v H
 rtM : ∀ σ H ρ A v d as, σ.length = ρ.length -> StIn K F H (σ ++ hv) (ρ ++ hρ) A -> Tr K H d v as -> as.Nodup -> (∀ a ∈ as, F.H a = none) -> (∀ i a, a ∈ A i -> a ∉ as) -> Q.rtM ρ d -> Q'.rt v H
def tS (K : Frag) (F : Fn) (ρ : Rho) (Q : EndD) : TS := fun Q' σ H => ∃ hv hρ A, σ.length = ρ.length /\ StIn K F H (σ ++ hv) (ρ ++ hρ) A /\ Fits K F hv hρ Q Q'
def SD (X : Cx) (F : Fn) (st : List Stmt) (ρ : Rho) (Q : EndD) : Prop := PSs X st (tS X.K F ρ Q)
def SD1 (X : Cx) (F : Fn) (st : Stmt) (ρ : Rho) (Q : EndD) : Prop := PS X st (tS X.K F ρ Q)
theorem PS.mono {X : Cx} {st : Stmt} {t t' : TS} (h : PS X st t) (k : ∀ Q σ H, t' Q σ H -> t Q σ H) : PS X st t' := fun pins s σ H Q I q => h pins s σ H Q I (k Q σ H q)
theorem PSs.mono {X : Cx} {st : List Stmt} {t t' : TS} (h : PSs X st t) (k : ∀ Q σ H, t' Q σ H -> t Q σ H) : PSs X st t' := fun pins s σ H Q I q => h pins s σ H Q I (k Q σ H q)
section
variable {X : Cx} {F : Fn} {ρ : Rho} {Q : EndD} {st : Stmt} {rest body orelse : List Stmt} {e a c : Expr} {d : D} {pos p : Pos} {i : Nat} {x : Str} {fr m1 : Bool}
theorem Fits.step {K : Frag} {hv : St} {hρ : Rho} {Q' : Ends} {N : Rho -> Prop} {n : St -> Hp -> Prop} (f : Fits K F hv hρ Q Q') (h : ∀ σ H, StOk K F hv hρ N σ H -> n σ H) : Fits K F hv hρ { Q with nx := N } { Q' with nx := n } := ⟨f.hl, h, f.bk, f.ct, f.rt, f.rtT, f.rtM⟩
theorem sd_nil (h : Q.nx ρ) : SD X F [] ρ Q := PSs.mono pss_nil fun Q' σ H z0 => el33 z0 fun hv hρ A hl S f => f.nx σ H ⟨ρ, A, hl, S, h⟩
theorem sd_seq {N : Rho -> Prop} (h1 : SD1 X F st ρ { Q with nx := N }) (h2 : ∀ ρ', N ρ' -> SD X F rest ρ' Q) : SD X F (st :: rest) ρ Q :=
 PSs.mono (pss_cons (u := fun Q' σ H => ∃ ρ', N ρ' /\ tS X.K F ρ' Q Q' σ H) h1 fun pins s σ H Q' I ⟨ρ', n, t⟩ => h2 ρ' n pins s σ H Q' I t) fun Q' σ H ⟨hv, hρ, A, hl, S, f⟩ =>
  ⟨hv, hρ, A, hl, S, f.step fun σ' H' ⟨ρ', A', hl', S', n⟩ => ⟨ρ', n, hv, hρ, A', hl', S', f⟩⟩
theorem sd_then {ρ' : Rho} (h1 : SD1 X F st ρ { Q with nx := fun r => r = ρ' }) (h2 : SD X F rest ρ' Q) : SD X F (st :: rest) ρ Q := sd_seq h1 fun r e => by subst e; exact h2
theorem set_app {α : Type} {l r : List α} {i : Nat} {v : α} (h : i < l.length) : (l ++ r).set i v = l.set i v ++ r := by
 rw [List.set_append_left _ _ h]
theorem put_plA {K : Frag} {hv : St} {hρ : Rho} {σ : St} {H H1 : Hp} {A : Nat -> List Addr} {v : V} (hl : σ.length = ρ.length) (S : StIn K F H (σ ++ hv) (ρ ++ hρ) A) (hi : i < ρ.length) (s : Same H H1) (h : In K H1 (zn F (Owned A) fr) d v) :
 StIn K F H1 (σ.set i (some v) ++ hv) (ρ.set i (some (.pl fr d)) ++ hρ) (putA A i []) := by
 rw [<- set_app (by omega), <- set_app hi]
 exact S.put (by rw [List.length_append]; omega) (by rw [List.length_append]; omega) s List.nodup_nil (fun a ha => by simp at ha) (In.carry zn_drop h)
theorem put_pl {K : Frag} {hv : St} {hρ : Rho} {σ : St} {H H1 : Hp} {A : Nat -> List Addr} {v : V} (hl : σ.length = ρ.length) (S : StIn K F H (σ ++ hv) (ρ ++ hρ) A) (hi : i < ρ.length) (s : Same H H1) (h : In K H1 (zn F (Owned A) fr) d v) :
 StOk K F hv hρ (fun r => r = ρ.set i (some (.pl fr d))) (σ.set i (some v)) H1 := ⟨_, putA A i [], by simp [hl], put_plA hl S hi s h, rfl⟩
theorem sd_set (i : Nat) (fr : Bool) {x : Str} {d : D} (he : E X false (view false fr ρ) e d) (hr : SD X F rest (ρ.set i (some (.pl fr d))) Q) (hN : X.N.Nodup) (hi : X.N[i]? = some x := by rfl)
 (hx : Loc X.env.scope x := by first | exact Or.inl rfl | exact Or.inr rfl) (hρ : i < ρ.length := by exact of_decide_eq_true rfl) (hs : swapsWith e (some (.Name x p)) pos.line X.env = pure false := by rfl) (hf : X.fn x = true \/ X.env.scope.names.lookup x = some .local := by first | exact .inl rfl | exact .inr rfl) :
 SD X F (.Assign [.Name x p] e pos :: rest) ρ Q :=
 sd_then (PS.mono (ps_set hN hi hx he hs hf) fun Q' σ H z0 => el33 z0 fun hv hρ' A hl S f => ⟨_, vz_open S false fr, S.env hl false fr, fun v H1 s1 i1 => f.nx _ H1 (put_pl hl S hρ s1 i1)⟩) hr
theorem sd_setN (i : Nat) {x : Str} {d : D} (he : E X true (view true false ρ) e d) (hr : SD X F rest (ρ.set i (some (.pl true d))) Q) (hN : X.N.Nodup) (hi : X.N[i]? = some x := by rfl)
 (hx : Loc X.env.scope x := by first | exact Or.inl rfl | exact Or.inr rfl) (hρ : i < ρ.length := by exact of_decide_eq_true rfl) (hs : swapsWith e (some (.Name x p)) pos.line X.env = pure false := by rfl) (hf : X.fn x = true \/ X.env.scope.names.lookup x = some .local := by first | exact .inl rfl | exact .inr rfl) :
 SD X F (.Assign [.Name x p] e pos :: rest) ρ Q :=
 sd_then (PS.mono (ps_set hN hi hx he hs hf) fun Q' σ H z0 => el33 z0 fun hv hρ' A hl S f => ⟨_, vz_open S true false, S.env hl true false, fun v H1 s1 i1 => f.nx _ H1 (put_pl hl S hρ s1 (In.up (zn_open S true) i1))⟩) hr
theorem sd_setF (i : Nat) {x : Str} {d : D} (he : E X m1 (view true false ρ) e d) (fl : d.flat = true) (hr : SD X F rest (ρ.set i (some (.pl true d))) Q) (hN : X.N.Nodup) (hi : X.N[i]? = some x := by rfl)
 (hx : Loc X.env.scope x := by first | exact Or.inl rfl | exact Or.inr rfl) (hρ : i < ρ.length := by exact of_decide_eq_true rfl) (hs : swapsWith e (some (.Name x p)) pos.line X.env = pure false := by rfl) (hf : X.fn x = true \/ X.env.scope.names.lookup x = some .local := by first | exact .inl rfl | exact .inr rfl) :
 SD X F (.Assign [.Name x p] e pos :: rest) ρ Q := sd_setN i (he.flat fl) hr hN hi hx hρ hs hf
theorem sd_ret (fr : Bool) {d : D} (he : E X m1 (view true fr ρ) e d) (h : Q.rt d) (hm : F.m = true -> fr = true \/ m1 = true := by intro h; first | exact .inl rfl | exact .inr rfl | cases h) : SD X F (.Return (some e) pos :: rest) ρ Q :=
 sd_seq (N := fun _ => False) (PS.mono (ps_ret he) fun Q' σ H z0 => el33 z0 fun hv hρ A hl S f => ⟨_, vz_open S true fr, S.env hl true fr, fun v H1 s1 i1 => f.rt v d H1 (S.same.trans s1) (by
  have key : (F.m = true -> In X.K H1 (nw F.H) d v) /\ In X.K H1 F.Z d v := by
   cases m1 with
   | true =>
    have i2 : In X.K H1 (nw F.H) d v := In.later (m := true) (Z := F.Z) S.same i1
    exact ⟨fun _ => i2, i2.up S.opn⟩
   | false =>
    cases fr with
    | true =>
     have i2 : In X.K H1 (nw F.H) d v := i1
     exact ⟨fun _ => i2, i2.up S.opn⟩
    | false =>
     have i2 : In X.K H1 F.Z d v := i1
     exact ⟨fun h => (hm h).elim (fun z => (nomatch z)) (fun z => (nomatch z)), i2⟩
  cases hmm : F.m with
  | false => exact key.2
  | true => exact key.1 hmm) h⟩) fun _ n => n.elim
theorem sd_if {b : Bool} (hc : T X (view true false ρ) c b) (h1 : b = true -> SD X F body ρ { Q with nx := fun r => SD X F rest r Q }) (h2 : b = false -> SD X F orelse ρ { Q with nx := fun r => SD X F rest r Q }) : SD X F (.If c body orelse pos :: rest) ρ Q := by
 refine sd_seq (N := fun r => SD X F rest r Q) ?_ fun _ h => h
 cases b with
 | true =>
  exact PS.mono (ps_if hc (h1 rfl) (pss_never (sts := orelse))) fun Q' σ H z0 => el33 z0 fun hv hρ A hl S f => ⟨_, vz_open S true false, S.env hl true false, fun H1 s1 => by
   refine iteT ?_; exact ⟨hv, hρ, A, hl, S.grow s1, f⟩⟩
 | false =>
  exact PS.mono (ps_if hc (pss_never (sts := body)) (h2 rfl)) fun Q' σ H z0 => el33 z0 fun hv hρ A hl S f => ⟨_, vz_open S true false, S.env hl true false, fun H1 s1 => by
   refine iteF ?_; exact ⟨hv, hρ, A, hl, S.grow s1, f⟩⟩
theorem sd_ifJ (ρ1 : Rho) {b : Bool} (hc : T X (view true false ρ) c b) (h1 : b = true -> SD X F body ρ { Q with nx := fun r => r = ρ1 }) (h2 : b = false -> SD X F orelse ρ { Q with nx := fun r => r = ρ1 }) (h3 : SD X F rest ρ1 Q) : SD X F (.If c body orelse pos :: rest) ρ Q := by
 refine sd_then (ρ' := ρ1) ?_ h3
 cases b with
 | true =>
  exact PS.mono (ps_if hc (h1 rfl) (pss_never (sts := orelse))) fun Q' σ H z0 => el33 z0 fun hv hρ A hl S f => ⟨_, vz_open S true false, S.env hl true false, fun H1 s1 => by
   refine iteT ?_; exact ⟨hv, hρ, A, hl, S.grow s1, f⟩⟩
 | false =>
  exact PS.mono (ps_if hc (pss_never (sts := body)) (h2 rfl)) fun Q' σ H z0 => el33 z0 fun hv hρ A hl S f => ⟨_, vz_open S true false, S.env hl true false, fun H1 s1 => by
   refine iteF ?_; exact ⟨hv, hρ, A, hl, S.grow s1, f⟩⟩
theorem sd_while (P : Rho -> Prop) (μ : Rho -> Nat) (b : Rho -> Bool) (h0 : P ρ) (hl0 : ∀ r, P r -> r.length = ρ.length) (hc : ∀ r, P r -> T X (view true false r) c (b r))
 (hb : ∀ r, P r -> b r = true -> SD X F body r { Q with nx := fun r' => P r' /\ μ r' < μ r, ct := fun r' => P r' /\ μ r' < μ r, bk := fun r => SD X F rest r Q }) (hd : ∀ r, P r -> b r = false -> SD X F rest r Q)
 (hp : PassesOwn (model X.prog X.w) X.A X.env X.xe := by exact PassesOwn.never) : SD X F (.While c body [] pos :: rest) ρ Q := by
 refine sd_seq (N := fun r => SD X F rest r Q) ?_ fun _ h => h
 refine PS.mono (ps_while (tc := fun σ H R => ∃ r, P r /\ tB' X.K (view true false r) (b r) σ H R) (tb := fun Q' σ H => ∃ r, P r /\ b r = true /\ tS X.K F r { Q with nx := fun r' => P r' /\ μ r' < μ r, ct := fun r' => P r' /\ μ r' < μ r, bk := fun r => SD X F rest r Q } Q' σ H) hp
  (fun pins s σ H R I ⟨r, pr, q⟩ => hc r pr pins s σ H R I q) (fun pins s σ H Q' I ⟨r, pr, br, q⟩ => hb r pr br pins s σ H Q' I q)) fun Q' σ H z0 => el33 z0 fun hv hρ A hl S f => ?_
 refine ⟨fun n σ H => ∃ r A, n = μ r /\ P r /\ σ.length = r.length /\ StIn X.K F H (σ ++ hv) (r ++ hρ) A, ⟨_, ρ, A, rfl, h0, hl, S⟩, ?_⟩
 rintro n σ1 H1 ⟨r, A1, rfl, pr, hl1, S1⟩
 refine ⟨r, pr, _, vz_open S1 true false, S1.env hl1 true false, fun H2 s2 => ?_⟩
 cases hbr : b r with
 | true =>
  refine iteT ?_
  refine ⟨StOk X.K F hv hρ fun r' => P r' /\ μ r' < μ r, fun σ' H' ⟨r', A', hl', S', p', lt⟩ => ⟨μ r', lt, r', A', rfl, p', hl', S'⟩, r, pr, hbr, hv, hρ, A1, hl1, S1.grow s2, ⟨f.hl, fun _ _ h => h, fun σ H h => f.nx σ H h, fun _ _ h => h, f.rt, f.rtT, f.rtM⟩⟩
 | false =>
  refine iteF ?_
  exact f.nx _ _ ⟨r, A1, hl1, S1.grow s2, hd r pr hbr⟩
def hid (fr : Bool) (srcs : List D) : Rho := srcs.map fun d => some (.pl fr d)
theorem StIn.hide {K : Frag} {H : Hp} {σ hv : St} {r hρ : Rho} {A : Nat -> List Addr} {srcs : List D} {vs : List V} (S : StIn K F H (σ ++ hv) (r ++ hρ) A) (h1 : σ.length = r.length) (h2 : hv.length = hρ.length) (iz : Ins K H (zn F (Owned A) fr) srcs vs) :
 StIn K F H (σ ++ (hv ++ vs.map some)) (r ++ (hρ ++ hid fr srcs)) A := by
 refine ⟨S.same, S.opn, S.nd, S.one, S.new, S.lst, fun i sl e => ?_⟩
 rw [<- List.append_assoc] at e ⊢
 by_cases hi : i < (r ++ hρ).length
 . rw [getElem?_append_left hi] at e
   rw [getElem?_append_left (by rw [List.length_append] at hi ⊢; omega)]
   exact S.at' i sl e
 . rw [getElem?_append_right (by omega)] at e
   rw [getElem?_append_right (by rw [List.length_append] at hi ⊢; omega)]
   have hle : (σ ++ hv).length = (r ++ hρ).length := by rw [List.length_append, List.length_append]; omega
   rw [hle]
   unfold hid at e
   rw [getElem?_map] at e
   cases q : srcs[i - (r ++ hρ).length]? with
   | none => rw [q] at e; cases e
   | some d =>
    rw [q] at e
    have e' : some (Slot.pl fr d) = some sl := by simpa using e
    cases e'
    obtain ⟨v, a, b⟩ := iz.get q
    exact ⟨v, by rw [getElem?_map, a]; rfl, b⟩
theorem StIn.srcs {K : Frag} {H : Hp} {σ hv : St} {r hρ : Rho} {A : Nat -> List Addr} {srcs : List D} {vs : List V} (S : StIn K F H (σ ++ (hv ++ vs.map some)) (r ++ (hρ ++ hid fr srcs)) A) (h1 : σ.length = r.length) (h2 : hv.length = hρ.length) (hsv : srcs.length = vs.length) :
 Ins K H (zn F (Owned A) fr) srcs vs := by
 refine Ins.of_get hsv fun i d v e1 e2 => ?_
 have hle : (σ ++ hv).length = (r ++ hρ).length := by rw [List.length_append, List.length_append]; omega
 obtain ⟨w, a, b⟩ := S.at' ((r ++ hρ).length + i) (.pl fr d) (by
  rw [<- List.append_assoc, getElem?_append_right (by omega), Nat.add_sub_cancel_left]
  unfold hid
  rw [getElem?_map, e1]; rfl)
 rw [<- List.append_assoc, getElem?_append_right (by omega), hle, Nat.add_sub_cancel_left, getElem?_map, e2] at a
 cases a
 exact b
theorem StIn.unhide {K : Frag} {H : Hp} {σ hv e1 : St} {r hρ e2 : Rho} {A : Nat -> List Addr} (S : StIn K F H (σ ++ (hv ++ e1)) (r ++ (hρ ++ e2)) A) (h1 : σ.length = r.length) (h2 : hv.length = hρ.length) : StIn K F H (σ ++ hv) (r ++ hρ) A := by
 refine ⟨S.same, S.opn, S.nd, S.one, S.new, S.lst, fun i sl e => ?_⟩
 have hi : i < (r ++ hρ).length := (List.getElem?_eq_some_iff.mp e).1
 obtain ⟨v, a, b⟩ := S.at' i sl (by rw [<- List.append_assoc, getElem?_append_left hi]; exact e)
 rw [<- List.append_assoc, getElem?_append_left (by rw [List.length_append] at hi ⊢; omega)] at a
 exact ⟨v, a, b⟩
theorem sd_forG {tg iter : Expr} {ds : List D} {mi : Bool} {g : TG} (fr : Bool) (G : D -> Rho -> Rho) (P : Nat -> Rho -> Prop) (hi : IT X tg mi (view false fr ρ) iter ds) (h0 : P 0 ρ) (hg : PG X tg g)
 (hG : ∀ n d r (hv : St) (hρ : Rho) (σ : St) (H H1 : Hp) (A : Nat -> List Addr) (v : V) (Q : St -> Hp -> Prop), ds[n]? = some d -> P n r -> σ.length = r.length -> StIn X.K F H (σ ++ hv) (r ++ hρ) A -> Same H H1 -> In X.K H1 (zn F (Owned A) fr) d v ->
  (∀ σ' H', StOk X.K F hv hρ (fun r' => r' = G d r) σ' H' -> Q σ' H') -> g v σ H1 Q)
 (hb : ∀ n d r, ds[n]? = some d -> P n r -> SD X F body (G d r) { Q with nx := P (n + 1), ct := P (n + 1), bk := fun r => SD X F rest r Q }) (hd : ∀ r, P ds.length r -> SD X F rest r Q)
 (hc : X.calm = true := by rfl) (hs : ∀ x, foldedSetIterable iter X.env x = pure x := by intro _; rfl) (hp : PassesOwn (model X.prog X.w) X.A X.env X.xe := by exact PassesOwn.never) : SD X F (.For tg iter body [] pos :: rest) ρ Q := by
 refine sd_seq (N := fun r => SD X F rest r Q) ?_ fun _ h => h
 refine PS.mono (ps_for (g := g) (tb := fun Q' σ H => ∃ n d r, ds[n]? = some d /\ P n r /\ tS X.K F (G d r) { Q with nx := P (n + 1), ct := P (n + 1), bk := fun r => SD X F rest r Q } Q' σ H) hp hc hi hg
  (fun pins s σ H Q' I ⟨n, d, r, e, pr, q⟩ => hb n d r e pr pins s σ H Q' I q) hs) fun Q' σ H z0 => el33 z0 fun hv hρ A hl S f => ?_
 refine ⟨_, vz_open S false fr, S.env hl false fr, fun J H1 vs srcs s1 i1 Y => ?_⟩
 have iz : Ins X.K H1 (zn F (Owned A) fr) srcs vs := by
  cases mi
  . exact i1
  . exact i1.up (zn_open S fr)
 have hsv := iz.length
 refine ⟨fun n m σ H => m = ds.length - n /\ n <= ds.length /\ ∃ r A, P n r /\ σ.length = r.length /\ StIn X.K F H (σ ++ (hv ++ vs.map some)) (r ++ (hρ ++ hid fr srcs)) A, ⟨_, rfl, Nat.zero_le _, ρ, A, h0, hl, (S.grow s1).hide hl f.hl iz⟩, ?_⟩
 rintro n m σ1 H2 ⟨rfl, hn, r, A1, pr, hl1, S1⟩
 have iz1 := S1.srcs hl1 f.hl hsv
 by_cases hlt : n < ds.length
 . have hdn : ds[n]? = some ds[n] := by simp [hlt]
   obtain ⟨go, yl⟩ := Y.go _ H2 (zn_open S1 fr) iz1 n ds[n] hdn
   refine .inr ⟨go, StOk X.K F (hv ++ vs.map some) (hρ ++ hid fr srcs) (P (n + 1)), fun σ' H' ⟨r', A', hl', S', p'⟩ => ⟨ds.length - (n + 1), by omega, rfl, hlt, r', A', p', hl', S'⟩, fun y H3 hy => ?_⟩
   obtain ⟨s3, iy⟩ := yl y H3 hy
   refine hG n ds[n] r _ _ σ1 H2 H3 A1 y _ hdn pr hl1 S1 s3 iy fun σ4 H4 ⟨r4, A4, hl4, S4, e4⟩ => ?_
   subst e4
   refine ⟨n, ds[n], r, hdn, pr, _, _, A4, hl4, S4, ⟨by simp [hid, f.hl, hsv], fun _ _ h => h, fun σ5 H5 ⟨r5, A5, hl5, S5, q5⟩ => f.nx σ5 H5 ⟨r5, A5, hl5, S5.unhide hl5 f.hl, q5⟩, fun _ _ h => h, f.rt, f.rtT, fun σ6 H6 r6 A6 v6 d6 as6 hl6 S6 => f.rtM σ6 H6 r6 A6 v6 d6 as6 hl6 (S6.unhide hl6 f.hl)⟩⟩
 . have e : n = ds.length := by omega
   subst e
   exact .inl ⟨Y.stop _ H2 (zn_open S1 fr) iz1, f.nx _ _ ⟨r, A1, hl1, S1.unhide hl1 f.hl, hd r pr⟩⟩
theorem sd_for (k : Nat) (fr : Bool) {x : Str} {px : Pos} {iter : Expr} {ds : List D} {mi : Bool} (P : Nat -> Rho -> Prop) (hi : IT X (.Name x px) mi (view false fr ρ) iter ds) (h0 : P 0 ρ) (hlen : ∀ n r, P n r -> k < r.length)
 (hb : ∀ n d r, ds[n]? = some d -> P n r -> SD X F body (r.set k (some (.pl fr d))) { Q with nx := P (n + 1), ct := P (n + 1), bk := fun r => SD X F rest r Q }) (hd : ∀ r, P ds.length r -> SD X F rest r Q)
 (hN : X.N.Nodup) (hx : X.N[k]? = some x := by rfl) (hxl : Loc X.env.scope x := by first | exact Or.inl rfl | exact Or.inr rfl) (hf : X.fn x = true \/ X.env.scope.names.lookup x = some .local := by first | exact .inl rfl | exact .inr rfl) (hc : X.calm = true := by rfl)
 (hs : ∀ x, foldedSetIterable iter X.env x = pure x := by intro _; rfl) (hp : PassesOwn (model X.prog X.w) X.A X.env X.xe := by exact PassesOwn.never) : SD X F (.For (.Name x px) iter body [] pos :: rest) ρ Q :=
 sd_forG fr (fun d r => r.set k (some (.pl fr d))) P hi h0 (pg_name hN hx hxl hf) (fun n d r hv hρ σ H H1 A v q e pr hl S s i h => h _ _ (put_pl hl S (hlen n r pr) s i)) hb hd hc hs hp
theorem sd_forF (k : Nat) {x : Str} {px : Pos} {iter : Expr} {ds : List D} {mi : Bool} (P : Nat -> Rho -> Prop) (hi : IT X (.Name x px) mi (view false false ρ) iter ds) (fl : ∀ d ∈ ds, d.flat = true) (h0 : P 0 ρ) (hlen : ∀ n r, P n r -> k < r.length)
 (hb : ∀ (n : Nat) d r, ds[n]? = some d -> P n r -> SD X F body (r.set k (some (.pl true d))) { Q with nx := P (n + 1), ct := P (n + 1), bk := fun r => SD X F rest r Q }) (hd : ∀ r, P ds.length r -> SD X F rest r Q)
 (hN : X.N.Nodup) (hx : X.N[k]? = some x := by rfl) (hxl : Loc X.env.scope x := by first | exact Or.inl rfl | exact Or.inr rfl) (hf : X.fn x = true \/ X.env.scope.names.lookup x = some .local := by first | exact .inl rfl | exact .inr rfl) (hc : X.calm = true := by rfl)
 (hs : ∀ x, foldedSetIterable iter X.env x = pure x := by intro _; rfl) (hp : PassesOwn (model X.prog X.w) X.A X.env X.xe := by exact PassesOwn.never) : SD X F (.For (.Name x px) iter body [] pos :: rest) ρ Q :=
 sd_forG false (fun d r => r.set k (some (.pl true d))) P hi h0 (pg_name hN hx hxl hf) (fun n d r hv hρ σ H H1 A v q e pr hl S s i h => h _ _ (put_pl hl S (hlen n r pr) s (i.flat' (fl d (mem_of_getElem? e))))) hb hd hc hs hp
theorem sd_for2 (k l : Nat) (fr : Bool) {x y : Str} {px py pt : Pos} {kt : Nat} {iter : Expr} {ds : List D} {mi : Bool} (P : Nat -> Rho -> Prop) (hi : IT X (.Tuple [.Name x px, .Name y py] kt pt) mi (view false fr ρ) iter ds) (h0 : P 0 ρ)
 (hlen : ∀ n r, P n r -> k < r.length /\ l < r.length) (hpair : ∀ d ∈ ds, ∃ d1 d2, d = .tup [d1, d2])
 (hb : ∀ n d1 d2 r, ds[n]? = some (.tup [d1, d2]) -> P n r -> SD X F body ((r.set k (some (.pl fr d1))).set l (some (.pl fr d2))) { Q with nx := P (n + 1), ct := P (n + 1), bk := fun r => SD X F rest r Q }) (hd : ∀ r, P ds.length r -> SD X F rest r Q)
 (hN : X.N.Nodup) (hx : X.N[k]? = some x := by rfl) (hy : X.N[l]? = some y := by rfl) (hxl : Loc X.env.scope x := by first | exact Or.inl rfl | exact Or.inr rfl) (hyl : Loc X.env.scope y := by first | exact Or.inl rfl | exact Or.inr rfl)
 (hf : X.fn x = true \/ X.env.scope.names.lookup x = some .local := by first | exact .inl rfl | exact .inr rfl) (hf' : X.fn y = true \/ X.env.scope.names.lookup y = some .local := by first | exact .inl rfl | exact .inr rfl) (hc : X.calm = true := by rfl)
 (hs : ∀ x, foldedSetIterable iter X.env x = pure x := by intro _; rfl) (hp : PassesOwn (model X.prog X.w) X.A X.env X.xe := by exact PassesOwn.never)
 (hes : (assignEach [.Name x px, .Name y py] X.env).map (·.2) = [assign (.Name x px) X.env, assign (.Name y py) X.env] := by rfl) (hes2 : (assignEach [.Name y py] X.env).map (·.2) = [assign (.Name y py) X.env] := by rfl)
 (hen : (assignEach [.Name x px, .Name y py] X.env).length = 2 := by rfl) (hst : (assignEach [.Name x px, .Name y py] X.env).findIdx? (·.1) = none := by rfl) : SD X F (.For (.Tuple [.Name x px, .Name y py] kt pt) iter body [] pos :: rest) ρ Q := by
 refine sd_forG (g := gTup X.K 2 (gCons (gName k) (gCons (gName l) gNil))) fr (fun d r => match d with | .tup [d1, d2] => (r.set k (some (.pl fr d1))).set l (some (.pl fr d2)) | _ => r) P hi h0
  (pg_tup hc (pgs_cons (pg_name hN hx hxl hf) (pgs_cons (pg_name hN hy hyl hf') pgs_nil (by rw [hes2]; rfl)) (by rw [hes, hes2])) hen hst) (fun n d r hv hρ σ H H1 A v q e pr hl S s i h => ?_) (fun n d r e pr => ?_) hd hc hs hp
 . obtain ⟨d1, d2, rfl⟩ := hpair d (mem_of_getElem? e)
   obtain ⟨a, xs, rfl, t, j⟩ := in_tupS i
   obtain ⟨v1, r1, rfl, i1, j1⟩ := ins_cons.mp j
   obtain ⟨v2, r2, rfl, i2, j2⟩ := ins_cons.mp j1
   cases ins_nil.mp j2
   refine ⟨a, _, rfl, t, rfl, v1, _, rfl, v2, _, rfl, rfl, ?_⟩
   exact h _ _ (put_pl (by simp [hl]) (put_plA (fr := fr) hl S (hlen n r pr).1 s i1) (by simpa using (hlen n r pr).2) (Same.refl _) (i2.carry zn_drop))
 . obtain ⟨d1, d2, rfl⟩ := hpair d (mem_of_getElem? e)
   exact hb n d1 d2 r e pr
end
def spD (K : Frag) (m : Bool) (G : List D -> D -> Prop) : Sp := fun vs H Q _ => ∃ (Z : Zone) (ds : List D) (d : D), Z.Open H /\ Ins K H Z ds vs /\ G ds d /\ ∀ v H', Same H H' -> In K H' (out m Z H) d v -> Q v H'
structure Def (P : Program) (w : World) (K : Frag) (mg : Str -> Option Value) (base : Heap) (k : Nat) (x : Str) (m : Bool) (G : List D -> D -> Prop) : Prop where
 ex : ∃ f fd ps, FnOk P w K mg base CX0 k f fd ps (spD K m G) /\ mg x = some (.ref f) /\ keepIn K (.ref f) = true /\ Binds K fd ps []
section
variable {X : Cx} {ρ : List (Option D)} {m : Bool} {e : Expr} {es : List Expr} {ds : List D} {d : D} {pos p : Pos} {k : Nat} {x : Str} {G : List D -> D -> Prop}
theorem e_call (Df : Def X.prog X.w X.K X.mg X.base k x m G) (hr : Room k X.A) (ha : EA X ρ (e :: es) ds) (h : G ds d) (hg : Gl X x := by rfl) (hdb : (x == ("__debug__" : Str)) = false := by decide)
 (he : starEach (e :: es) X.env = (false, eval e X.env) :: starEach es X.env := by rfl) (hpl : (backTo pos (starEach es X.env)).any (·.1) = false := by rfl) : E X m ρ (.Call (.Name x p) (e :: es) [] pos) d := by
 obtain ⟨f, fd, ps, a, b, c, dd⟩ := Df.ex
 exact PE.mono (pe_call a hr hg b c dd .nil pass0 ha hdb he hpl) fun σ H Q z0 => el13 z0 fun Z oz en k => ⟨Z, oz, en, fun vs H1 s1 i1 => by
  show spD X.K m G (vs ++ []) H1 Q E0
  rw [append_nil]
  exact ⟨Z, ds, d, oz.same s1, i1, h, fun v H' s' i => k v H' (s1.trans s') (i.later s1)⟩⟩
end
def startD (N : List Str) (ds : List D) : Rho := ds.map (fun d => some (.pl false d)) ++ List.replicate (N.length - ds.length) none
theorem start_in {K : Frag} {Z : Zone} {H : Hp} {m : Bool} {N : List Str} {ds : List D} {vs : List V} (oz : Z.Open H) (h : Ins K H Z ds vs) : StIn K ⟨m, Z, H⟩ H (L2.start N vs ++ []) (startD N ds ++ []) (fun _ => []) := by
 refine ⟨Same.refl H, oz, fun _ => List.nodup_nil, fun i j a ha => by simp at ha, fun i a ha => by simp at ha, fun i a ha => by simp at ha, fun i sl e => ?_⟩
 rw [append_nil] at e ⊢
 unfold startD at e
 unfold L2.start
 by_cases hi : i < ds.length
 . rw [getElem?_append_left (by simpa using hi), getElem?_map] at e
   have hd : ds[i]? = some ds[i] := by simp [hi]
   rw [hd] at e
   have e' : some (Slot.pl false ds[i]) = some sl := by simpa using e
   cases e'
   obtain ⟨v, a, b⟩ := h.get hd
   have hv : i < vs.length := (List.getElem?_eq_some_iff.mp a).1
   refine ⟨v, by rw [getElem?_append_left (by simpa using hv), getElem?_map, a]; rfl, ?_⟩
   exact In.carry (Z' := ⟨Z.m, fun a => Z.S a /\ ¬ Owned (fun _ => []) a⟩) (Carry.of (Same.refl H) (fun a xs e z => ⟨z, fun ⟨j, hj⟩ => by simp at hj⟩) fun m => m) b
 . rw [getElem?_append_right (by simpa using hi), List.getElem?_replicate] at e
   split at e <;> cases e
section
variable {P : Program} {w : World} {K : Frag} {mg : Str -> Option Value} {base : Heap}
theorem fnD {x qual : Str} {st : Stmt} {f : Addr} {fd : FuncData} {N ps : List Str} {k : Nat} {m : Bool} {G : List D -> D -> Prop} (Fx : Fun K x qual st f fd) (S : FnScope N ps (defScope st))
 (hlen : ∀ ds d, G ds d -> ds.length = ps.length)
 (body : ∀ (cdv : Value) (A : Around) (outer : List Env) (s : Shared) (H : Hp) (E : XK) (Z : Zone) (ds : List D) (d : D), Room k (A.deeper (envOfC qual (defScope st) s.heap.objs.size f cdv)) -> G ds d ->
  SD (cxOf CX0 P w K mg base N qual (defScope st) f cdv A outer s H E).nox ⟨m, Z, H⟩ (defBody st) (startD N ds) { nx := fun _ => d = .non, rt := fun d' => d' = d }) : FnOk P w K mg base CX0 (k + 1) f fd ps (spD K m G) := by
 refine Fx.ok S (fun vs H Q E ⟨Z, ds, d, oz, i, g, kk⟩ => ?_) (fun cdv A outer s H vs Q E hr ⟨Z, ds, d, oz, i, g, kk⟩ => ?_)
 . rw [<- i.length]; exact hlen ds d g
 . refine ⟨_, body cdv A outer s H E Z ds d hr g, [], [], fun _ => [], ?_, start_in oz i, ⟨rfl, fun σ H' ⟨r, A', hl, S', e⟩ => ?_, fun σ H' ⟨r, A', hl, S', e⟩ => e.elim, fun σ H' ⟨r, A', hl, S', e⟩ => e.elim, fun v d' H' s' i' e => ?_, fun _ _ _ _ _ _ _ _ e => e.elim, fun _ _ _ _ _ _ _ _ _ _ _ _ _ e => e.elim⟩⟩
   . have := i.length
     simp [L2.start, startD]; omega
   . subst e
     exact kk .non H' S'.same (in_non.mpr rfl)
   . subst e
     exact kk v H' s' i'
theorem def_of {x qual : Str} {st : Stmt} {f : Addr} {fd : FuncData} {N ps : List Str} {k : Nat} {m : Bool} {G : List D -> D -> Prop} (Fx : Fun K x qual st f fd) (S : FnScope N ps (defScope st)) (hmg : mg x = some (.ref f)) (hb : Binds K fd ps [])
 (hlen : ∀ ds d, G ds d -> ds.length = ps.length)
 (body : ∀ (cdv : Value) (A : Around) (outer : List Env) (s : Shared) (H : Hp) (E : XK) (Z : Zone) (ds : List D) (d : D), Room k (A.deeper (envOfC qual (defScope st) s.heap.objs.size f cdv)) -> G ds d ->
  SD (cxOf CX0 P w K mg base N qual (defScope st) f cdv A outer s H E).nox ⟨m, Z, H⟩ (defBody st) (startD N ds) { nx := fun _ => d = .non, rt := fun d' => d' = d }) : Def P w K mg base (k + 1) x m G := ⟨f, fd, ps, fnD Fx S hlen body, hmg, Fx.kp, hb⟩
def lawG (ds : List D) (d : D) : Prop := ∃ ns : List Int, ns.length <= 63 /\ ds = [.lst (ns.map D.int)] /\ d = .bl true
def spLaw (K : Frag) : Sp := fun vs H Q _ => ∃ (a : Addr) (ns : List Int), vs = [.ref a] /\ SqL K H a (ns.map V.int) /\ ns.length <= 63 /\ TabsOk H /\ ∀ H', Q (.bl true) H'
theorem spLaw_of {H : Hp} {vs : List V} {Q : VK} {E : XK} (h : spLaw K vs H Q E) : spD K false lawG vs H Q E := by
 obtain ⟨a, ns, rfl, hS, hl, tb, q⟩ := h
 refine ⟨anyZ, [.lst (ns.map D.int)], .bl true, anyZ_open tb, Ins.one (in_lst.mpr ⟨a, _, rfl, ?_, ins_ints ns⟩), ⟨ns, hl, rfl, rfl⟩, fun v H' s i => ?_⟩
 . rcases hS with (h | h) | h
   . exact .inl ⟨h, trivial⟩
   . exact .inr ⟨rfl, .inl h⟩
   . exact .inr ⟨rfl, .inr h⟩
 . rw [in_bl.mp i]; exact q H'
theorem law_of {k : Nat} {f : Addr} {fd : FuncData} {ps : List Str} (h : FnOk P w K mg base CX0 k f fd ps (spD K false lawG)) : FnOk P w K mg base CX0 k f fd ps (spLaw K) := h.imp fun _ _ _ _ q => spLaw_of q
end
section
variable {X : Cx} {F : Fn} {ρ : Rho} {Q : EndD} {rest : List Stmt} {e : Expr} {d : D} {pos p : Pos} {x : Str} {fr m1 : Bool} {ds : List D} {dss : List (List D)}
theorem nodup1 {a : Addr} : [a].Nodup := by simp
theorem sd_own (i : Nat) {x : Str} {ds : List D} (he : E X true (view true false ρ) e (.lst ds)) (fl : flats ds = true) (hr : SD X F rest (ρ.set i (some (.ow true ds))) Q) (hN : X.N.Nodup) (hi : X.N[i]? = some x := by rfl)
 (hx : Loc X.env.scope x := by first | exact Or.inl rfl | exact Or.inr rfl) (hρ : i < ρ.length := by exact of_decide_eq_true rfl) (hs : swapsWith e (some (.Name x p)) pos.line X.env = pure false := by rfl) (hf : X.fn x = true \/ X.env.scope.names.lookup x = some .local := by first | exact .inl rfl | exact .inr rfl) :
 SD X F (.Assign [.Name x p] e pos :: rest) ρ Q :=
 sd_then (PS.mono (ps_set hN hi hx he hs hf) fun Q' σ H z0 => el33 z0 fun hv hρ' A hl S f => ⟨_, vz_open S true false, S.env hl true false, fun v H1 s1 i1 => by
  obtain ⟨l, xs, rfl, at', j⟩ := in_lst.mp i1
  obtain ⟨e1, e2⟩ : H1 l = some (.lst xs) /\ H l = none := by
   rcases at' with z | z
   . exact z
   . exact absurd z.1 (by simp [out, nw])
  refine f.nx _ H1 ⟨_, putA A i [l], by simp [hl], ?_, rfl⟩
  rw [<- set_app (by omega), <- set_app hρ]
  exact S.put (by rw [List.length_append]; omega) (by rw [List.length_append]; omega) s1 nodup1 (fun a ha => by
   have : a = l := by simpa using ha
   subst this
   exact ⟨e2, .l xs, e1⟩) ⟨l, xs, rfl, rfl, e1, j.flat' fl⟩⟩) hr
theorem sd_own2 (i : Nat) {x : Str} (he : E X true (view true false ρ) e (.lst [])) (hr : SD X F rest (ρ.set i (some (.ow2 true []))) Q) (hN : X.N.Nodup) (hi : X.N[i]? = some x := by rfl)
 (hx : Loc X.env.scope x := by first | exact Or.inl rfl | exact Or.inr rfl) (hρ : i < ρ.length := by exact of_decide_eq_true rfl) (hs : swapsWith e (some (.Name x p)) pos.line X.env = pure false := by rfl) (hf : X.fn x = true \/ X.env.scope.names.lookup x = some .local := by first | exact .inl rfl | exact .inr rfl) :
 SD X F (.Assign [.Name x p] e pos :: rest) ρ Q :=
 sd_then (PS.mono (ps_set hN hi hx he hs hf) fun Q' σ H z0 => el33 z0 fun hv hρ' A hl S f => ⟨_, vz_open S true false, S.env hl true false, fun v H1 s1 i1 => by
  obtain ⟨l, xs, rfl, at', j⟩ := in_lst.mp i1
  cases ins_nil.mp j
  obtain ⟨e1, e2⟩ : H1 l = some (.lst []) /\ H l = none := by
   rcases at' with z | z
   . exact z
   . exact absurd z.1 (by simp [out, nw])
  refine f.nx _ H1 ⟨_, putA A i [l], by simp [hl], ?_, rfl⟩
  rw [<- set_app (by omega), <- set_app hρ]
  exact S.put (by rw [List.length_append]; omega) (by rw [List.length_append]; omega) s1 nodup1 (fun a ha => by
   have : a = l := by simpa using ha
   subst this
   exact ⟨e2, .l _, e1⟩) ⟨l, [], rfl, rfl, e1, .nil⟩⟩) hr
theorem set_self {α : Type} {l : List α} {i : Nat} {v : α} (h : l[i]? = some v) : l.set i v = l := by
 obtain ⟨hi, e⟩ := List.getElem?_eq_some_iff.mp h
 rw [<- e, List.set_getElem_self]
theorem StIn.ow {K : Frag} {H : Hp} {σ hv : St} {hρ : Rho} {A : Nat -> List Addr} {i : Nat} (S : StIn K F H (σ ++ hv) (ρ ++ hρ) A) (hl : σ.length = ρ.length) (h : ρ[i]? = some (some (.ow fr ds))) :
 ∃ l xs, σ[i]? = some (some (.ref l)) /\ A i = [l] /\ H l = some (.lst xs) /\ Ins K H (zn F (Owned A) fr) ds xs := by
 have hi : i < ρ.length := (List.getElem?_eq_some_iff.mp h).1
 obtain ⟨v, a, l, xs, e1, rfl, e2, j⟩ := S.at' i _ (by rw [getElem?_append_left hi]; exact h)
 rw [getElem?_append_left (by omega)] at a
 exact ⟨l, xs, a, e1, e2, j⟩
theorem put_ow {K : Frag} {hv : St} {hρ : Rho} {σ : St} {H : Hp} {A : Nat -> List Addr} {i : Nat} {l : Addr} {xs ys : List V} {es : List D} (hl : σ.length = ρ.length) (S : StIn K F H (σ ++ hv) (ρ ++ hρ) A) (h : σ[i]? = some (some (.ref l))) (hA : A i = [l]) (hx : H l = some (.lst xs))
 (j : Ins K H (zn F (Owned A) fr) es ys) : StOk K F hv hρ (fun r => r = ρ.set i (some (.ow fr es))) σ (upd H l (.lst ys)) := by
 have hi : i < σ.length := (List.getElem?_eq_some_iff.mp h).1
 refine ⟨_, putA A i [l], by simp [hl], ?_, rfl⟩
 have key := S.re (i := i) (v := .ref l) (sl := .ow fr es) (l := [l]) (H2 := upd H l (.lst ys)) (by rw [List.length_append]; omega) (by rw [List.length_append]; omega) (S.same.write (S.new i l (by rw [hA]; simp)) hx) (fun b o e _ hb => ?_) nodup1 (fun a ha => ?_) ⟨l, ys, rfl, rfl, upd_same, ?_⟩
 . rw [set_self (by rw [getElem?_append_left hi]; exact h), set_app (by omega)] at key
   exact key
 . rw [hA] at hb
   have : b ≠ l := by simpa using hb
   rw [upd_ne this]; exact e
 . have : a = l := by simpa using ha
   subst this
   exact ⟨.inl (by rw [hA]; simp), .l ys, upd_same⟩
 . have eqA : putA A i [l] = A := by
    funext k
    by_cases q : k = i
    . rw [q, putA_same, hA]
    . rw [putA_ne q]
   rw [eqA]
   refine j.carry (.write hx ?_)
   unfold zn
   have o : Owned A l := ⟨i, by rw [hA]; simp⟩
   cases fr
   . exact fun z => z.2 o
   . exact fun z => z.2 o
theorem sd_append (i : Nat) {x : Str} {ap cp : Pos} {ds : List D} (fr : Bool) {d : D} (h : ρ[i]? = some (some (.ow fr ds)) := by rfl) (he : E X m1 (view false fr ρ) e d) (hz : ds.length < 1000) (hr : SD X F rest (ρ.set i (some (.ow fr (ds ++ [d])))) Q)
 (hN : X.N[i]? = some x := by rfl) (hv : Vis X.env.scope x := by first | exact Or.inl rfl | exact Or.inr (Or.inl rfl) | exact Or.inr (Or.inr rfl)) (hd : (x == ("__debug__" : Str)) = false := by decide) (hcd : (x == ("__classdict__" : Str)) = false := by decide)
 (hbase : attributeBase (.Name x p) "append" X.env (eval (.Name x p) X.env) = eval (.Name x p) X.env := by rfl) (hline : (ap.endLine == cp.line) = true := by rfl)
 (hs : starEach [e] X.env = [(false, eval e X.env)] := by rfl) (hsw : swapsWith (.Call (.Attribute (.Name x p) "append" ap) [e] [] cp) none pos.line X.env = pure false := by rfl) :
 SD X F (.Expr (.Call (.Attribute (.Name x p) "append" ap) [e] [] cp) pos :: rest) ρ Q := by
 refine sd_then (PS.mono (ps_expr (pe_bm PySem.F.plainAttrs_list PySem.F.slot_list_append PySem.F.type_list_append mt_append (pe_var hN hv hd hcd) (pa_cons he pa_nil (by rw [hs]; rfl)) hbase (by rw [hs]; rfl) hline (by rw [hs]; rfl) rfl) hsw) ?_) hr
 rintro Q' σ H ⟨hv, hρ, A, hl, S, f⟩
 obtain ⟨l, xs, e1, e2, e3, j⟩ := S.ow hl h
 refine ⟨.ref l, e1, .inl ⟨rfl, xs, SqL.of e3⟩, _, vz_open S false fr, S.env hl false fr, fun v H1 s1 i1 => ?_⟩
 have i2 : In X.K H1 (zn F (Owned A) fr) d v := i1.plain (vz_open S false fr)
 refine ⟨l, xs, v, rfl, rfl, s1.at e3, by rw [<- j.length]; exact small1000 (by omega), f.nx _ _ (put_ow hl (S.grow s1) e1 e2 (s1.at e3) ((j.same s1).append (Ins.one i2)))⟩
theorem sd_appendF (i : Nat) {x : Str} {ap cp : Pos} {ds : List D} (fr : Bool) {d : D} (h : ρ[i]? = some (some (.ow fr ds)) := by rfl) (he : E X m1 (view true false ρ) e d) (fl : d.flat = true) (hz : ds.length < 1000) (hr : SD X F rest (ρ.set i (some (.ow fr (ds ++ [d])))) Q)
 (hN : X.N[i]? = some x := by rfl) (hv : Vis X.env.scope x := by first | exact Or.inl rfl | exact Or.inr (Or.inl rfl) | exact Or.inr (Or.inr rfl)) (hd : (x == ("__debug__" : Str)) = false := by decide) (hcd : (x == ("__classdict__" : Str)) = false := by decide)
 (hbase : attributeBase (.Name x p) "append" X.env (eval (.Name x p) X.env) = eval (.Name x p) X.env := by rfl) (hline : (ap.endLine == cp.line) = true := by rfl)
 (hs : starEach [e] X.env = [(false, eval e X.env)] := by rfl) (hsw : swapsWith (.Call (.Attribute (.Name x p) "append" ap) [e] [] cp) none pos.line X.env = pure false := by rfl) :
 SD X F (.Expr (.Call (.Attribute (.Name x p) "append" ap) [e] [] cp) pos :: rest) ρ Q := by
 refine sd_then (PS.mono (ps_expr (pe_bm PySem.F.plainAttrs_list PySem.F.slot_list_append PySem.F.type_list_append mt_append (pe_var hN hv hd hcd) (pa_cons he pa_nil (by rw [hs]; rfl)) hbase (by rw [hs]; rfl) hline (by rw [hs]; rfl) rfl) hsw) ?_) hr
 rintro Q' σ H ⟨hv, hρ, A, hl, S, f⟩
 obtain ⟨l, xs, e1, e2, e3, j⟩ := S.ow hl h
 refine ⟨.ref l, e1, .inl ⟨rfl, xs, SqL.of e3⟩, _, vz_open S true false, S.env hl true false, fun v H1 s1 i1 => ?_⟩
 refine ⟨l, xs, v, rfl, rfl, s1.at e3, by rw [<- j.length]; exact small1000 (by omega), f.nx _ _ (put_ow hl (S.grow s1) e1 e2 (s1.at e3) ((j.same s1).append (Ins.one (i1.flat' fl))))⟩
end
theorem strsAre_of {zs : List Str} : ∀ {us : List Value}, Vals (zs.map V.str) us -> StrsAre us zs := by
 induction zs with
 | nil => intro us r; rw [map_nil] at r; cases r; exact .nil
 | cons n ns ih =>
  intro us r
  rw [map_cons] at r
  cases r with
  | cons r1 r2 =>
   obtain ⟨t, e⟩ := r1
   subst e
   exact .cons n t (ih r2)
theorem vals_of_strs : ∀ (l : List (Str × Tok)), Vals ((l.map (·.1)).map V.str) (strValues l)
 | [] => .nil
 | (x, t) :: l => .cons ⟨t, rfl⟩ (vals_of_strs l)
section
variable {X : Cx}
theorem mt_join : MtR X "str.join" (fun x xs H Q => ∃ sep l zs, x = .str sep /\ xs = [.ref l] /\ SqL X.K H l (zs.map V.str) /\ sep.length <= 16 /\ (zs.map (·.length)).sum + zs.length <= 1048576 /\ Q (.str (Txt.join sep zs)) H) := by
 intro pins s σ H x xs v us Q I rx rs h
 obtain ⟨sep, l, zs, rfl, rfl, hl, h1, h2, q⟩ := h
 obtain ⟨t, rfl⟩ := rx
 obtain ⟨u, rfl, ru⟩ := Vals.one rs
 cases ru
 obtain ⟨its, r, pl, hz⟩ := I.list hl
 exact join_listW pl.isList (by simpa using strsAre_of r) h1 h2 fun t' k => ⟨.str (Txt.join sep zs), H, I.tok _, ⟨_, rfl⟩, q⟩
theorem mt_lower : MtR X "str.lower" (fun x xs H Q => ∃ z, x = .str z /\ xs = [] /\ z.length <= 5592405 /\ Q (.str (Txt.lower z)) H) := by
 intro pins s σ H x xs v us Q I rx rs h
 obtain ⟨z, rfl, rfl, h1, q⟩ := h
 obtain ⟨t, rfl⟩ := rx
 cases Vals.zero rs
 exact SCL.lower h1 fun _ => ⟨.str (Txt.lower z), H, I.tok _, ⟨_, rfl⟩, q⟩
theorem newStrs {pins : List (Addr × Obj)} {σ : St} {H : Hp} {s : Shared} (I : Inv X pins σ H s) {l : List (Str × Tok)} {k : Nat} (hz : l.length <= sizeLine) :
 Inv X pins σ (upd H s.heap.objs.size (.lst ((l.map (·.1)).map V.str))) { s with heap := s.heap.push { cls := .type "list", data := .seq (strValues l).toArray }, toks := k } :=
 I.laid (fun b u e => get?_push_of_some _ e) (Nat.le_refl _) ⟨by simpa using hz, strValues l, 0, vals_of_strs l, get?_push_size _ rfl⟩
theorem mt_split0 : MtR X "str.split" (fun x xs H Q => ∃ z, x = .str z /\ xs = [] /\ z.length <= sizeLine /\ (Builtin.Str.spaceWords z (z.length + 1)).length <= sizeLine /\ ∀ p, H p = none -> Q (.ref p) (upd H p (.lst ((Txt.words z).map V.str)))) := by
 intro pins s σ H x xs v us Q I rx rs h
 obtain ⟨z, rfl, rfl, h1, h2, q⟩ := h
 obtain ⟨t, rfl⟩ := rx
 cases Vals.zero rs
 have fr := I.hok.fresh (Nat.le_refl _)
 refine call_meets F.slot_str_split (typeIs_str _ _ _) F.entry_str_split (F.args_str_split_1 _) (meets_str_split_space z t h1 h2) ?_
 cases hw : Builtin.Str.spaceWords z (z.length + 1) == [(0, z.length)]
 . simp only [Bool.false_eq_true, if_false]
   rw [strsFrom_eq]
   have e : (numbered s.toks (wordsOf z)).map (·.1) = Txt.words z := (numbered_texts _ _).trans (if_neg (ne_true_of_eq_false hw)).symm
   have hl : (numbered s.toks (wordsOf z)).length <= sizeLine := by
    have : (numbered s.toks (wordsOf z)).length = ((numbered s.toks (wordsOf z)).map (·.1)).length := by simp
    rw [this, numbered_texts]
    simpa [wordsOf] using h2
   refine ⟨.ref s.heap.objs.size, _, newStrs I hl, rfl, ?_⟩
   rw [e]
   exact q _ fr
 . simp only [if_true]
   have e : [(z, t)].map (·.1) = Txt.words z := (if_pos hw).symm
   refine ⟨.ref s.heap.objs.size, _, newStrs I (l := [(z, t)]) (k := s.toks) (by simp; exact Nat.le_of_lt (small1000 (by decide))), rfl, ?_⟩
   rw [e]
   exact q _ fr
theorem mt_split1 : MtR X "str.split" (fun x xs H Q => ∃ z y, x = .str z /\ xs = [.str y] /\ (y.length == 0) = false /\ z.length <= sizeLine /\ (Builtin.Str.partsBetween z (Builtin.Str.occurrences z y 0 z.length (z.length + 1)) y.length).length <= sizeLine /\
 ∀ p, H p = none -> Q (.ref p) (upd H p (.lst ((Txt.split z y).map V.str)))) := by
 intro pins s σ H x xs v us Q I rx rs h
 obtain ⟨z, y, rfl, rfl, hy, h1, h2, q⟩ := h
 obtain ⟨t, rfl⟩ := rx
 obtain ⟨u', rfl, ru⟩ := Vals.one rs
 obtain ⟨u, rfl⟩ := ru
 have fr := I.hok.fresh (Nat.le_refl _)
 have one : ∀ k, Txt.split z y = [z] -> EP X pins σ Q (.ref s.heap.objs.size) { s with heap := s.heap.push { cls := .type "list", data := .seq (strValues [(z, t)]).toArray }, toks := k } := fun k e => by
  refine ⟨.ref s.heap.objs.size, _, newStrs I (l := [(z, t)]) (k := k) (by simp; exact Nat.le_of_lt (small1000 (by decide))), rfl, ?_⟩
  have e' : [(z, t)].map (·.1) = Txt.split z y := e.symm
  rw [e']
  exact q _ fr
 cases h3 : (decide (z.length < y.length) || decide (Builtin.Str.strKind z < Builtin.Str.strKind y))
 . cases hf : (Builtin.Str.occurrences z y 0 z.length (z.length + 1)).isEmpty
   . refine call_meets F.slot_str_split (typeIs_str _ _ _) F.entry_str_split (F.args_str_split_2 _ _) (meets_str_split_sep z y t u h3 hy hf h1 h2) ?_
     show wants _ _ _ { s with toks := _, heap := s.heap.push { cls := .type "list", data := .seq (strsFrom s.toks (Builtin.Str.partsBetween z (Builtin.Str.occurrences z y 0 z.length (z.length + 1)) y.length)).toArray } }
     rw [strsFrom_eq]
     have e : (numbered s.toks (Builtin.Str.partsBetween z (Builtin.Str.occurrences z y 0 z.length (z.length + 1)) y.length)).map (·.1) = Txt.split z y := (numbered_texts _ _).trans ((if_neg (ne_true_of_eq_false h3)).trans (if_neg (ne_true_of_eq_false hf))).symm
     have hl : (numbered s.toks (Builtin.Str.partsBetween z (Builtin.Str.occurrences z y 0 z.length (z.length + 1)) y.length)).length <= sizeLine := by
      have : ∀ l : List (Str × Tok), l.length = (l.map (·.1)).length := fun l => by simp
      rw [this, numbered_texts]
      exact h2
     refine ⟨.ref s.heap.objs.size, _, newStrs I hl, rfl, ?_⟩
     rw [e]
     exact q _ fr
   . exact call_meets F.slot_str_split (typeIs_str _ _ _) F.entry_str_split (F.args_str_split_2 _ _) (meets_str_split_not_found z y t u h3 hy hf)
      (one s.toks ((if_neg (ne_true_of_eq_false h3)).trans (if_pos hf)))
 . exact call_meets F.slot_str_split (typeIs_str _ _ _) F.entry_str_split (F.args_str_split_2 _ _) (meets_str_split_cannot_occur z y t u h3) (one s.toks (if_pos h3))
theorem sl_str : SlR X (fun x lo hi H Q => ∃ z, x = .str z /\ z.length <= sizeLine /\ Q (.str (Txt.slice z lo hi)) H) := by
 intro pins s σ H x v vl vu lo hi sl Q I rx hs pl pu h
 obtain ⟨z, rfl, hz, q⟩ := h
 obtain ⟨t, rfl⟩ := rx
 refine ⟨"str", _, F.slot_str_getitem.lookup, typeIs_str _ _ _, ?_⟩
 have fin : ∀ t' k, EP X pins σ Q (.str (Txt.slice z lo hi) t') { s with toks := k } := fun t' k => ⟨.str (Txt.slice z lo hi), H, I.tok k, ⟨_, rfl⟩, q⟩
 have key : ∀ (l u : Option (Int × Tok)), vl = partValue l -> vu = partValue u -> l.map (·.1) = lo -> u.map (·.1) = hi -> wpAny (model X.prog X.w) X.A (getItem (.str z t) (.ref sl)) (EP X pins σ Q) X.xe s := fun l u e1 e2 e3 e4 => by
  subst e1 e2 e3 e4
  exact wpAny_getItem_str_slice (l := l) (u := u) (st := none) hs rfl (post_val_or_str ⟨Nat.le_trans (Txt.slice_le z _ _) hz, fun t' k => fin t' k⟩)
 cases pl with
 | none =>
  cases pu with
  | none => exact key none none rfl rfl rfl rfl
  | int j tj => exact key none (some (j, tj)) rfl rfl rfl rfl
 | int i ti =>
  cases pu with
  | none => exact key (some (i, ti)) none rfl rfl rfl rfl
  | int j tj => exact key (some (i, ti)) (some (j, tj)) rfl rfl rfl rfl
theorem call_all : CallR X (.builtin "all") (fun xs H Q => X.A.handled = none /\ ∃ (l : Addr) (bs : List Bool), xs = [.ref l] /\ SqL X.K H l (bs.map V.bl) /\ Q (.bl (bs.all id)) H) := by
 intro pins s σ H xs us Q I r h
 obtain ⟨hh, l, bs, rfl, hl, q⟩ := h
 obtain ⟨u, rfl, ru⟩ := vals1 r
 cases ru
 obtain ⟨its, rv, pl, hz⟩ := I.list hl
 have hget : ∀ (i : Nat) (v : Value), its.toArray[i]? = some v -> v = Value.bool (bs.getD i false) := fun i v e => by
  have e' : its[i]? = some v := by simpa using e
  have hi : i < its.length := (List.getElem?_eq_some_iff.mp e').1
  have hlen := rv.length
  simp at hlen
  obtain ⟨w', h1, h2⟩ := rv.get (i := i) (x := .bl bs[i]) (by simp)
  rw [e'] at h1
  cases h1
  have h2 : v = .bool bs[i] := h2
  have hb : i < bs.length := by omega
  rw [h2]
  simp [hb]
 refine call_all_walk (wpAny_pyIter_list pl.isList ?_)
 obtain ⟨o, n, ho, hc, hd, hs⟩ := id pl
 refine ⟨s.heap.objs.size, _, _, _, _, _, fun i => bs.getD i false, rfl, Walks.list (A := X.A.in1) hh s.heap.objs.size l (Nat.ne_of_lt (lt_size ho)) its.toArray, ⟨⟨_, get?_push_size _ rfl, rfl, rfl⟩, ⟨o, get?_push_of_some _ ho, hc, n, hs⟩⟩, ?_, fun h' tk hk => ?_⟩
 . intro i v s' Q' E' hP hQ
   rw [hget i v hP]
   exact wpAny_truthy_bool hQ
 . refine ⟨.bl (bs.all id), H, I.kept (h' := h') (t' := tk) (fun b ob e => hk b ob (by simp; exact Nat.ne_of_lt (lt_size e)) (get?_push_of_some _ e)), ?_, q⟩
   show Value.bool _ = Value.bool _
   congr 1
   have hlen := rv.length
   simp at hlen
   rw [size_toArray, <- hlen]
   rw [Bool.eq_iff_iff, List.all_eq_true, List.all_eq_true]
   constructor
   . intro hq b hb
     obtain ⟨i, hi, e⟩ := List.mem_iff_getElem.mp hb
     have := hq i (by simpa using hi)
     simp [hi, e] at this
     exact this
   . intro hq i hi
     have hi' : i < bs.length := by simpa using hi
     have := hq bs[i] (getElem_mem hi')
     simp [hi']
     exact this
end
section
variable {X : Cx} {ρ : List (Option D)} {m m1 m2 : Bool} {a e o : Expr} {d : D} {pos p ap cp : Pos} {ds : List D}
theorem e_join {sep : Str} {zs : List Str} (ho : E X m1 ρ o (.str sep)) (ha : E X m2 ρ a (.lst (zs.map D.str))) (h1 : sep.length <= 16) (h2 : (zs.map (·.length)).sum + zs.length <= 1048576)
 (hbase : attributeBase o "join" X.env (eval o X.env) = eval o X.env := by rfl) (hline : (ap.endLine == cp.line) = true := by rfl) (hs : starEach [a] X.env = [(false, eval a X.env)] := by rfl) : E X true ρ (.Call (.Attribute o "join" ap) [a] [] cp) (.str (Txt.join sep zs)) :=
 PE.mono (pe_bm F.plainAttrs_str F.slot_str_join F.type_str_join mt_join ho (pa_cons ha pa_nil (by rw [hs]; rfl)) hbase (by rw [hs]; rfl) hline (by rw [hs]; rfl) rfl) fun σ H Q z0 => el13 z0 fun Z oz en k => ⟨Z, oz, en, fun x H1 s1 i1 => by
  cases in_str.mp (i1.plain oz)
  refine ⟨rfl, Z, oz.same s1, en.same s1, fun y H2 s2 i2 => ?_⟩
  obtain ⟨l, xs, rfl, at', j⟩ := in_lst.mp (i2.plain (oz.same s1))
  rw [ins_strs_inv j] at at'
  exact ⟨sep, l, zs, rfl, rfl, at'.sq, h1, h2, k _ H2 (s1.trans s2) (in_str.mpr rfl)⟩⟩
theorem e_lower {z : Str} (ho : E X m1 ρ o (.str z)) (h1 : z.length <= 5592405) (hbase : attributeBase o "lower" X.env (eval o X.env) = eval o X.env := by rfl) (hline : (ap.endLine == cp.line) = true := by rfl) : E X true ρ (.Call (.Attribute o "lower" ap) [] [] cp) (.str (Txt.lower z)) :=
 PE.mono (pe_bm0 F.plainAttrs_str F.slot_str_lower F.type_str_lower mt_lower ho hbase hline) fun σ H Q z0 => el13 z0 fun Z oz en k => ⟨Z, oz, en, fun x H1 s1 i1 => by
  cases in_str.mp (i1.plain oz)
  exact ⟨rfl, z, rfl, rfl, h1, k _ H1 s1 (in_str.mpr rfl)⟩⟩
theorem e_slS {z : Str} {lo hi : Option Expr} {l u : Option Int} {p2 : Pos} (ha : E X m1 ρ a (.str z)) (hl : EO X ρ lo l) (hu : EO X ρ hi u) (hz : z.length <= sizeLine) : E X true ρ (.Subscript a (.Slice lo hi none p2) pos) (.str (Txt.slice z l u)) :=
 PE.mono (pe_slice sl_str ha hl hu) fun σ H Q z0 => el13 z0 fun Z oz en k => ⟨Z, oz, en, fun x H1 s1 i1 => ⟨Z, oz.same s1, en.same s1, fun H2 s2 => ⟨Z, oz.same (s1.trans s2), en.same (s1.trans s2), fun H3 s3 =>
  ⟨z, in_str.mp (i1.plain oz), hz, k _ H3 ((s1.trans s2).trans s3) (in_str.mpr rfl)⟩⟩⟩⟩
theorem e_split0 {z : Str} (ho : E X m1 ρ o (.str z)) (h1 : z.length <= sizeLine) (h2 : (Builtin.Str.spaceWords z (z.length + 1)).length <= sizeLine) (hbase : attributeBase o "split" X.env (eval o X.env) = eval o X.env := by rfl) (hline : (ap.endLine == cp.line) = true := by rfl) :
 E X true ρ (.Call (.Attribute o "split" ap) [] [] cp) (.lst ((Txt.words z).map D.str)) :=
 E.mode (PE.mono (pe_bm0 F.plainAttrs_str F.slot_str_split F.type_str_split mt_split0 ho hbase hline) fun σ H Q z0 => el13 z0 fun Z oz en k => ⟨Z, oz, en, fun x H1 s1 i1 => by
  cases in_str.mp (i1.plain oz)
  exact ⟨rfl, z, rfl, rfl, h1, h2, fun p hp => k _ _ (s1.trans (same_new hp)) (in_lst.mpr ⟨p, _, rfl, .inl ⟨upd_same, s1.free hp⟩, ins_strs _⟩)⟩⟩)
theorem e_split1 {z y : Str} (ho : E X m1 ρ o (.str z)) (ha : E X m2 ρ a (.str y)) (hy : (y.length == 0) = false) (h1 : z.length <= sizeLine) (h2 : (Builtin.Str.partsBetween z (Builtin.Str.occurrences z y 0 z.length (z.length + 1)) y.length).length <= sizeLine)
 (hbase : attributeBase o "split" X.env (eval o X.env) = eval o X.env := by rfl) (hline : (ap.endLine == cp.line) = true := by rfl) (hs : starEach [a] X.env = [(false, eval a X.env)] := by rfl) :
 E X true ρ (.Call (.Attribute o "split" ap) [a] [] cp) (.lst ((Txt.split z y).map D.str)) :=
 E.mode (PE.mono (pe_bm F.plainAttrs_str F.slot_str_split F.type_str_split mt_split1 ho (pa_cons ha pa_nil (by rw [hs]; rfl)) hbase (by rw [hs]; rfl) hline (by rw [hs]; rfl) rfl) fun σ H Q z0 => el13 z0 fun Z oz en k => ⟨Z, oz, en, fun x H1 s1 i1 => by
  cases in_str.mp (i1.plain oz)
  refine ⟨rfl, Z, oz.same s1, en.same s1, fun w H2 s2 i2 => ?_⟩
  cases in_str.mp (i2.plain (oz.same s1))
  exact ⟨z, y, rfl, rfl, hy, h1, h2, fun p hp => k _ _ ((s1.trans s2).trans (same_new hp)) (in_lst.mpr ⟨p, _, rfl, .inl ⟨upd_same, (s1.trans s2).free hp⟩, ins_strs _⟩)⟩⟩)
theorem e_lenL (ha : E X m1 ρ a (.lst ds)) (hm : X.mg "len" = none) (hg : Gl X "len" := by rfl) (hs : starEach [a] X.env = [(false, eval a X.env)] := by rfl) : E X true ρ (.Call (.Name "len" p) [a] [] pos) (.int ds.length) :=
 PE.mono (pe_callB call_len_seq hg hm PySem.boot_len (pa_cons ha pa_nil (by rw [hs]; rfl)) (by decide) (by decide) (by rw [hs]; rfl) rfl) fun σ H Q z0 => el13 z0 fun Z oz en k => ⟨Z, oz, en, fun x H1 s1 i1 => by
  obtain ⟨l, xs, rfl, at', j⟩ := in_lst.mp (i1.plain oz)
  exact ⟨l, xs, rfl, .inl at'.sq, k _ H1 s1 (in_int.mpr (by rw [j.length]))⟩⟩
theorem e_lenS {z : Str} (ha : E X m1 ρ a (.str z)) (hz : z.length <= sizeLine) (hm : X.mg "len" = none) (hg : Gl X "len" := by rfl) (hs : starEach [a] X.env = [(false, eval a X.env)] := by rfl) : E X true ρ (.Call (.Name "len" p) [a] [] pos) (.int z.length) :=
 PE.mono (pe_callB call_len_str hg hm PySem.boot_len (pa_cons ha pa_nil (by rw [hs]; rfl)) (by decide) (by decide) (by rw [hs]; rfl) rfl) fun σ H Q z0 => el13 z0 fun Z oz en k => ⟨Z, oz, en, fun x H1 s1 i1 => by
  cases in_str.mp (i1.plain oz)
  exact ⟨z, rfl, hz, k _ H1 s1 (in_int.mpr rfl)⟩⟩
theorem ins_bls_inv {K : Frag} {H : Hp} {Z : Zone} : ∀ {bs : List Bool} {vs : List V}, Ins K H Z (bs.map D.bl) vs -> vs = bs.map V.bl
 | [], _, h => ins_nil.mp h
 | n :: ns, _, h => by
  obtain ⟨v, r, rfl, a, j⟩ := ins_cons.mp h
  rw [in_bl.mp a, ins_bls_inv j]; rfl
theorem e_all {bs : List Bool} (ha : E X m1 ρ a (.lst (bs.map D.bl))) (hh : X.A.handled = none) (hm : X.mg "all" = none) (hg : Gl X "all" := by rfl) (hs : starEach [a] X.env = [(false, eval a X.env)] := by rfl) : E X true ρ (.Call (.Name "all" p) [a] [] pos) (.bl (bs.all id)) :=
 PE.mono (pe_callB call_all hg hm boot_all (pa_cons ha pa_nil (by rw [hs]; rfl)) (by decide) (by decide) (by rw [hs]; rfl) rfl) fun σ H Q z0 => el13 z0 fun Z oz en k => ⟨Z, oz, en, fun x H1 s1 i1 => by
  obtain ⟨l, xs, rfl, at', j⟩ := in_lst.mp (i1.plain oz)
  rw [ins_bls_inv j] at at'
  exact ⟨hh, l, bs, rfl, at'.sq, k _ H1 s1 (in_bl.mpr rfl)⟩⟩
theorem e_listL (ha : E X m1 ρ a (.lst ds)) (hm : X.mg "list" = none) (hmm : m = true -> m1 = true \/ flats ds = true := by intro h; first | exact .inl h | cases h) (hg : Gl X "list" := by rfl) (hs : starEach [a] X.env = [(false, eval a X.env)] := by rfl) : E X m ρ (.Call (.Name "list" p) [a] [] pos) (.lst ds) :=
 PE.mono (pe_callTy call_list_of hg hm boot_list (pa_cons ha pa_nil (by rw [hs]; rfl)) (by decide) (by decide) (by rw [hs]; rfl) rfl) fun σ H Q z0 => el13 z0 fun Z oz en k => ⟨Z, oz, en, fun x H1 s1 i1 => by
  obtain ⟨l, xs, rfl, at', j⟩ := in_lst.mp i1
  refine ⟨l, xs, rfl, .inl at'.sq, fun q hq => k (.ref q) _ (s1.trans (same_new hq)) (in_lst.mpr ⟨q, xs, rfl, .inl ⟨upd_same, ?_⟩, ?_⟩)⟩
  . cases m
    . exact oz q (s1.free hq)
    . exact s1.free hq
  . have jc := j.same (same_new (o := .lst xs) hq)
    cases m
    . cases m1
      . exact jc
      . exact jc.up oz
    . rcases hmm rfl with h | h
      . subst h; exact jc
      . exact jc.flat' h⟩
end
def keq : Key -> D -> Bool
 | .inl a, .int b => a == b
 | .inl a, .bl b => a == (if b then 1 else 0)
 | .inr a, .str b => a == b
 | _, _ => false
def keqs : List Key -> List D -> Bool
 | [], [] => true
 | k :: ks, d :: ds => keq k d && keqs ks ds
 | _, _ => false
mutual
def deq : D -> D -> Bool
 | .non, .non => true
 | .bl a, .bl b => a == b
 | .bl a, .int b => (if a then 1 else 0) == b
 | .int a, .bl b => a == (if b then 1 else 0)
 | .int a, .int b => a == b
 | .str a, .str b => a == b
 | .lst a, .lst b => deqs a b
 | .tup a, .tup b => deqs a b
 | .tup a, .ktup ks => deqs a (ks.map kD)
 | .dct _, .dct _ => true
 | .ktup ks, .tup b => keqs ks b
 | .ktup ks, .ktup ks' => keqs ks (ks'.map kD)
 | _, _ => false
def deqs : List D -> List D -> Bool
 | [], [] => true
 | a :: as, b :: bs => deq a b && deqs as bs
 | _, _ => false
end
mutual
def D.dep : D -> Nat
 | .lst ds => deps ds + 1
 | .tup ds => deps ds + 1
 | .dct _ => 100000
 | .ktup _ => 1
 | _ => 0
def deps : List D -> Nat
 | [] => 0
 | d :: ds => max d.dep (deps ds)
end
theorem deps_mem : ∀ {ds : List D} {d : D}, d ∈ ds -> d.dep <= deps ds
 | [], _, h => by simp at h
 | e :: ds, d, h => by
  unfold deps
  rcases mem_cons.mp h with rfl | h
  . exact Nat.le_max_left _ _
  . exact Nat.le_trans (deps_mem h) (Nat.le_max_right _ _)
theorem keqs_refl : ∀ ks : List Key, keqs ks (ks.map kD) = true
 | [] => rfl
 | .inl a :: ks => by simp [keqs, keq, kD, keqs_refl ks]
 | .inr a :: ks => by simp [keqs, keq, kD, keqs_refl ks]
mutual
theorem deq_refl : ∀ d : D, deq d d = true
 | .non => by simp [deq]
 | .bl _ => by simp [deq]
 | .int _ => by simp [deq]
 | .str _ => by simp [deq]
 | .lst ds => by simp [deq, deqs_refl ds]
 | .tup ds => by simp [deq, deqs_refl ds]
 | .dct _ => by simp [deq]
 | .ktup ks => by simp only [deq]; exact keqs_refl ks
theorem deqs_refl : ∀ ds : List D, deqs ds ds = true
 | [] => by simp [deqs]
 | d :: ds => by simp [deqs, deq_refl d, deqs_refl ds]
end
theorem deqs_range : ∀ (ds es : List D), ((List.range (min ds.length es.length)).all (fun j => deq (ds.getD j .non) (es.getD j .non)) && ds.length == es.length) = deqs ds es
 | [], [] => by simp [deqs]
 | [], _ :: _ => by simp [deqs]
 | _ :: _, [] => by simp [deqs]
 | a :: as, b :: bs => by
  have ih := deqs_range as bs
  rw [deqs, <- ih]
  have hm : min (a :: as).length (b :: bs).length = min as.length bs.length + 1 := by simp <;> omega
  rw [hm, List.range_succ_eq_map, List.all_cons, List.all_map]
  simp [Function.comp_def, Bool.and_assoc]
def Told {α : Type} [DecidableEq α] (f : α -> D) : Prop := ∀ a b, deq (f a) (f b) = decide (a = b)
section
variable {α β : Type} [DecidableEq α] [DecidableEq β] {f : α -> D} {g : β -> D}
theorem told_str : Told D.str := fun a b => by simp only [deq]; by_cases h : a = b <;> simp [h]
theorem told_all (h : Told f) : ∀ (as bs : List α), deqs (as.map f) (bs.map f) = decide (as = bs)
 | [], [] => by simp [deqs]
 | [], _ :: _ => by simp [deqs]
 | _ :: _, [] => by simp [deqs]
 | a :: as, b :: bs => by
  simp only [map_cons, deqs]
  rw [h a b, told_all h as bs]
  by_cases h1 : a = b <;> by_cases h2 : as = bs <;> simp [h1, h2]
theorem told_list (h : Told f) : Told (fun l : List α => D.lst (l.map f)) := fun a b => by simp only [deq]; exact told_all h a b
end
section
variable {X : Cx} {pins : List (Addr × Obj)} {σ : St} {H : Hp} {s : Shared} {Z Z' : Zone}
theorem dct_at {a : Addr} {o : DO} (I : Inv X pins σ H s) (h : H a = some o.ho) : DEq.IsDct s.heap a := by
 cases o with
 | k kvs =>
  obtain ⟨_, _, vs, _, ⟨cls, dd, data, sl⟩, es, ep, h1, h2, h3, _⟩ := dk_of I.hok h
  have hc : cls = .type "dict" := h2.1
  have hd : data = .dict es ep := h3
  subst hc hd
  exact ⟨dd, es, ep, sl, h1⟩
 | t kvs =>
  obtain ⟨_, _, vs, _, ⟨cls, dd, data, sl⟩, es, ep, h1, h2, h3, _⟩ := dt_of I.hok h
  have hc : cls = .type "dict" := h2.1
  have hd : data = .dict es ep := h3
  subst hc hd
  exact ⟨dd, es, ep, sl, h1⟩
theorem kfree {a : Addr} {ks : List Key} (I : Inv X pins σ H s) (h : KTup X.K a ks) : H a = none := by
 obtain ⟨o, _, _, hk, _⟩ := h
 exact (I.bs a o (I.mod.kin a o hk)).2
theorem sq_not_dct {a : Addr} {xs : List V} {o : DO} (I : Inv X pins σ H s) (h : SqL X.K H a xs) (h' : H a = some o.ho) : False := by
 obtain ⟨_, _, ⟨ob, n, e, c, _⟩, _⟩ := I.list h
 obtain ⟨dd, es, ep, sl, e'⟩ := dct_at I h'
 rw [e] at e'
 cases e'
 exact absurd c (by simp)
theorem lst_not_tup {a : Addr} {xs ys : List V} (I : Inv X pins σ H s) (h : SqL X.K H a xs) (h' : SqT X.K H a ys) : False := by
 obtain ⟨_, _, ⟨o, n, e, c, _⟩, _⟩ := I.list h
 obtain ⟨_, _, ⟨o', e', c', _⟩, _⟩ := I.tuple h'
 rw [e] at e'; cases e'
 rw [c] at c'
 exact absurd c' (by decide)
mutual
theorem In.inj (I : Inv X pins σ H s) : ∀ {d d' : D} {v : V}, In X.K H Z d v -> In X.K H Z' d' v -> d = d'
 | .non, d', v, h, h' => by
  rw [in_non.mp h] at h'
  cases d' with
  | non => rfl
  | bl b => cases in_bl.mp h'
  | int b => cases in_int.mp h'
  | str b => cases in_str.mp h'
  | lst b => obtain ⟨_, _, e, _⟩ := in_lst.mp h'; cases e
  | tup b => obtain ⟨_, _, e, _⟩ := in_tupS h'; cases e
  | dct b => obtain ⟨_, e, _⟩ := in_dct.mp h'; cases e
  | ktup b => obtain ⟨_, e, _⟩ := in_ktup.mp h'; cases e
 | .bl x, d', v, h, h' => by
  rw [in_bl.mp h] at h'
  cases d' with
  | non => cases in_non.mp h'
  | bl b => cases in_bl.mp h'; rfl
  | int b => cases in_int.mp h'
  | str b => cases in_str.mp h'
  | lst b => obtain ⟨_, _, e, _⟩ := in_lst.mp h'; cases e
  | tup b => obtain ⟨_, _, e, _⟩ := in_tupS h'; cases e
  | dct b => obtain ⟨_, e, _⟩ := in_dct.mp h'; cases e
  | ktup b => obtain ⟨_, e, _⟩ := in_ktup.mp h'; cases e
 | .int x, d', v, h, h' => by
  rw [in_int.mp h] at h'
  cases d' with
  | non => cases in_non.mp h'
  | bl b => cases in_bl.mp h'
  | int b => cases in_int.mp h'; rfl
  | str b => cases in_str.mp h'
  | lst b => obtain ⟨_, _, e, _⟩ := in_lst.mp h'; cases e
  | tup b => obtain ⟨_, _, e, _⟩ := in_tupS h'; cases e
  | dct b => obtain ⟨_, e, _⟩ := in_dct.mp h'; cases e
  | ktup b => obtain ⟨_, e, _⟩ := in_ktup.mp h'; cases e
 | .str x, d', v, h, h' => by
  rw [in_str.mp h] at h'
  cases d' with
  | non => cases in_non.mp h'
  | bl b => cases in_bl.mp h'
  | int b => cases in_int.mp h'
  | str b => cases in_str.mp h'; rfl
  | lst b => obtain ⟨_, _, e, _⟩ := in_lst.mp h'; cases e
  | tup b => obtain ⟨_, _, e, _⟩ := in_tupS h'; cases e
  | dct b => obtain ⟨_, e, _⟩ := in_dct.mp h'; cases e
  | ktup b => obtain ⟨_, e, _⟩ := in_ktup.mp h'; cases e
 | .lst ds, d', v, h, h' => by
  obtain ⟨a, xs, rfl, l, j⟩ := in_lst.mp h
  cases d' with
  | non => cases in_non.mp h'
  | bl b => cases in_bl.mp h'
  | int b => cases in_int.mp h'
  | str b => cases in_str.mp h'
  | lst es =>
   obtain ⟨_, ys, e, l', j'⟩ := in_lst.mp h'
   cases e
   have := I.list_inj l.sq l'.sq
   subst this
   rw [Ins.inj I j j']
  | tup es =>
   obtain ⟨_, ys, e, l', j'⟩ := in_tupS h'
   cases e
   exact (lst_not_tup I l.sq l').elim
  | dct o =>
   obtain ⟨_, e, l', _⟩ := in_dct.mp h'
   cases e
   exact (sq_not_dct I l.sq l').elim
  | ktup ks =>
   obtain ⟨_, e, l'⟩ := in_ktup.mp h'
   cases e
   exact (lst_not_tup I l.sq l'.sq).elim
 | .tup ds, d', v, h, h' => by
  obtain ⟨a, xs, rfl, l, j⟩ := in_tupS h
  cases d' with
  | non => cases in_non.mp h'
  | bl b => cases in_bl.mp h'
  | int b => cases in_int.mp h'
  | str b => cases in_str.mp h'
  | lst es =>
   obtain ⟨_, ys, e, l', j'⟩ := in_lst.mp h'
   cases e
   exact (lst_not_tup I l'.sq l).elim
  | tup es =>
   obtain ⟨_, ys, e, l', j'⟩ := in_tupS h'
   cases e
   have := I.tuple_inj l l'
   subst this
   rw [Ins.inj I j j']
  | dct o =>
   obtain ⟨_, e, l', _⟩ := in_dct.mp h'
   cases e
   obtain ⟨_, _, e, l, _⟩ := in_tup.mp h
   cases e
   rw [l] at l'
   exact ((MO.d o).ntup (Option.some.inj l').symm).elim
  | ktup ks =>
   obtain ⟨_, e, l'⟩ := in_ktup.mp h'
   cases e
   obtain ⟨_, _, e, l, _⟩ := in_tup.mp h
   cases e
   rw [kfree I l'] at l
   cases l
 | .ktup ks, d', v, h, h' => by
  obtain ⟨a, rfl, l⟩ := in_ktup.mp h
  cases d' with
  | non => cases in_non.mp h'
  | bl b => cases in_bl.mp h'
  | int b => cases in_int.mp h'
  | str b => cases in_str.mp h'
  | lst es =>
   obtain ⟨_, ys, e, l', _⟩ := in_lst.mp h'
   cases e
   exact (lst_not_tup I l'.sq l.sq).elim
  | tup es =>
   obtain ⟨_, ys, e, l', _⟩ := in_tup.mp h'
   cases e
   rw [kfree I l] at l'
   cases l'
  | dct o =>
   obtain ⟨_, e, l', _⟩ := in_dct.mp h'
   cases e
   rw [kfree I l] at l'
   cases l'
  | ktup ks' =>
   obtain ⟨_, e, l'⟩ := in_ktup.mp h'
   cases e
   rw [kVs_inj (I.tuple_inj (l.sq (H := H)) (l'.sq (H := H)))]
 | .dct o, d', v, h, h' => by
  obtain ⟨a, rfl, l, _⟩ := in_dct.mp h
  cases d' with
  | non => cases in_non.mp h'
  | bl b => cases in_bl.mp h'
  | int b => cases in_int.mp h'
  | str b => cases in_str.mp h'
  | lst es =>
   obtain ⟨_, ys, e, l', _⟩ := in_lst.mp h'
   cases e
   exact (sq_not_dct I l'.sq l).elim
  | tup es =>
   obtain ⟨_, ys, e, l', _⟩ := in_tup.mp h'
   cases e
   rw [l'] at l
   exact ((MO.d o).ntup (Option.some.inj l).symm).elim
  | dct o' =>
   obtain ⟨_, e, l', _⟩ := in_dct.mp h'
   cases e
   rw [l] at l'
   rw [DO.inj (Option.some.inj l')]
  | ktup ks =>
   obtain ⟨_, e, l'⟩ := in_ktup.mp h'
   cases e
   rw [kfree I l'] at l
   cases l
theorem Ins.inj (I : Inv X pins σ H s) : ∀ {ds ds' : List D} {vs : List V}, Ins X.K H Z ds vs -> Ins X.K H Z' ds' vs -> ds = ds'
 | [], ds', _, h, h' => by
  rw [ins_nil.mp h] at h'
  cases ds' with
  | nil => rfl
  | cons d ds => obtain ⟨_, _, e, _⟩ := ins_cons.mp h'; cases e
 | d :: ds, ds', _, h, h' => by
  obtain ⟨v, r, rfl, i, j⟩ := ins_cons.mp h
  cases ds' with
  | nil => cases ins_nil.mp h'
  | cons d' ds' =>
   obtain ⟨v', r', e, i', j'⟩ := ins_cons.mp h'
   cases e
   rw [In.inj I i i', Ins.inj I j j']
end
theorem keqs_is : ∀ (ks : List Key) (ds : List D), keqs ks ds = deqs (ks.map kD) ds
 | [], [] => by simp [keqs, deqs]
 | [], _ :: _ => by simp [keqs, deqs]
 | _ :: _, [] => by simp [keqs, deqs]
 | .inl a :: ks, d :: ds => by
  simp only [keqs, map_cons, deqs, kD]
  rw [keqs_is ks ds]
  cases d <;> simp [keq, deq]
 | .inr a :: ks, d :: ds => by
  simp only [keqs, map_cons, deqs, kD]
  rw [keqs_is ks ds]
  cases d <;> simp [keq, deq]
theorem deps_kD : ∀ ks : List Key, deps (ks.map kD) = 0
 | [] => by simp [deps]
 | .inl a :: ks => by simp [deps, kD, D.dep, deps_kD ks]
 | .inr a :: ks => by simp [deps, kD, D.dep, deps_kD ks]
open PySem.SeqAt in
theorem eqAt_D (I : Inv X pins σ H s) : ∀ (n : Nat) {A : Around} {d d' : D} {v v' : V} {u u' : Value}, In X.K H Z d v -> In X.K H Z' d' v' -> RelV v u -> RelV v' u' -> d.dep <= n -> A.units + n < cLine -> EqAt A s u u' (deq d d') := by
 intro n
 induction n with
 | zero =>
  intro A d d' v v' u u' i i' r r' hd hu
  have hu0 : A.units < cLine := by omega
  have key : ∀ {x : V}, flatV x = true -> v = x -> (∀ y, In X.K H Z' d' y -> RelV y u' -> EqAt A s u u' (deq d d')) -> EqAt A s u u' (deq d d') := fun _ _ h => h v' i' r'
  cases d with
  | lst ds => unfold D.dep at hd; omega
  | tup ds => unfold D.dep at hd; omega
  | dct o => unfold D.dep at hd; omega
  | ktup o => unfold D.dep at hd; omega
  | non =>
   cases in_non.mp i; cases r
   cases d' with
   | non => cases in_non.mp i'; cases r'; simp only [deq]; exact EqAt.same _
   | bl b => cases in_bl.mp i'; cases r'; simp only [deq]; exact EqAt.none_bool b
   | int b => cases in_int.mp i'; obtain ⟨t, rfl⟩ := r'; simp only [deq]; exact EqAt.none_int b t
   | str b => cases in_str.mp i'; obtain ⟨t, rfl⟩ := r'; simp only [deq]; exact EqAt.none_str b t
   | lst b => obtain ⟨a, xs, rfl, l, j⟩ := in_lst.mp i'; cases r'; obtain ⟨its, _, pl, _⟩ := I.list l.sq; simp only [deq]; exact EqAt.none_list pl.isList hu0
   | tup b => obtain ⟨a, xs, rfl, l, j⟩ := in_tupS i'; cases r'; obtain ⟨its, _, pl, _⟩ := I.tuple l; simp only [deq]; exact EqAt.none_tuple pl hu0
   | dct b => obtain ⟨a, rfl, l, _⟩ := in_dct.mp i'; cases r'; simp only [deq]; exact DEq.at_none (dct_at I l) hu0
   | ktup b => obtain ⟨a, rfl, l⟩ := in_ktup.mp i'; cases r'; obtain ⟨its, _, pl, _⟩ := I.tuple (l.sq (H := H)); simp only [deq]; exact EqAt.none_tuple pl hu0
  | bl x =>
   cases in_bl.mp i; cases r
   cases d' with
   | non => cases in_non.mp i'; cases r'; simp only [deq]; exact EqAt.bool_none x
   | bl b => cases in_bl.mp i'; cases r'; simp only [deq]; exact EqAt.bool_bool x b
   | int b => cases in_int.mp i'; obtain ⟨t, rfl⟩ := r'; simp only [deq]; exact EqAt.bool_int x b t
   | str b => cases in_str.mp i'; obtain ⟨t, rfl⟩ := r'; simp only [deq]; exact EqAt.bool_str x b t
   | lst b => obtain ⟨a, xs, rfl, l, j⟩ := in_lst.mp i'; cases r'; obtain ⟨its, _, pl, _⟩ := I.list l.sq; simp only [deq]; exact EqAt.bool_list x pl.isList hu0
   | tup b => obtain ⟨a, xs, rfl, l, j⟩ := in_tupS i'; cases r'; obtain ⟨its, _, pl, _⟩ := I.tuple l; simp only [deq]; exact EqAt.bool_tuple x pl hu0
   | dct b => obtain ⟨a, rfl, l, _⟩ := in_dct.mp i'; cases r'; simp only [deq]; exact DEq.at_bool x (dct_at I l) hu0
   | ktup b => obtain ⟨a, rfl, l⟩ := in_ktup.mp i'; cases r'; obtain ⟨its, _, pl, _⟩ := I.tuple (l.sq (H := H)); simp only [deq]; exact EqAt.bool_tuple x pl hu0
  | int x =>
   cases in_int.mp i; obtain ⟨t0, rfl⟩ := r
   cases d' with
   | non => cases in_non.mp i'; cases r'; simp only [deq]; exact EqAt.int_none x t0
   | bl b => cases in_bl.mp i'; cases r'; simp only [deq]; exact EqAt.int_bool x t0 b
   | int b => cases in_int.mp i'; obtain ⟨t, rfl⟩ := r'; simp only [deq]; exact EqAt.int_int x t0 b t
   | str b => cases in_str.mp i'; obtain ⟨t, rfl⟩ := r'; simp only [deq]; exact EqAt.int_str x t0 b t
   | lst b => obtain ⟨a, xs, rfl, l, j⟩ := in_lst.mp i'; cases r'; obtain ⟨its, _, pl, _⟩ := I.list l.sq; simp only [deq]; exact EqAt.int_list x t0 pl.isList hu0
   | tup b => obtain ⟨a, xs, rfl, l, j⟩ := in_tupS i'; cases r'; obtain ⟨its, _, pl, _⟩ := I.tuple l; simp only [deq]; exact EqAt.int_tuple x t0 pl hu0
   | dct b => obtain ⟨a, rfl, l, _⟩ := in_dct.mp i'; cases r'; simp only [deq]; exact DEq.at_int x t0 (dct_at I l) hu0
   | ktup b => obtain ⟨a, rfl, l⟩ := in_ktup.mp i'; cases r'; obtain ⟨its, _, pl, _⟩ := I.tuple (l.sq (H := H)); simp only [deq]; exact EqAt.int_tuple x t0 pl hu0
  | str x =>
   cases in_str.mp i; obtain ⟨t0, rfl⟩ := r
   cases d' with
   | non => cases in_non.mp i'; cases r'; simp only [deq]; exact EqAt.str_none x t0
   | bl b => cases in_bl.mp i'; cases r'; simp only [deq]; exact EqAt.str_bool x t0 b
   | int b => cases in_int.mp i'; obtain ⟨t, rfl⟩ := r'; simp only [deq]; exact EqAt.str_int x t0 b t
   | str b => cases in_str.mp i'; obtain ⟨t, rfl⟩ := r'; simp only [deq]; exact EqAt.str_str x t0 b t
   | lst b => obtain ⟨a, xs, rfl, l, j⟩ := in_lst.mp i'; cases r'; obtain ⟨its, _, pl, _⟩ := I.list l.sq; simp only [deq]; exact EqAt.str_list x t0 pl.isList hu0
   | tup b => obtain ⟨a, xs, rfl, l, j⟩ := in_tupS i'; cases r'; obtain ⟨its, _, pl, _⟩ := I.tuple l; simp only [deq]; exact EqAt.str_tuple x t0 pl hu0
   | dct b => obtain ⟨a, rfl, l, _⟩ := in_dct.mp i'; cases r'; simp only [deq]; exact DEq.at_str x t0 (dct_at I l) hu0
   | ktup b => obtain ⟨a, rfl, l⟩ := in_ktup.mp i'; cases r'; obtain ⟨its, _, pl, _⟩ := I.tuple (l.sq (H := H)); simp only [deq]; exact EqAt.str_tuple x t0 pl hu0
 | succ n ih =>
  intro A d d' v v' u u' i i' r r' hd hu
  have hu0 : A.units < cLine := by omega
  have hu1 : A.in1.units + n < cLine := by show A.units + 1 + n < cLine; omega
  have small : d.dep <= n -> EqAt A s u u' (deq d d') := fun h => ih i i' r r' h (by omega)
  -- the items, one by one
  have items : ∀ {ds es : List D} {xs ys : List V} {its its2 : List Value}, deps ds <= n -> Ins X.K H Z ds xs -> Ins X.K H Z' es ys -> Vals xs its -> Vals ys its2 -> ∀ j (h1 : j < its.toArray.size) (h2 : j < its2.toArray.size),
   EqAt A.in1 s its.toArray[j] its2.toArray[j] (deq (ds.getD j .non) (es.getD j .non)) := fun {ds es xs ys its its2} hdn jx jy rx ry j h1 h2 => by
   have z1 := jx.length; have z2 := jy.length; have z3 := rx.length; have z4 := ry.length
   simp at h1 h2
   have hj1 : j < ds.length := by omega
   have hj2 : j < es.length := by omega
   obtain ⟨x, ex, ix⟩ := jx.get (i := j) (d := ds[j]) (by simp [hj1])
   obtain ⟨y, ey, iy⟩ := jy.get (i := j) (d := es[j]) (by simp [hj2])
   obtain ⟨w1, f1, q1⟩ := rx.get ex
   obtain ⟨w2, f2, q2⟩ := ry.get ey
   have g1 : its.toArray[j] = w1 := by
    have := (List.getElem?_eq_some_iff.mp f1).2
    simpa using this
   have g2 : its2.toArray[j] = w2 := by
    have := (List.getElem?_eq_some_iff.mp f2).2
    simpa using this
   rw [g1, g2]
   have e1 : ds.getD j .non = ds[j] := by simp [hj1]
   have e2 : es.getD j .non = es[j] := by simp [hj2]
   rw [e1, e2]
   exact ih ix iy q1 q2 (Nat.le_trans (deps_mem (getElem_mem hj1)) hdn) hu1
  cases d with
  | non => exact small (by simp [D.dep])
  | bl x => exact small (by simp [D.dep])
  | int x => exact small (by simp [D.dep])
  | str x => exact small (by simp [D.dep])
  | dct o => exact absurd hu (by unfold D.dep at hd; have : cLine = 9900 := rfl; omega)
  | ktup ks0 =>
   obtain ⟨a, rfl, l⟩ := in_ktup.mp i
   cases r
   obtain ⟨its, rx, pl, _⟩ := I.tuple (l.sq (H := H))
   have j : Ins X.K H Z (ks0.map kD) (ks0.map kV) := ins_kV ks0
   have hdn : deps (ks0.map kD) <= n := by rw [deps_kD]; exact Nat.zero_le _
   cases d' with
   | non => cases in_non.mp i'; cases r'; simp only [deq]; exact EqAt.tuple_none pl hu0
   | bl b => cases in_bl.mp i'; cases r'; simp only [deq]; exact EqAt.tuple_bool b pl hu0
   | int b => cases in_int.mp i'; obtain ⟨t, rfl⟩ := r'; simp only [deq]; exact EqAt.tuple_int b t pl hu0
   | str b => cases in_str.mp i'; obtain ⟨t, rfl⟩ := r'; simp only [deq]; exact EqAt.tuple_str b t pl hu0
   | lst es => obtain ⟨a', ys, rfl, l', j'⟩ := in_lst.mp i'; cases r'; obtain ⟨its2, _, pl2, _⟩ := I.list l'.sq; simp only [deq]; exact EqAt.tuple_list pl pl2.isList hu0
   | dct b => obtain ⟨a', rfl, l', _⟩ := in_dct.mp i'; cases r'; simp only [deq]; exact DEq.at_tuple pl (dct_at I l') hu0
   | ktup ks =>
    obtain ⟨a', rfl, l'⟩ := in_ktup.mp i'
    cases r'
    obtain ⟨its2, ry, pl2, _⟩ := I.tuple (l'.sq (H := H))
    by_cases haa : a = a'
    . subst haa
      have e : D.ktup ks0 = D.ktup ks := In.inj I i i'
      rw [e, deq_refl]
      exact EqAt.same _
    have j' : Ins X.K H Z' (ks.map kD) (ks.map kV) := ins_kV ks
    refine EqAt.of_refs haa ?_
    have z1 := j.length; have z2 := j'.length; have z3 := rx.length; have z4 := ry.length
    simp only [deq]
    rw [keqs_is, <- deqs_range]
    have := RcAt.tuples (e := fun k => deq ((ks0.map kD).getD k .non) ((ks.map kD).getD k .non)) pl pl2 hu0 (items hdn j j' rx ry)
    have e1 : its.toArray.size = (ks0.map kD).length := by simp at z1 z3 ⊢; omega
    have e2 : its2.toArray.size = (ks.map kD).length := by simp at z2 z4 ⊢; omega
    rw [e1, e2] at this
    exact this
   | tup es =>
    obtain ⟨a', ys, rfl, l', j'⟩ := in_tupS i'
    cases r'
    obtain ⟨its2, ry, pl2, _⟩ := I.tuple l'
    have haa : a ≠ a' := fun z => by
     subst z
     obtain ⟨_, _, e, lt, _⟩ := in_tup.mp i'
     cases e
     rw [kfree I l] at lt
     cases lt
    refine EqAt.of_refs haa ?_
    have z1 := j.length; have z2 := j'.length; have z3 := rx.length; have z4 := ry.length
    simp only [deq]
    rw [keqs_is, <- deqs_range]
    have := RcAt.tuples (e := fun k => deq ((ks0.map kD).getD k .non) (es.getD k .non)) pl pl2 hu0 (items hdn j j' rx ry)
    have e1 : its.toArray.size = (ks0.map kD).length := by simp at z1 z3 ⊢; omega
    have e2 : its2.toArray.size = es.length := by simp at z2 z4 ⊢; omega
    rw [e1, e2] at this
    exact this
  | lst ds =>
   have hdn : deps ds <= n := by unfold D.dep at hd; omega
   obtain ⟨a, xs, rfl, l, j⟩ := in_lst.mp i
   cases r
   obtain ⟨its, rx, pl, _⟩ := I.list l.sq
   cases d' with
   | non => cases in_non.mp i'; cases r'; simp only [deq]; exact EqAt.list_none pl.isList hu0
   | bl b => cases in_bl.mp i'; cases r'; simp only [deq]; exact EqAt.list_bool b pl.isList hu0
   | int b => cases in_int.mp i'; obtain ⟨t, rfl⟩ := r'; simp only [deq]; exact EqAt.list_int b t pl.isList hu0
   | str b => cases in_str.mp i'; obtain ⟨t, rfl⟩ := r'; simp only [deq]; exact EqAt.list_str b t pl.isList hu0
   | tup es => obtain ⟨a', ys, rfl, l', j'⟩ := in_tupS i'; cases r'; obtain ⟨its2, _, pl2, _⟩ := I.tuple l'; simp only [deq]; exact EqAt.list_tuple pl.isList pl2 hu0
   | dct b => obtain ⟨a', rfl, l', _⟩ := in_dct.mp i'; cases r'; simp only [deq]; exact DEq.at_list pl.isList (dct_at I l') hu0
   | ktup b => obtain ⟨a', rfl, l'⟩ := in_ktup.mp i'; cases r'; obtain ⟨its2, _, pl2, _⟩ := I.tuple (l'.sq (H := H)); simp only [deq]; exact EqAt.list_tuple pl.isList pl2 hu0
   | lst es =>
    obtain ⟨a', ys, rfl, l', j'⟩ := in_lst.mp i'
    cases r'
    obtain ⟨its2, ry, pl2, _⟩ := I.list l'.sq
    by_cases haa : a = a'
    . subst haa
      have e : D.lst ds = D.lst es := In.inj I i i'
      rw [e, deq_refl]
      exact EqAt.same _
    . refine EqAt.of_refs haa ?_
      have z1 := j.length; have z2 := j'.length; have z3 := rx.length; have z4 := ry.length
      simp only [deq]
      rw [<- deqs_range]
      by_cases hsz : its.toArray.size = its2.toArray.size
      . have := RcAt.lists (e := fun k => deq (ds.getD k .non) (es.getD k .non)) pl.isList pl2.isList hsz hu0 (items hdn j j' rx ry)
        have e1 : its.toArray.size = min ds.length es.length := by simp at hsz ⊢; omega
        have e2 : (ds.length == es.length) = true := by simp at hsz ⊢; omega
        rw [e1] at this
        rw [e2, Bool.and_true]
        exact this
      . have e2 : (ds.length == es.length) = false := by simp at hsz ⊢; omega
        rw [e2, Bool.and_false]
        exact RcAt.lists_lengths pl.isList pl2.isList (by simpa using hsz) hu0
  | tup ds =>
   have hdn : deps ds <= n := by unfold D.dep at hd; omega
   obtain ⟨a, xs, rfl, l, j⟩ := in_tupS i
   cases r
   obtain ⟨its, rx, pl, _⟩ := I.tuple l
   cases d' with
   | non => cases in_non.mp i'; cases r'; simp only [deq]; exact EqAt.tuple_none pl hu0
   | bl b => cases in_bl.mp i'; cases r'; simp only [deq]; exact EqAt.tuple_bool b pl hu0
   | int b => cases in_int.mp i'; obtain ⟨t, rfl⟩ := r'; simp only [deq]; exact EqAt.tuple_int b t pl hu0
   | str b => cases in_str.mp i'; obtain ⟨t, rfl⟩ := r'; simp only [deq]; exact EqAt.tuple_str b t pl hu0
   | lst es => obtain ⟨a', ys, rfl, l', j'⟩ := in_lst.mp i'; cases r'; obtain ⟨its2, _, pl2, _⟩ := I.list l'.sq; simp only [deq]; exact EqAt.tuple_list pl pl2.isList hu0
   | dct b => obtain ⟨a', rfl, l', _⟩ := in_dct.mp i'; cases r'; simp only [deq]; exact DEq.at_tuple pl (dct_at I l') hu0
   | ktup ks =>
    obtain ⟨a', rfl, l'⟩ := in_ktup.mp i'
    cases r'
    obtain ⟨its2, ry, pl2, _⟩ := I.tuple (l'.sq (H := H))
    have j' : Ins X.K H Z' (ks.map kD) (ks.map kV) := ins_kV ks
    have haa : a ≠ a' := fun z => by
     subst z
     obtain ⟨_, _, e, lt, _⟩ := in_tup.mp i
     cases e
     rw [kfree I l'] at lt
     cases lt
    refine EqAt.of_refs haa ?_
    have z1 := j.length; have z2 := j'.length; have z3 := rx.length; have z4 := ry.length
    simp only [deq]
    rw [<- deqs_range]
    have := RcAt.tuples (e := fun k => deq (ds.getD k .non) ((ks.map kD).getD k .non)) pl pl2 hu0 (items hdn j j' rx ry)
    have e1 : its.toArray.size = ds.length := by simp; omega
    have e2 : its2.toArray.size = (ks.map kD).length := by simp at z2 z4 ⊢; omega
    rw [e1, e2] at this
    exact this
   | tup es =>
    obtain ⟨a', ys, rfl, l', j'⟩ := in_tupS i'
    cases r'
    obtain ⟨its2, ry, pl2, _⟩ := I.tuple l'
    by_cases haa : a = a'
    . subst haa
      have e : D.tup ds = D.tup es := In.inj I i i'
      rw [e, deq_refl]
      exact EqAt.same _
    . refine EqAt.of_refs haa ?_
      have z1 := j.length; have z2 := j'.length; have z3 := rx.length; have z4 := ry.length
      simp only [deq]
      rw [<- deqs_range]
      have := RcAt.tuples (e := fun k => deq (ds.getD k .non) (es.getD k .non)) pl pl2 hu0 (items hdn j j' rx ry)
      have e1 : its.toArray.size = ds.length := by simp; omega
      have e2 : its2.toArray.size = es.length := by simp; omega
      rw [e1, e2] at this
      exact this
end
section
variable {X : Cx}
open PySem.SeqAt
def pairD : D -> D -> Bool
 | .lst _, .lst _ => true
 | .tup _, .tup _ => true
 | _, _ => false
theorem op_eqD : OpR X (compareOp .Eq) (fun x y H Q => ∃ d d' Z Z', In X.K H Z d x /\ In X.K H Z' d' y /\ pairD d d' = true /\ X.A.units + d.dep < cLine /\ Q (.bl (deq d d')) H) := by
 intro pins s σ H x y v u Q I rx ry h
 obtain ⟨d, d', Z, Z', i, i', hp, hu, q⟩ := h
 have fin : EP X pins σ Q (.bool (deq d d')) s := ⟨.bl (deq d d'), H, I, rfl, q⟩
 have hu0 : X.A.units < cLine := by omega
 have items : ∀ {ds es : List D} {xs ys : List V} {its its2 : List Value}, deps ds < d.dep -> Ins X.K H Z ds xs -> Ins X.K H Z' es ys -> Vals xs its -> Vals ys its2 -> ∀ j (h1 : j < its.toArray.size) (h2 : j < its2.toArray.size),
  EqAt X.A.in1 s its.toArray[j] its2.toArray[j] (deq (ds.getD j .non) (es.getD j .non)) := fun {ds es xs ys its its2} hdn jx jy rx ry j h1 h2 => by
  have z1 := jx.length; have z2 := jy.length; have z3 := rx.length; have z4 := ry.length
  simp at h1 h2
  have hj1 : j < ds.length := by omega
  have hj2 : j < es.length := by omega
  obtain ⟨x, ex, ix⟩ := jx.get (i := j) (d := ds[j]) (by simp [hj1])
  obtain ⟨y, ey, iy⟩ := jy.get (i := j) (d := es[j]) (by simp [hj2])
  obtain ⟨w1, f1, q1⟩ := rx.get ex
  obtain ⟨w2, f2, q2⟩ := ry.get ey
  have g1 : its.toArray[j] = w1 := by
   have := (List.getElem?_eq_some_iff.mp f1).2
   simpa using this
  have g2 : its2.toArray[j] = w2 := by
   have := (List.getElem?_eq_some_iff.mp f2).2
   simpa using this
  rw [g1, g2]
  have e1 : ds.getD j .non = ds[j] := by simp [hj1]
  have e2 : es.getD j .non = es[j] := by simp [hj2]
  rw [e1, e2]
  exact eqAt_D I (d.dep - 1) ix iy q1 q2 (by have := deps_mem (getElem_mem hj1); omega) (by show X.A.units + 1 + (d.dep - 1) < cLine; omega)
 unfold pairD at hp
 split at hp
 . rename_i ds es
   obtain ⟨a, xs, rfl, l, j⟩ := in_lst.mp i
   obtain ⟨a', ys, rfl, l', j'⟩ := in_lst.mp i'
   cases rx; cases ry
   obtain ⟨its, rx, pl, _⟩ := I.list l.sq
   obtain ⟨its2, ry, pl2, _⟩ := I.list l'.sq
   have z1 := j.length; have z2 := j'.length; have z3 := rx.length; have z4 := ry.length
   simp only [deq] at fin
   rw [<- deqs_range] at fin
   by_cases hsz : its.toArray.size = its2.toArray.size
   . have e1 : its.toArray.size = min ds.length es.length := by simp at hsz ⊢; omega
     have e2 : (ds.length == es.length) = true := by simp at hsz ⊢; omega
     rw [e2, Bool.and_true, <- e1] at fin
     exact eq_listAt (e := fun k => deq (ds.getD k .non) (es.getD k .non)) pl.isList pl2.isList hsz hu0 (items (by simp [D.dep]) j j' rx ry) fin
   . have e2 : (ds.length == es.length) = false := by simp at hsz ⊢; omega
     rw [e2, Bool.and_false] at fin
     exact eq_list_lengthsAt pl.isList pl2.isList (by simpa using hsz) hu0 fin
 . rename_i ds es
   obtain ⟨a, xs, rfl, l, j⟩ := in_tupS i
   obtain ⟨a', ys, rfl, l', j'⟩ := in_tupS i'
   cases rx; cases ry
   obtain ⟨its, rx, pl, _⟩ := I.tuple l
   obtain ⟨its2, ry, pl2, _⟩ := I.tuple l'
   have z1 := j.length; have z2 := j'.length; have z3 := rx.length; have z4 := ry.length
   simp only [deq] at fin
   rw [<- deqs_range] at fin
   have e1 : its.toArray.size = ds.length := by simp; omega
   have e2 : its2.toArray.size = es.length := by simp; omega
   rw [<- e1, <- e2] at fin
   exact eq_tupleAt (e := fun k => deq (ds.getD k .non) (es.getD k .non)) pl pl2 hu0 (items (by simp [D.dep]) j j' rx ry) fin
 . cases hp
theorem op_neD : OpR X (compareOp .NotEq) (fun x y H Q => ∃ d d' Z Z', In X.K H Z d x /\ In X.K H Z' d' y /\ pairD d d' = true /\ X.A.units + d.dep < cLine /\ Q (.bl (!deq d d')) H) := by
 intro pins s σ H x y v u Q I rx ry h
 obtain ⟨d, d', Z, Z', i, i', hp, hu, q⟩ := h
 have fin : EP X pins σ Q (.bool (!deq d d')) s := ⟨.bl (!deq d d'), H, I, rfl, q⟩
 have hu0 : X.A.units < cLine := by omega
 have items : ∀ {ds es : List D} {xs ys : List V} {its its2 : List Value}, deps ds < d.dep -> Ins X.K H Z ds xs -> Ins X.K H Z' es ys -> Vals xs its -> Vals ys its2 -> ∀ j (h1 : j < its.toArray.size) (h2 : j < its2.toArray.size),
  EqAt X.A.in1 s its.toArray[j] its2.toArray[j] (deq (ds.getD j .non) (es.getD j .non)) := fun {ds es xs ys its its2} hdn jx jy rx ry j h1 h2 => by
  have z1 := jx.length; have z2 := jy.length; have z3 := rx.length; have z4 := ry.length
  simp at h1 h2
  have hj1 : j < ds.length := by omega
  have hj2 : j < es.length := by omega
  obtain ⟨x, ex, ix⟩ := jx.get (i := j) (d := ds[j]) (by simp [hj1])
  obtain ⟨y, ey, iy⟩ := jy.get (i := j) (d := es[j]) (by simp [hj2])
  obtain ⟨w1, f1, q1⟩ := rx.get ex
  obtain ⟨w2, f2, q2⟩ := ry.get ey
  have g1 : its.toArray[j] = w1 := by
   have := (List.getElem?_eq_some_iff.mp f1).2
   simpa using this
  have g2 : its2.toArray[j] = w2 := by
   have := (List.getElem?_eq_some_iff.mp f2).2
   simpa using this
  rw [g1, g2]
  have e1 : ds.getD j .non = ds[j] := by simp [hj1]
  have e2 : es.getD j .non = es[j] := by simp [hj2]
  rw [e1, e2]
  exact eqAt_D I (d.dep - 1) ix iy q1 q2 (by have := deps_mem (getElem_mem hj1); omega) (by show X.A.units + 1 + (d.dep - 1) < cLine; omega)
 unfold pairD at hp
 split at hp
 . rename_i ds es
   obtain ⟨a, xs, rfl, l, j⟩ := in_lst.mp i
   obtain ⟨a', ys, rfl, l', j'⟩ := in_lst.mp i'
   cases rx; cases ry
   obtain ⟨its, rx, pl, _⟩ := I.list l.sq
   obtain ⟨its2, ry, pl2, _⟩ := I.list l'.sq
   have z1 := j.length; have z2 := j'.length; have z3 := rx.length; have z4 := ry.length
   simp only [deq] at fin
   rw [<- deqs_range] at fin
   by_cases hsz : its.toArray.size = its2.toArray.size
   . have e1 : its.toArray.size = min ds.length es.length := by simp at hsz ⊢; omega
     have e2 : (ds.length == es.length) = true := by simp at hsz ⊢; omega
     rw [e2, Bool.and_true, <- e1] at fin
     exact RcNeAt.lists (e := fun k => deq (ds.getD k .non) (es.getD k .non)) pl.isList pl2.isList hsz hu0 (items (by simp [D.dep]) j j' rx ry) _ _ _ _ fin
   . have e2 : (ds.length == es.length) = false := by simp at hsz ⊢; omega
     rw [e2, Bool.and_false] at fin
     exact RcNeAt.lists_lengths pl.isList pl2.isList (by simpa using hsz) hu0 _ _ _ _ fin
 . rename_i ds es
   obtain ⟨a, xs, rfl, l, j⟩ := in_tupS i
   obtain ⟨a', ys, rfl, l', j'⟩ := in_tupS i'
   cases rx; cases ry
   obtain ⟨its, rx, pl, _⟩ := I.tuple l
   obtain ⟨its2, ry, pl2, _⟩ := I.tuple l'
   have z1 := j.length; have z2 := j'.length; have z3 := rx.length; have z4 := ry.length
   simp only [deq] at fin
   rw [<- deqs_range] at fin
   have e1 : its.toArray.size = ds.length := by simp; omega
   have e2 : its2.toArray.size = es.length := by simp; omega
   rw [<- e1, <- e2] at fin
   exact RcNeAt.tuples (e := fun k => deq (ds.getD k .non) (es.getD k .non)) pl pl2 hu0 (items (by simp [D.dep]) j j' rx ry) _ _ _ _ fin
 . cases hp
end
section
variable {X : Cx} {ρ : List (Option D)} {m1 m2 : Bool} {a b : Expr} {d d' : D} {pos : Pos}
theorem e_eqD (ha : E X m1 ρ a d) (hb : E X m2 ρ b d') (hp : pairD d d' = true) (hu : X.A.units + d.dep < cLine) : E X true ρ (.Compare a [.Eq] [b] pos) (.bl (deq d d')) :=
 e_cmp op_eqD ha hb (fun x y H Z Q _ i1 i2 k => ⟨d, d', Z, Z, i1, i2, hp, hu, k _ _ (Same.refl H) (in_bl.mpr rfl)⟩) (nomark _)
theorem t_eqD (ha : E X m1 ρ a d) (hb : E X m2 ρ b d') (hp : pairD d d' = true) (hu : X.A.units + d.dep < cLine) : T X ρ (.Compare a [.Eq] [b] pos) (deq d d') :=
 t_cmp op_eqD ha hb (fun x y H Z Q _ i1 i2 k => ⟨d, d', Z, Z, i1, i2, hp, hu, k _ (Same.refl H)⟩) (nomark _)
theorem e_neD (ha : E X m1 ρ a d) (hb : E X m2 ρ b d') (hp : pairD d d' = true) (hu : X.A.units + d.dep < cLine) : E X true ρ (.Compare a [.NotEq] [b] pos) (.bl (!deq d d')) :=
 e_cmp op_neD ha hb (fun x y H Z Q _ i1 i2 k => ⟨d, d', Z, Z, i1, i2, hp, hu, k _ _ (Same.refl H) (in_bl.mpr rfl)⟩) (nomark _)
theorem t_neD (ha : E X m1 ρ a d) (hb : E X m2 ρ b d') (hp : pairD d d' = true) (hu : X.A.units + d.dep < cLine) : T X ρ (.Compare a [.NotEq] [b] pos) (!deq d d') :=
 t_cmp op_neD ha hb (fun x y H Z Q _ i1 i2 k => ⟨d, d', Z, Z, i1, i2, hp, hu, k _ (Same.refl H)⟩) (nomark _)
end
section
variable {X : Cx} {F : Fn} {ρ : Rho} {Q : EndD} {rest : List Stmt} {e : Expr} {d : D} {pos p : Pos} {x : Str} {fr m1 : Bool} {ds : List D} {dss : List (List D)}
theorem sd_setCN (i : Nat) {x : Str} {d : D} (he : EC X true (view true false ρ) e d) (hr : SD X F rest (ρ.set i (some (.pl true d))) Q) (hN : X.N.Nodup) (hi : X.N[i]? = some x := by rfl)
 (hx : Loc X.env.scope x := by first | exact Or.inl rfl | exact Or.inr rfl) (hρ : i < ρ.length := by exact of_decide_eq_true rfl) (hs : swapsWith e (some (.Name x p)) pos.line X.env = pure true := by rfl) (hf : X.fn x = true \/ X.env.scope.names.lookup x = some .local := by first | exact .inl rfl | exact .inr rfl) :
 SD X F (.Assign [.Name x p] e pos :: rest) ρ Q :=
 sd_then (PS.mono (he.s x i pos p hN hi hx hs hf) fun Q' σ H z0 => el33 z0 fun hv hρ' A hl S f => ⟨_, vz_open S true false, S.env hl true false, fun v H1 s1 i1 => f.nx _ H1 (put_pl hl S hρ s1 (In.up (zn_open S true) i1))⟩) hr
theorem StIn.ow2 {K : Frag} {H : Hp} {σ hv : St} {hρ : Rho} {A : Nat -> List Addr} {i : Nat} (S : StIn K F H (σ ++ hv) (ρ ++ hρ) A) (hl : σ.length = ρ.length) (h : ρ[i]? = some (some (.ow2 fr dss))) :
 ∃ l as, σ[i]? = some (some (.ref l)) /\ A i = l :: as /\ H l = some (.lst (as.map V.ref)) /\ RowsAt K H (zn F (Owned A) fr) dss as := by
 have hi : i < ρ.length := (List.getElem?_eq_some_iff.mp h).1
 obtain ⟨v, a, l, as, e1, rfl, e2, j⟩ := S.at' i _ (by rw [getElem?_append_left hi]; exact h)
 rw [getElem?_append_left (by omega)] at a
 exact ⟨l, as, a, e1, e2, j⟩
theorem RowsAt.length {K : Frag} {H : Hp} {Z : Zone} {as : List Addr} (h : RowsAt K H Z dss as) : dss.length = as.length := Paired.length h
theorem RowsAt.snoc {K : Frag} {H : Hp} {Z : Zone} {as : List Addr} {ds : List D} {a : Addr} {xs : List V} (h : RowsAt K H Z dss as) (e : H a = some (.lst xs)) (i : Ins K H Z ds xs) : RowsAt K H Z (dss ++ [ds]) (as ++ [a]) := Paired.snoc h ⟨xs, e, i⟩
theorem RowsAt.unsnoc {K : Frag} {H : Hp} {Z : Zone} : ∀ {dss : List (List D)} {as : List Addr} {ds : List D}, RowsAt K H Z (dss ++ [ds]) as -> ∃ bs a xs, as = bs ++ [a] /\ RowsAt K H Z dss bs /\ H a = some (.lst xs) /\ Ins K H Z ds xs
 | [], as, ds, h => by
  cases h with
  | cons r t => cases t; obtain ⟨xs, e, i⟩ := r; exact ⟨[], _, xs, rfl, .nil, e, i⟩
 | d :: dss, as, ds, h => by
  cases h with
  | cons r t =>
   obtain ⟨bs, a, xs, rfl, h1, e, i⟩ := RowsAt.unsnoc t
   exact ⟨_ :: bs, a, xs, rfl, .cons r h1, e, i⟩
theorem sd_append2n (i : Nat) {x : Str} {ap cp : Pos} {dss : List (List D)} (fr : Bool) (h : ρ[i]? = some (some (.ow2 fr dss)) := by rfl) (he : E X true (view true false ρ) e (.lst [])) (hz : dss.length < 1000) (hr : SD X F rest (ρ.set i (some (.ow2 fr (dss ++ [[]])))) Q)
 (hN : X.N[i]? = some x := by rfl) (hv : Vis X.env.scope x := by first | exact Or.inl rfl | exact Or.inr (Or.inl rfl) | exact Or.inr (Or.inr rfl)) (hd : (x == ("__debug__" : Str)) = false := by decide) (hcd : (x == ("__classdict__" : Str)) = false := by decide)
 (hbase : attributeBase (.Name x p) "append" X.env (eval (.Name x p) X.env) = eval (.Name x p) X.env := by rfl) (hline : (ap.endLine == cp.line) = true := by rfl)
 (hs : starEach [e] X.env = [(false, eval e X.env)] := by rfl) (hsw : swapsWith (.Call (.Attribute (.Name x p) "append" ap) [e] [] cp) none pos.line X.env = pure false := by rfl) :
 SD X F (.Expr (.Call (.Attribute (.Name x p) "append" ap) [e] [] cp) pos :: rest) ρ Q := by
 refine sd_then (PS.mono (ps_expr (pe_bm PySem.F.plainAttrs_list PySem.F.slot_list_append PySem.F.type_list_append mt_append (pe_var hN hv hd hcd) (pa_cons he pa_nil (by rw [hs]; rfl)) hbase (by rw [hs]; rfl) hline (by rw [hs]; rfl) rfl) hsw) ?_) hr
 rintro Q' σ H ⟨hv, hρ, A, hl, S, f⟩
 obtain ⟨l, as, e1, e2, e3, j⟩ := S.ow2 hl h
 have hi : i < σ.length := (List.getElem?_eq_some_iff.mp e1).1
 refine ⟨.ref l, e1, .inl ⟨rfl, _, SqL.of e3⟩, _, vz_open S true false, S.env hl true false, fun v H1 s1 i1 => ?_⟩
 obtain ⟨a, ys, rfl, at', jn⟩ := in_lst.mp i1
 cases ins_nil.mp jn
 obtain ⟨ea, en⟩ : H1 a = some (.lst []) /\ H a = none := by
  rcases at' with z | z
  . exact z
  . exact absurd z.1 (by simp [out, nw])
 have hlen : (as.map V.ref).length < sizeLine := by rw [length_map, <- j.length]; exact small1000 (by omega)
 refine ⟨l, _, .ref a, rfl, rfl, s1.at e3, hlen, f.nx _ _ ?_⟩
 have hal : a ≠ l := by rintro rfl; rw [e3] at en; cases en
 have haA : ∀ j, a ∉ A j := fun j hj => by obtain ⟨xs, e⟩ := S.lst j a hj; rw [en] at e; cases e
 have hnd := S.nd i
 rw [e2] at hnd
 have hl0 : l ∉ as := (nodup_cons.mp hnd).1
 have kk : ∀ b o, H b = some o -> isT o = false -> b ∉ A i -> (upd H1 l (.lst (as.map V.ref ++ [.ref a]))) b = some o := fun b o e n hb => by
  rw [e2] at hb
  have : b ≠ l := fun z => hb (by simp [z])
  rw [upd_ne this]; exact s1.get b o e n
 have mine : ∀ b ∈ l :: (as ++ [a]), b ∈ A i \/ H b = none := fun b hb => by
  rcases mem_cons.mp hb with z | hb
  . exact .inl (by rw [e2, z]; simp)
  . rcases mem_append.mp hb with hb | hb
    . exact .inl (by rw [e2]; simp [hb])
    . have : b = a := by simpa using hb
      exact .inr (by rw [this]; exact en)
 refine ⟨_, putA A i (l :: (as ++ [a])), by simp [hl], ?_, rfl⟩
 have key := S.re (i := i) (v := .ref l) (sl := .ow2 fr (dss ++ [[]])) (l := l :: (as ++ [a])) (H2 := upd H1 l (.lst (as.map V.ref ++ [.ref a]))) (by rw [List.length_append]; omega) (by rw [List.length_append]; omega) ((S.same.trans s1).write (S.new i l (by rw [e2]; simp)) (s1.at e3)) kk ?_ (fun b hb => ⟨mine b hb, ?_⟩) ⟨l, as ++ [a], rfl, rfl, ?_, ?_⟩
 . rw [set_self (by rw [getElem?_append_left hi]; exact e1), set_app (by omega)] at key
   exact key
 . have n1 : a ∉ l :: as := by rw [<- e2]; exact haA i
   rw [<- cons_append]
   exact List.nodup_append.mpr ⟨hnd, by simp, fun b hb c hc => by
    have : c = a := by simpa using hc
    subst this
    rintro rfl
    exact n1 hb⟩
 . rcases mem_cons.mp hb with z | hb
   . exact ⟨.l _, by rw [z, upd_same]; rfl⟩
   . rcases mem_append.mp hb with hb | hb
     . have : b ≠ l := fun z => hl0 (z ▸ hb)
       obtain ⟨xs, e⟩ := S.lst i b (by rw [e2]; simp [hb])
       exact ⟨xs, by rw [upd_ne this]; exact s1.at e xs.nt⟩
     . have : b = a := by simpa using hb
       rw [this, upd_ne hal]
       exact ⟨.l _, ea⟩
 . rw [upd_same, map_append]; rfl
 . refine RowsAt.snoc (xs := []) (j.carry (fun b xs hb e => ?_) (carry_re S kk mine fr)) (by rw [upd_ne hal]; exact ea) (ins_nil.mpr rfl)
   have : b ≠ l := by rintro rfl; exact hl0 hb
   rw [upd_ne this]; exact s1.at e
theorem sd_append2 (i : Nat) {x : Str} {ap cp sp : Pos} {ix : Expr} {mi : Bool} {dss : List (List D)} {ds : List D} (fr : Bool) {d : D} (h : ρ[i]? = some (some (.ow2 fr (dss ++ [ds]))) := by rfl) (hix : E X mi (view true false ρ) ix (.int (-1))) (he : E X m1 (view true false ρ) e d) (fl : d.flat = true) (hz : ds.length < 1000)
 (hr : SD X F rest (ρ.set i (some (.ow2 fr (dss ++ [ds ++ [d]])))) Q)
 (hN : X.N[i]? = some x := by rfl) (hv : Vis X.env.scope x := by first | exact Or.inl rfl | exact Or.inr (Or.inl rfl) | exact Or.inr (Or.inr rfl)) (hd : (x == ("__debug__" : Str)) = false := by decide) (hcd : (x == ("__classdict__" : Str)) = false := by decide)
 (hpi : PlainIx ix := by intro _ _; rfl) (hbase : attributeBase (.Subscript (.Name x p) ix sp) "append" X.env (eval (.Subscript (.Name x p) ix sp) X.env) = eval (.Subscript (.Name x p) ix sp) X.env := by rfl)
 (hline : (ap.endLine == cp.line) = true := by rfl)
 (hs : starEach [e] X.env = [(false, eval e X.env)] := by rfl) (hsw : swapsWith (.Call (.Attribute (.Subscript (.Name x p) ix sp) "append" ap) [e] [] cp) none pos.line X.env = pure false := by rfl) :
 SD X F (.Expr (.Call (.Attribute (.Subscript (.Name x p) ix sp) "append" ap) [e] [] cp) pos :: rest) ρ Q := by
 refine sd_then (PS.mono (ps_expr (pe_bm PySem.F.plainAttrs_list PySem.F.slot_list_append PySem.F.type_list_append mt_append (pe_ix ix_list (pe_var hN hv hd hcd) hix hpi) (pa_cons he pa_nil (by rw [hs]; rfl)) hbase (by rw [hs]; rfl) hline (by rw [hs]; rfl) rfl) hsw) ?_) hr
 rintro Q' σ H ⟨hv, hρ, A, hl, S, f⟩
 obtain ⟨l, as, e1, e2, e3, j⟩ := S.ow2 hl h
 have hi : i < σ.length := (List.getElem?_eq_some_iff.mp e1).1
 obtain ⟨bs, a, xs, rfl, j1, ea, ja⟩ := j.unsnoc
 have hnd := S.nd i
 rw [e2] at hnd
 have hal : a ≠ l := fun z => (nodup_cons.mp hnd).1 (by simp [z])
 have hab : a ∉ bs := fun z => by
  have := (List.nodup_append.mp (nodup_cons.mp hnd).2).2.2 a z a (by simp)
  exact this rfl
 refine ⟨.ref l, e1, _, vz_open S true false, S.env hl true false, fun y H1 s1 i1 => ⟨l, _, -1, .ref a, rfl, in_int.mp (i1.plain (vz_open S true false)), SqL.of (s1.at e3), ?_, .inl ⟨rfl, xs, SqL.of (s1.at ea)⟩, _, (vz_open S true false).same s1, (S.env hl true false).same s1, fun w H2 s2 i2 => ?_⟩⟩
 . rw [map_append]; exact atI_last _ _
 . have s12 := s1.trans s2
   have S2 := S.grow s12
   have hlen : xs.length < sizeLine := by rw [<- ja.length]; exact small1000 (by omega)
   refine ⟨a, xs, w, rfl, rfl, s12.at ea, hlen, f.nx _ _ ?_⟩
   have aA : a ∈ A i := by rw [e2]; simp
   have kk : ∀ b o, H2 b = some o -> isT o = false -> b ∉ A i -> (upd H2 a (.lst (xs ++ [w]))) b = some o := fun b o e n hb => by
    have : b ≠ a := fun z => hb (z ▸ aA)
    rw [upd_ne this]; exact e
   have mine : ∀ b ∈ l :: (bs ++ [a]), b ∈ A i \/ H2 b = none := fun b hb => .inl (by rw [e2]; exact hb)
   refine ⟨_, putA A i (l :: (bs ++ [a])), by simp [hl], ?_, rfl⟩
   have key := S2.re (i := i) (v := .ref l) (sl := .ow2 fr (dss ++ [ds ++ [d]])) (l := l :: (bs ++ [a])) (H2 := upd H2 a (.lst (xs ++ [w]))) (by rw [List.length_append]; omega) (by rw [List.length_append]; omega) (S2.same.write (S2.new i a aA) (s12.at ea)) kk hnd (fun b hb => ⟨mine b hb, ?_⟩) ⟨l, bs ++ [a], rfl, rfl, ?_, ?_⟩
   . rw [set_self (by rw [getElem?_append_left hi]; exact e1), set_app (by omega)] at key
     exact key
   . by_cases z : b = a
     . exact ⟨.l _, by rw [z, upd_same]; rfl⟩
     . rw [upd_ne z]
       exact S2.lst i b (by rw [e2]; exact hb)
   . rw [upd_ne (Ne.symm hal)]; exact s12.at e3
   . have c := carry_re S2 kk mine fr
     have sqt : ∀ b (ys : List V), H2 b = some (.tup ys) -> (upd H2 a (.lst (xs ++ [w]))) b = some (.tup ys) := c.t
     have j1' : RowsAt X.K H2 (zn F (Owned A) fr) dss bs := j1.carry (fun b ys hb e => s12.at e) (Carry.same s12)
     refine RowsAt.snoc (j1'.carry (fun b ys hb e => ?_) c) upd_same (Ins.append ((ja.same s12).carry c) (Ins.one (In.flat sqt fl i2)))
     have : b ≠ a := fun z => hab (z ▸ hb)
     rw [upd_ne this]; exact e
theorem sd_unown2 (i : Nat) {st : List Stmt} {dss : List (List D)} (h : ρ[i]? = some (some (.ow2 true dss)) := by rfl) (hr : SD X F st (ρ.set i (some (.pl true (.lst (dss.map D.lst))))) Q) : SD X F st ρ Q := PSs.mono hr fun Q' σ H z0 => el33 z0 fun hv hρ A hl S f => by
 obtain ⟨l, as, e1, e2, e3, j⟩ := S.ow2 hl h
 have hi : i < σ.length := (List.getElem?_eq_some_iff.mp e1).1
 refine ⟨hv, hρ, putA A i [], by simp [hl], ?_, f⟩
 have inz : ∀ b ∈ A i, (zn F (Owned (putA A i [])) true).S b := fun b hb => ⟨S.new i b hb, fun ⟨k, hk⟩ => by
  by_cases q : k = i
  . rw [q, putA_same] at hk; simp at hk
  . rw [putA_ne q] at hk; exact q (S.one k i b hk hb)⟩
 have key := S.re (i := i) (v := .ref l) (sl := .pl true (.lst (dss.map D.lst))) (l := []) (H2 := H) (by rw [List.length_append]; omega) (by rw [List.length_append]; omega) S.same (fun b o e _ hb => e) List.nodup_nil (fun a ha => by simp at ha) (in_lst.mpr ⟨l, _, rfl, .inl ⟨e3, inz l (by rw [e2]; simp)⟩, ins_rows j zn_drop fun b hb => inz b (by rw [e2]; simp [hb])⟩)
 rw [set_self (by rw [getElem?_append_left hi]; exact e1), set_app (by omega)] at key
 exact key
end
section
variable {X : Cx} {pins : List (Addr × Obj)} {σ : St} {H H' : Hp} {s : Shared} {h' : Heap}
theorem turnedL {t' : Nat} {ch : List Addr} (I : Inv X pins σ H s) (k : ∀ b o, b ∉ ch -> s.heap.get? b = some o -> h'.get? b = some o) (hf : ∀ b ∈ ch, FpOk X pins H b) : Inv X pins σ H { s with heap := h', toks := t' } := by
 have nit : ∀ b u, H b = some u -> b ∉ ch := fun b u e z => by rw [(hf b z).1] at e; cases e
 refine I.step (g' := s.gens) (d' := s.drawn) (ch := ch) (fun b hb => ⟨(hf b hb).2.2.2.1, (hf b hb).2.1, (hf b hb).2.2.2.2.1, (hf b hb).2.2.2.2.2⟩) (fun b o _ _ hc e _ => k b o hc e) (fun b o _ _ hc e _ => ⟨o.slots, k b o hc e⟩) (fun _ _ _ _ n => n)
  (fun b o hc e => ⟨o, k b o hc e⟩) (fun _ _ e => e) (fun _ _ _ e => e) (fun b ps e => ⟨#[], by rw [e]; simp⟩) (fun m hm => ?_) (fun b u e => ?_) I.bare
 . obtain ⟨o, es, ep, ho, r⟩ := hm
   exact ⟨o, es, ep, k _ o (fun z => (hf _ z).2.1 rfl) ho, r⟩
 . refine (I.hok b u e).stay (fun c v hc q => k c v ?_ q) (fun _ q => q) fun _ _ q => q
   rcases hc with z | z
   . rw [z]; exact nit b u e
   . exact nit c _ z
theorem track {a : Addr} {o : HO} (I : Inv X pins σ H s) (f : FpOk X pins H a) (ha : X.s₀.heap.objs.size <= a) (new : ObjOk X.prog X.w (upd H a o) s.heap a o) : Inv X pins σ (upd H a o) s := by
 have hn := f.1
 have ne0 : ∀ b ob, X.s₀.heap.get? b = some ob -> b ≠ a := fun b ob e => Nat.ne_of_lt (Nat.lt_of_lt_of_le (lt_size e) ha)
 refine ⟨I.ok, I.os, I.bare, ⟨I.base.keep, I.base.slot, fun b ob e n hx => ?_, I.base.there, fun b xs e => ?_, fun b ob u e => ?_, fun b ps e => ?_⟩, I.loc, I.cell, ?_, fun x c e => ?_, fun p hp => ?_, fun b u e => ?_, I.len⟩
 . rw [upd_ne (ne0 b ob e)]; exact I.base.free b ob e n hx
 . have := I.base.tups b xs e
   rw [upd_ne (ne_of_none this hn)]; exact this
 . have := I.base.frzs b ob u e
   rw [upd_ne (ne_of_none this hn)]; exact this
 . obtain ⟨m, e1⟩ := I.base.tbls b ps e
   exact ⟨m, by rw [upd_ne (ne_of_none e1 hn)]; exact e1⟩
 . rw [upd_ne (Ne.symm f.2.1)]; exact I.free
 . rw [upd_ne (f.2.2.2.2.1 x c e)]; exact I.freeC x c e
 . obtain ⟨h1, h2, h3, h4, h5⟩ := I.pin p hp
   exact ⟨h1, by rw [upd_ne (f.2.2.2.2.2 p hp)]; exact h2, h3, h4, h5⟩
 . by_cases hb : b = a
   . subst hb; rw [upd_same] at e; cases e; exact new
   . rw [upd_ne hb] at e
     exact (I.hok b u e).stay (fun c v _ q => q) (fun c q => by rw [upd_ne (ne_of_none q hn)]; exact q) fun c xs q => by rw [upd_ne (ne_of_none q hn)]; exact q
end
def Ite (K : Frag) (a : Addr) : It :=
 ⟨fun i H => ∃ xs x, SqL K H a xs /\ xs[i]? = some x, fun i H y H' => ∃ p x, H p = none /\ y = .ref p /\ (∀ xs, SqL K H a xs -> xs[i]? = some x) /\ H' = upd H p (.tup [.int i, x]), fun i H => ∃ xs, SqL K H a xs /\ xs.length <= i⟩
theorem turn_enum {P : Program} {w : World} {K : Frag} {es : List Expr} {kt : Nat} {pt : Pos} (a e it : Addr) (hne : e ≠ it) : Turn P w K (.Tuple es kt pt) (Ite K a) [e, it] e (fun i h => (∃ old, IsEnum h e it (i : Nat) old) /\ h.IsListIter it a i) where
 mem := by simp
 obj := fun i h st b hb => by
  obtain ⟨⟨old, he⟩, o, e1, c, d⟩ := st
  rcases mem_cons.mp hb with rfl | hb
  . exact ⟨_, he, fun v z => by
     have z' : Data.fields _ = Data.cell v := z
     cases z'⟩
  . have e2 : b = it := by simpa using hb
    subst e2
    exact ⟨o, e1, fun v z => by rw [d] at z; cases z⟩
 keep := fun i h h' st k => by
  obtain ⟨⟨old, he⟩, hit⟩ := st
  exact ⟨⟨old, k e (by simp) _ he⟩, hit.at fun o q => k it (by simp) o q⟩
 item := by
  intro X hP hw hK hc i pins s σ H E I hf st hg
  subst hP hw hK
  obtain ⟨⟨old, he⟩, hit⟩ := st
  obtain ⟨xs, x, hq, hx⟩ := hg
  obtain ⟨its, rv, p, hz⟩ := I.list hq
  obtain ⟨u, hu, ru⟩ := rv.get hx
  refine wpAny_pyNext_enum_item he hit p.isList (x := u) (by simpa using hu) hne fun h1 he1 hit1 ht1 hz1 hk1 => ?_
  refine ⟨_, rfl, wpAny_letOwnedTupleGo_enum (s := { s with heap := h1, toks := s.toks + 1 }) he1 fun h2 he2 sb2 => ?_⟩
  have hlt : e < s.heap.objs.size := lt_size he
  have kk : ∀ b o, b ∉ [e, it] -> s.heap.get? b = some o -> h2.get? b = some o := fun b o hb q => by
   have b1 : b ≠ e := fun z => hb (by simp [z])
   have b2 : b ≠ it := fun z => hb (by simp [z])
   exact (sb2.2 b b1).trans (hk1 b o b1 b2 q)
  have I2 : Inv X pins σ H { s with heap := h2, toks := s.toks + 1 } := turnedL I kk hf
  have fresh := I.hok.fresh (Nat.le_refl s.heap.objs.size)
  have tup : h2.get? s.heap.objs.size = some { cls := .type "tuple", data := .seq #[.int i s.toks, u] } := (sb2.2 _ (Nat.ne_of_gt hlt)).trans ht1
  have I3 := track (o := .tup [.int (i : Nat), x]) I2 (I.fpOk (Nat.le_refl _) fresh) (Nat.le_trans I.sz (Nat.le_refl _)) ⟨by show 2 <= sizeLine; exact Nat.le_of_lt (small1000 (by decide)), [.int i s.toks, u], .cons ⟨_, rfl⟩ (.cons ru .nil), ⟨_, tup, rfl, _, rfl⟩⟩
  refine ⟨.ref s.heap.objs.size, _, I3, rfl, ⟨s.heap.objs.size, x, fresh, rfl, fun ys hy => by rw [I.list_inj hy hq]; exact hx, rfl⟩, ⟨⟨u, ?_⟩, ?_⟩, fun b hb => ?_⟩
  . have : ((i : Int) + 1) = ((i + 1 : Nat) : Int) := by omega
    rw [<- this]; exact he2
  . obtain ⟨o, q, c, d⟩ := hit1
    exact ⟨o, (sb2.2 it (Ne.symm hne)).trans q, c, d⟩
  . have hb' : b < s.heap.objs.size := by
     rcases mem_cons.mp hb with rfl | hb
     . exact hlt
     . have e2 : b = it := by simpa using hb
       subst e2
       obtain ⟨o, q, _⟩ := hit
       exact lt_size q
    rw [upd_ne (Nat.ne_of_lt hb')]; exact (hf b hb).1
 done := by
  intro X hP hw hK hc i pins s σ H E I hf st hg
  subst hP hw hK
  obtain ⟨⟨old, he⟩, hit⟩ := st
  obtain ⟨xs, hq, hx⟩ := hg
  obtain ⟨its, rv, p, hz⟩ := I.list hq
  have hl := rv.length
  exact wpAny_pyNext_enum_end (I.ok.hd hc) he hit p.isList (by simp; omega) fun h' eb => ⟨rfl, turnedL (t' := s.toks) (ch := [it]) I (fun b o hb q => eb b o (by simpa using hb) q) fun b hb => hf b (by
   have : b = it := by simpa using hb
   simp [this])⟩
 self := fun _ _ _ _ _ st h => by
  obtain ⟨⟨old, he⟩, _⟩ := st
  exact wpAny_pyIter_enum he h
section
variable {X : Cx} {ρ : List (Option D)} {m m1 m2 : Bool} {es : List Expr} {kt : Nat} {pt p pos : Pos} {a b : Expr} {ds es' : List D}
def iEnum (K : Frag) (ta : TA) : TI := fun σ H R => ta σ H fun vs H1 => ∃ l, vs = [.ref l] /\ (∃ xs, SqL K H1 l xs) /\ R (Ite K l) H1
theorem pi_enum {ta : TA} (hg : Gl X "enumerate") (hm : X.mg "enumerate" = none) (ha : PA X [a] ta) (hs : starEach [a] X.env = [(false, eval a X.env)] := by rfl) : PI X (.Tuple es kt pt) (.Call (.Name "enumerate" p) [a] [] pos) (iEnum X.K ta) := by
 intro pins s σ H R I h
 refine Call_ (ld_blt I hg hm boot_enumerate (PyProof.Rows.callWith_type1 (thn (ha pos pins s σ H _ I h) fun us s1 ⟨vs, H1, I1, r1, q1⟩ => ?_) hs rfl))
 obtain ⟨l, e, ⟨xs, hq⟩, q⟩ := q1
 subst e
 obtain ⟨u, rfl, ru⟩ := vals1 r1
 cases ru
 obtain ⟨its, rv, pl, hz⟩ := I1.list hq
 refine call_enumerate_list pl.isList fun h' he hit hz' hk => ?_
 have I2 : Inv X pins σ H1 { s1 with heap := h' } := I1.kept (t' := s1.toks) hk
 refine wpAny_pyIter_enum (s := { s1 with heap := h' }) he ⟨s1.heap.objs.size + 1, [s1.heap.objs.size + 1, s1.heap.objs.size], _, _, H1, rfl, I2, turn_enum l _ _ (Nat.succ_ne_self _), ⟨⟨_, he⟩, hit⟩, fun b hb => ?_, q⟩
 rcases mem_cons.mp hb with rfl | hb
 . exact I1.fpOk (Nat.le_succ _) (I1.hok.fresh (Nat.le_succ _))
 . have e : b = s1.heap.objs.size := by simpa using hb
   subst e
   exact I1.fpOk (Nat.le_refl _) (I1.hok.fresh (Nat.le_refl _))
def enumD (ds : List D) : List D := (List.range ds.length).map fun i => D.tup [.int (i : Nat), ds.getD i .non]
theorem enumD_get {i : Nat} {d : D} (h : (enumD ds)[i]? = some d) : ∃ d', ds[i]? = some d' /\ d = .tup [.int (i : Nat), d'] := by
 unfold enumD at h
 rw [getElem?_map] at h
 by_cases hi : i < ds.length
 . rw [List.getElem?_range hi] at h
   refine ⟨ds[i], by simp [hi], ?_⟩
   have := Option.some.inj h
   rw [<- this]; simp [hi]
 . rw [List.getElem?_eq_none (by simpa using hi)] at h
   cases h
theorem enumD_len : (enumD ds).length = ds.length := by simp [enumD]
theorem it_enum (h : E X m ρ a (.lst ds)) (hm : X.mg "enumerate" = none) (hg : Gl X "enumerate" := by rfl) (hs : starEach [a] X.env = [(false, eval a X.env)] := by rfl) :
 IT X (.Tuple es kt pt) m ρ (.Call (.Name "enumerate" p) [a] [] pos) (enumD ds) := PI.mono (pi_enum hg hm (pa_cons h pa_nil (by rw [hs]; rfl)) hs) fun σ H R z0 => el13 z0 fun Z oz en k => ⟨Z, oz, en, fun v H1 s1 i1 => by
 obtain ⟨l, xs, rfl, at', j⟩ := in_lst.mp i1
 refine ⟨l, rfl, ⟨xs, at'.sq⟩, k _ H1 [.ref l] [.lst ds] s1 (Ins.one i1) ⟨fun Z2 H2 o2 j2 i d e => ?_, fun Z2 H2 o2 j2 => ?_⟩⟩
 . obtain ⟨d', e', rfl⟩ := enumD_get e
   obtain ⟨w, r, e1, j3, j4⟩ := ins_cons.mp j2
   cases e1
   obtain ⟨a', ys, e2, l2, j5⟩ := in_lst.mp j3
   cases e2
   obtain ⟨v, e3, iv⟩ := j5.get e'
   refine ⟨⟨ys, v, l2.sq, e3⟩, fun x H3 ⟨q, y, hq, ex, hy, eH⟩ => ?_⟩
   subst ex eH
   have := hy ys l2.sq
   rw [e3] at this
   cases this
   exact ⟨same_new hq, in_tup.mpr ⟨q, _, rfl, upd_same, ins_cons.mpr ⟨_, _, rfl, in_int.mpr rfl, Ins.one (iv.same (same_new hq))⟩⟩⟩
 . obtain ⟨w, r, e1, j3, j4⟩ := ins_cons.mp j2
   cases e1
   obtain ⟨a', ys, e2, l2, j5⟩ := in_lst.mp j3
   cases e2
   exact ⟨ys, l2.sq, by rw [enumD_len]; exact Nat.le_of_eq j5.length.symm⟩⟩
theorem e_tupleL (ha : E X m1 ρ a (.lst ds)) (hm : X.mg "tuple" = none) (hg : Gl X "tuple" := by rfl) (hs : starEach [a] X.env = [(false, eval a X.env)] := by rfl) : E X m1 ρ (.Call (.Name "tuple" p) [a] [] pos) (.tup ds) :=
 PE.mono (pe_callTy call_tuple_of hg hm boot_tuple (pa_cons ha pa_nil (by rw [hs]; rfl)) (by decide) (by decide) (by rw [hs]; rfl) rfl) fun σ H Q z0 => el13 z0 fun Z oz en k => ⟨Z, oz, en, fun x H1 s1 i1 => by
  obtain ⟨l, xs, rfl, at', j⟩ := in_lst.mp i1
  exact ⟨l, xs, rfl, .inl ⟨at'.sq, fun q hq => k (.ref q) _ (s1.trans (same_new hq)) (in_tup.mpr ⟨q, xs, rfl, upd_same, j.same (same_new hq)⟩)⟩⟩⟩
theorem t_inB {bs : List Bool} {q : Bool} (ha : E X m1 ρ a (.bl q)) (hb : E X m2 ρ b (.lst (bs.map D.bl))) (hm : behindInMarks .In b = false := by rfl) : T X ρ (.Compare a [.In] [b] pos) (bs.any (· == q)) :=
 t_cmp op_in_seq ha hb (fun x y H Z Q _ i1 i2 k => by
  obtain ⟨l, xs, rfl, at', j⟩ := in_lst.mp i2
  cases in_bl.mp i1
  rw [ins_bls_inv j] at at'
  refine ⟨l, _, rfl, .inl at'.sq, rfl, by simp [flatV], ?_⟩
  have e : inV (.bl q) (bs.map V.bl) = bs.any (· == q) := by
   unfold inV
   rw [List.any_map]
   rfl
  simp only [Bool.false_eq_true, if_false]
  rw [e]
  exact k _ (Same.refl H)) hm
end
theorem cut_map {α β : Type} (f : α -> β) (l : List α) (a b : Option Int) : cut (l.map f) a b = (cut l a b).map f := by
 unfold cut
 rw [length_map, List.map_take, List.map_drop]
theorem smallL {n : Nat} (h : n <= 1000) : n <= sizeLine := Nat.le_of_lt (small1000 h)
theorem cut_from {α : Type} (xs : List α) (k : Nat) : cut xs (some (k : Int)) none = xs.drop k := by
 unfold cut
 rw [HT.sIx_nat, HT.sIx_none]
 by_cases h : k <= xs.length
 . rw [Nat.min_eq_left h]
   exact List.take_of_length_le (by simp)
 . have h' : xs.length <= k := by omega
   rw [Nat.min_eq_right h', List.drop_of_length_le h', List.drop_length]
   simp
theorem cut_to {α : Type} (xs : List α) (k : Nat) : cut xs none (some (k : Int)) = xs.take k := by
 unfold cut
 rw [HT.sIx_nat, HT.sIx_none]
 by_cases h : k <= xs.length
 . rw [Nat.min_eq_left h]; simp
 . have h' : xs.length <= k := by omega
   rw [Nat.min_eq_right h', List.take_of_length_le h']
   simp
theorem cut_both {α : Type} (xs : List α) (j k : Nat) : cut xs (some (j : Int)) (some (k : Int)) = (xs.drop j).take (k - j) := by
 unfold cut
 rw [HT.sIx_nat, HT.sIx_nat]
 by_cases h : j <= xs.length
 . rw [Nat.min_eq_left h]
   by_cases h2 : k <= xs.length
   . rw [Nat.min_eq_left h2]
   . have h3 : xs.length <= k := by omega
     rw [Nat.min_eq_right h3, List.take_of_length_le (by simp), List.take_of_length_le (by simp; omega)]
 . have h' : xs.length <= j := by omega
   rw [Nat.min_eq_right h', List.drop_of_length_le h', List.drop_length]
   simp
theorem atI_get {α : Type} {xs : List α} {i : Int} {a : α} (h0 : 0 <= i) (h : xs[i.toNat]? = some a) : atI xs i = some a := by
 obtain ⟨k, rfl⟩ := Int.eq_ofNat_of_zero_le h0
 exact atI_nat (by simpa using h)
def Itz (K : Frag) (a b : Addr) : It :=
  ⟨fun i H => ∃ xs ys x y, SqL K H a xs /\ SqL K H b ys /\ xs[i]? = some x /\ ys[i]? = some y,
   fun i H z H' => ∃ p x y, H p = none /\ z = .ref p /\ (∀ xs, SqL K H a xs -> xs[i]? = some x) /\ (∀ ys, SqL K H b ys -> ys[i]? = some y) /\ H' = upd H p (.tup [x, y]),
   fun i H => ∃ xs ys, SqL K H a xs /\ SqL K H b ys /\ (xs.length <= i \/ ys.length <= i)⟩
theorem turn_zip {P : Program} {w : World} {K : Frag} {es : List Expr} {kt : Nat} {pt : Pos} (a b z TI TO i1 i2 : Addr) (D : ZipApart z TI TO i1 i2 a b) :
 Turn P w K (.Tuple es kt pt) (Itz K a b) [z, TI, TO, i1, i2] z (fun i h => IsZip h z TI TO .none /\ IsPair h TI (.ref i1) (.ref i2) /\ (∃ u v, IsPair h TO u v) /\ h.IsListIter i1 a i /\ h.IsListIter i2 b i) where
 mem := by simp
 obj := fun i h st c hc => by
  obtain ⟨hz, hTI, ⟨u, v, hTO⟩, ⟨o1, e1, c1, d1⟩, ⟨o2, e2, c2, d2⟩⟩ := st
  simp only [mem_cons, not_mem_nil, or_false] at hc
  rcases hc with rfl | rfl | rfl | rfl | rfl
  . exact ⟨_, hz, fun v q => by
     have q' : Data.fields _ = Data.cell v := q
     cases q'⟩
  . exact ⟨_, hTI, fun v q => by
     have q' : Data.seq _ _ = Data.cell v := q
     cases q'⟩
  . exact ⟨_, hTO, fun v q => by
     have q' : Data.seq _ _ = Data.cell v := q
     cases q'⟩
  . exact ⟨o1, e1, fun v q => by rw [d1] at q; cases q⟩
  . exact ⟨o2, e2, fun v q => by rw [d2] at q; cases q⟩
 keep := fun i h h' st k => by
  obtain ⟨hz, hTI, ⟨u, v, hTO⟩, h1, h2⟩ := st
  exact ⟨k z (by simp) _ hz, k TI (by simp) _ hTI, ⟨u, v, k TO (by simp) _ hTO⟩, h1.at fun o q => k i1 (by simp) o q, h2.at fun o q => k i2 (by simp) o q⟩
 item := by
  intro X hP hw hK hc i pins s σ H E I hf st hg
  subst hP hw hK
  obtain ⟨hz, hTI, ⟨u0, v0, hTO⟩, h1, h2⟩ := st
  obtain ⟨xs, ys, x, y, hqa, hqb, hx, hy⟩ := hg
  obtain ⟨its, rv, p, hsz⟩ := I.list hqa
  obtain ⟨its2, rv2, p2, hsz2⟩ := I.list hqb
  obtain ⟨u, hu, ru⟩ := rv.get hx
  obtain ⟨v, hv, rv'⟩ := rv2.get hy
  refine wpAny_pyNext_zip_item D hz hTI hTO h1 h2 p.isList p2.isList (x := u) (y := v) (by simpa using hu) (by simpa using hv) fun h' hz1 hTO1 h11 h21 ht1 hsz1 hk1 => ?_
  refine ⟨_, rfl, wpAny_letOwnedTupleGo_zip (s := { s with heap := h' }) hz1 fun h2' hz2 sb2 => ?_⟩
  have hlt : z < s.heap.objs.size := lt_size hz
  have kk : ∀ c o, c ∉ [z, TI, TO, i1, i2] -> s.heap.get? c = some o -> h2'.get? c = some o := fun c o hc q => by
   simp only [mem_cons, not_mem_nil, or_false, not_or] at hc
   exact (sb2.2 c hc.1).trans (hk1 c o hc.1 hc.2.2.1 hc.2.2.2.1 hc.2.2.2.2 q)
  have I2 : Inv X pins σ H { s with heap := h2', toks := s.toks } := turnedL I kk hf
  have fresh := I.hok.fresh (Nat.le_refl s.heap.objs.size)
  have tup : h2'.get? s.heap.objs.size = some { cls := .type "tuple", data := .seq #[u, v] } := (sb2.2 _ (Nat.ne_of_gt hlt)).trans ht1
  have I3 := track (o := .tup [x, y]) I2 (I.fpOk (Nat.le_refl _) fresh) (Nat.le_trans I.sz (Nat.le_refl _)) ⟨by show 2 <= sizeLine; exact Nat.le_of_lt (small1000 (by decide)), [u, v], .cons ru (.cons rv' .nil), ⟨_, tup, rfl, _, rfl⟩⟩
  refine ⟨.ref s.heap.objs.size, _, I3, rfl, ⟨s.heap.objs.size, x, y, fresh, rfl, fun zs hs => by rw [I.list_inj hs hqa]; exact hx, fun zs hs => by rw [I.list_inj hs hqb]; exact hy, rfl⟩, ⟨hz2, ?_, ⟨u, v, ?_⟩, ?_, ?_⟩, fun c hc => ?_⟩
  . exact (sb2.2 TI D.TIz).trans (hk1 TI _ D.TIz D.TITO D.TIi1 D.TIi2 hTI)
  . exact (sb2.2 TO D.TOz).trans hTO1
  . obtain ⟨o, q, c, d⟩ := h11
    exact ⟨o, (sb2.2 i1 D.i1z).trans q, c, d⟩
  . obtain ⟨o, q, c, d⟩ := h21
    exact ⟨o, (sb2.2 i2 D.i2z).trans q, c, d⟩
  . have hc' : c < s.heap.objs.size := by
     simp only [mem_cons, not_mem_nil, or_false] at hc
     rcases hc with rfl | rfl | rfl | rfl | rfl
     . exact hlt
     . exact lt_size hTI
     . exact lt_size hTO
     . obtain ⟨o, q, _⟩ := h1; exact lt_size q
     . obtain ⟨o, q, _⟩ := h2; exact lt_size q
    rw [upd_ne (Nat.ne_of_lt hc')]; exact (hf c hc).1
 done := by
  intro X hP hw hK hc i pins s σ H E I hf st hg
  subst hP hw hK
  obtain ⟨hz, hTI, ⟨u0, v0, hTO⟩, h1, h2⟩ := st
  obtain ⟨xs, ys, hqa, hqb, hx⟩ := hg
  obtain ⟨its, rv, p, hsz⟩ := I.list hqa
  obtain ⟨its2, rv2, p2, hsz2⟩ := I.list hqb
  have hl := rv.length
  have hl2 := rv2.length
  refine wpAny_pyNext_zip_end (I.ok.hd hc) D hz hTI hTO h1 h2 p.isList p2.isList (by
   rcases hx with h | h
   . left; simp; omega
   . right; simp; omega) fun h' eb => ⟨rfl, turnedL (t' := s.toks) (ch := [z, TI, TO, i1, i2]) I (fun c o hc q => ?_) hf⟩
  simp only [mem_cons, not_mem_nil, or_false, not_or] at hc
  exact eb c o hc.1 hc.2.2.1 hc.2.2.2.1 hc.2.2.2.2 q
 self := fun _ _ _ _ _ st h => wpAny_pyIter_zip st.1 h
section
variable {X : Cx} {ρ : List (Option D)} {m m1 m2 : Bool} {es : List Expr} {kt : Nat} {pt p pos : Pos} {a b : Expr} {ds es' : List D}
def iZip (K : Frag) (ta : TA) : TI := fun σ H R => ta σ H fun vs H1 => ∃ l l', vs = [.ref l, .ref l'] /\ (∃ xs, SqL K H1 l xs) /\ (∃ xs, SqL K H1 l' xs) /\ R (Itz K l l') H1
theorem pi_zip {ta : TA} (hg : Gl X "zip") (hm : X.mg "zip" = none) (ha : PA X [a, b] ta) (hs : starEach [a, b] X.env = [(false, eval a X.env), (false, eval b X.env)] := by rfl) (hs2 : starEach [b] X.env = [(false, eval b X.env)] := by rfl) : PI X (.Tuple es kt pt) (.Call (.Name "zip" p) [a, b] [] pos) (iZip X.K ta) := by
 intro pins s σ H R I h
 refine Call_ (ld_blt I hg hm boot_zip (PyProof.Rows.callWith_type1 (thn (ha pos pins s σ H _ I h) fun us s1 ⟨vs, H1, I1, r1, q1⟩ => ?_) (by rw [hs, <- hs2]) (by rw [hs2]; rfl)))
 obtain ⟨l, l', e, ⟨xs, hq⟩, ⟨ys, hq'⟩, q⟩ := q1
 subst e
 cases r1 with
 | cons ra rr =>
  cases rr with
  | cons rb rn =>
   cases rn
   cases ra
   cases rb
   obtain ⟨its, rv, pl, hz⟩ := I1.list hq
   obtain ⟨its2, rv2, pl2, hz2⟩ := I1.list hq'
   obtain ⟨o1, _, g1, _⟩ := id pl
   obtain ⟨o2, _, g2, _⟩ := id pl2
   refine call_zip_2 pl.isList pl2.isList fun h' hz' hTI hTO hit1 hit2 hsz hk => ?_
   have I2 : Inv X pins σ H1 { s1 with heap := h' } := I1.kept (t' := s1.toks) hk
   refine wpAny_pyIter_zip (s := { s1 with heap := h' }) hz' ⟨s1.heap.objs.size + 4, [s1.heap.objs.size + 4, s1.heap.objs.size + 2, s1.heap.objs.size + 3, s1.heap.objs.size, s1.heap.objs.size + 1], _, _, H1, rfl, I2, turn_zip l l' _ _ _ _ _ (zipApart_new (lt_size g1) (lt_size g2)), ⟨hz', hTI, ⟨_, _, hTO⟩, hit1, hit2⟩, fun c hc => ?_, q⟩
   have hge : s1.heap.objs.size <= c := by
    simp only [mem_cons, not_mem_nil, or_false] at hc
    rcases hc with rfl | rfl | rfl | rfl | rfl
    . exact Nat.le_add_right _ _
    . exact Nat.le_add_right _ _
    . exact Nat.le_add_right _ _
    . exact Nat.le_refl _
    . exact Nat.le_add_right _ _
   exact I1.fpOk hge (I1.hok.fresh hge)
def zipD (ds es : List D) : List D := (ds.zip es).map fun p => D.tup [p.1, p.2]
theorem zipD_get {i : Nat} {d : D} (h : (zipD ds es')[i]? = some d) : ∃ d1 d2, ds[i]? = some d1 /\ es'[i]? = some d2 /\ d = .tup [d1, d2] := by
 unfold zipD at h
 rw [getElem?_map] at h
 cases q : (ds.zip es')[i]? with
 | none => rw [q] at h; cases h
 | some p =>
  rw [q] at h
  cases h
  have := List.getElem?_zip_eq_some.mp q
  exact ⟨p.1, p.2, this.1, this.2, rfl⟩
theorem zipD_len : (zipD ds es').length = min ds.length es'.length := by simp [zipD]
theorem it_zip (h : E X m1 ρ a (.lst ds)) (h2 : E X m2 ρ b (.lst es')) (hm : X.mg "zip" = none) (hg : Gl X "zip" := by rfl) (hs : starEach [a, b] X.env = [(false, eval a X.env), (false, eval b X.env)] := by rfl) (hs2 : starEach [b] X.env = [(false, eval b X.env)] := by rfl) :
 IT X (.Tuple es kt pt) false ρ (.Call (.Name "zip" p) [a, b] [] pos) (zipD ds es') := PI.mono (pi_zip hg hm (ea_cons h (ea_one h2 (by rw [hs2]; rfl)) (by rw [hs, hs2])) hs hs2) fun σ H R z0 => el13 z0 fun Z oz en k => ⟨Z, oz, en, fun vs H1 s1 i1 => by
 obtain ⟨v1, r1, rfl, j1, jr⟩ := ins_cons.mp i1
 obtain ⟨v2, r2, rfl, j2, jr2⟩ := ins_cons.mp jr
 cases ins_nil.mp jr2
 obtain ⟨l, xs, rfl, at1, jx⟩ := in_lst.mp j1
 obtain ⟨l', ys, rfl, at2, jy⟩ := in_lst.mp j2
 refine ⟨l, l', rfl, ⟨xs, at1.sq⟩, ⟨ys, at2.sq⟩, k _ H1 [.ref l, .ref l'] [.lst ds, .lst es'] s1 i1 ⟨fun Z2 H2 o2 j2 i d e => ?_, fun Z2 H2 o2 j2 => ?_⟩⟩
 . obtain ⟨d1, d2, e1, e2, rfl⟩ := zipD_get e
   obtain ⟨w, r, q1, j3, j4⟩ := ins_cons.mp j2
   cases q1
   obtain ⟨w2, r2, q2, j5, j6⟩ := ins_cons.mp j4
   cases q2
   obtain ⟨a1, us, q3, l3, j7⟩ := in_lst.mp j3
   cases q3
   obtain ⟨a2, ws, q4, l4, j8⟩ := in_lst.mp j5
   cases q4
   obtain ⟨v, e3, iv⟩ := j7.get e1
   obtain ⟨v', e4, iv'⟩ := j8.get e2
   refine ⟨⟨us, ws, v, v', l3.sq, l4.sq, e3, e4⟩, fun x H3 ⟨q, y, y', hq, ex, hy, hy', eH⟩ => ?_⟩
   subst ex eH
   have t1 := hy us l3.sq
   rw [e3] at t1
   cases t1
   have t2 := hy' ws l4.sq
   rw [e4] at t2
   cases t2
   exact ⟨same_new hq, in_tup.mpr ⟨q, _, rfl, upd_same, ins_cons.mpr ⟨_, _, rfl, iv.same (same_new hq), Ins.one (iv'.same (same_new hq))⟩⟩⟩
 . obtain ⟨w, r, q1, j3, j4⟩ := ins_cons.mp j2
   cases q1
   obtain ⟨w2, r2, q2, j5, j6⟩ := ins_cons.mp j4
   cases q2
   obtain ⟨a1, us, q3, l3, j7⟩ := in_lst.mp j3
   cases q3
   obtain ⟨a2, ws, q4, l4, j8⟩ := in_lst.mp j5
   cases q4
   refine ⟨us, ws, l3.sq, l4.sq, ?_⟩
   rw [zipD_len, <- j7.length, <- j8.length]
   omega⟩
end
section
variable {X : Cx} {pins : List (Addr × Obj)} {σ : St} {H : Hp} {s : Shared}
theorem Inv.listX {a : Addr} {xs : List V} (I : Inv X pins σ H s) (h : SqL X.K H a xs) : ∃ (its : List Value) (n : Nat) (sl : Array (Option Value)), Vals xs its /\ s.heap.get? a = some { cls := .type "list", dict := none, data := .seq its.toArray n, slots := sl } /\ xs.length <= sizeLine := by
 obtain ⟨its, r, ⟨o, n, e, hc, hd, hs⟩, z⟩ := I.list h
 obtain ⟨cls, dict, data, slots⟩ := o
 simp only at hc hd hs
 subst hc hd hs
 exact ⟨its, n, slots, r, e, z⟩
end
theorem roomDs {k : Nat} {A : Around} {ds : List D} (r : Room k A) (h : deps ds <= 100) : A.units + 1 + deps ds < cLine := by have := r.un; omega
theorem room1 {k : Nat} {A : Around} (r : Room k A) : A.units + 1 < cLine := by have := r.un; omega
def scV : D -> Option V
 | .int i => some (.int i)
 | .bl b => some (.bl b)
 | .str x => some (.str x)
 | .non => some .non
 | _ => none
section
variable {K : Frag} {H : Hp} {Z Z' : Zone}
theorem in_kD {k : Key} {v : V} (h : In K H Z (kD k) v) : v = kV k := by
 cases k with
 | inl i => exact in_int.mp h
 | inr x => exact in_str.mp h
theorem ins_kD : ∀ {ks : List Key} {vs : List V}, Ins K H Z (ks.map kD) vs -> vs = ks.map kV
 | [], _, h => ins_nil.mp h
 | k :: ks, _, h => by
  obtain ⟨v, r, rfl, a, j⟩ := ins_cons.mp h
  rw [in_kD a, ins_kD j]; rfl
theorem in_sc {d : D} {v w : V} (h : In K H Z d v) (e : scV d = some w) : v = w := by
 cases d with
 | non => cases e; exact in_non.mp h
 | bl b => cases e; exact in_bl.mp h
 | int b => cases e; exact in_int.mp h
 | str b => cases e; exact in_str.mp h
 | lst b => cases e
 | tup b => cases e
 | dct b => cases e
 | ktup b => cases e
def DO.at (o : DO) (d : D) (r : Option V) : Prop := match o with
 | .k kvs => ∃ k, d = kD k /\ r = valV kvs k
 | .t kvs => ∃ ks, d = .tup (ks.map kD) /\ r = valV kvs ks
def DO.put (o : DO) (d : D) (v : V) (o' : DO) : Prop := match o with
 | .k kvs => ∃ k, d = kD k /\ kvs.length < sizeLine /\ o' = .k (putK kvs k v)
 | .t kvs => ∃ ks, d = .tup (ks.map kD) /\ kvs.length < sizeLine /\ o' = .t (putK kvs ks v)
theorem DO.at_k {kvs : List (Key × V)} {k : Key} {d : D} {r : Option V} (h : d = kD k) (hr : r = valV kvs k) : (DO.k kvs).at d r := ⟨k, h, hr⟩
theorem DO.at_t {kvs : List (List Key × V)} {k : List Key} {d : D} {r : Option V} (h : d = .tup (k.map kD)) (hr : r = valV kvs k) : (DO.t kvs).at d r := ⟨k, h, hr⟩
theorem DO.put_k {kvs : List (Key × V)} {k : Key} {d : D} {v : V} {o' : DO} (h : d = kD k) (hl : kvs.length < sizeLine) (e : o' = .k (putK kvs k v)) : (DO.k kvs).put d v o' := ⟨k, h, hl, e⟩
theorem DO.put_t {kvs : List (List Key × V)} {k : List Key} {d : D} {v : V} {o' : DO} (h : d = .tup (k.map kD)) (hl : kvs.length < sizeLine) (e : o' = .t (putK kvs k v)) : (DO.t kvs).put d v o' := ⟨k, h, hl, e⟩
theorem dget {o : DO} {d : D} {r : Option V} {x y : V} (hx : In K H Z (.dct o) x) (hy : In K H Z' d y) (h : o.at d r) : ∃ a, x = .ref a /\ DGet H a y r := by
 obtain ⟨a, rfl, e, _⟩ := in_dct.mp hx
 refine ⟨a, rfl, ?_⟩
 cases o with
 | k kvs =>
  obtain ⟨k, rfl, rfl⟩ := h
  rw [in_kD hy]
  exact .k e
 | t kvs =>
  obtain ⟨ks, rfl, rfl⟩ := h
  obtain ⟨b, xs, rfl, eb, j⟩ := in_tup.mp hy
  rw [ins_kD j] at eb
  exact .t e eb
theorem dput {o o' : DO} {d : D} {v y : V} {a : Addr} (e : H a = some o.ho) (hy : In K H Z' d y) (h : o.put d v o') : DPut H a y v (upd H a o'.ho) := by
 cases o with
 | k kvs =>
  obtain ⟨k, rfl, hl, rfl⟩ := h
  rw [in_kD hy]
  exact .k e hl
 | t kvs =>
  obtain ⟨ks, rfl, hl, rfl⟩ := h
  obtain ⟨b, xs, rfl, eb, j⟩ := in_tup.mp hy
  rw [ins_kD j] at eb
  exact .t e eb hl
end
section
variable {X : Cx} {ρ : List (Option D)} {m m1 m2 m3 : Bool} {a b c o e f : Expr} {d dk : D} {pos ap cp : Pos} {D0 : DO} {r : Option V}
theorem e_dnewK : E X true ρ (.Dict [] [] pos) (.dct (.k [])) := PE.mono pe_dnewK fun σ H Q z0 => el13 z0 fun Z oz en k => fun p hp => k (.ref p) _ (same_new hp) (in_dct.mpr ⟨p, rfl, upd_same, hp⟩)
theorem e_dnewT : E X true ρ (.Dict [] [] pos) (.dct (.t [])) := PE.mono pe_dnewT fun σ H Q z0 => el13 z0 fun Z oz en k => fun p hp => k (.ref p) _ (same_new hp) (in_dct.mpr ⟨p, rfl, upd_same, hp⟩)
theorem t_din (ha : E X m1 ρ a dk) (hb : E X m2 ρ b (.dct D0)) (hk : D0.at dk r) (hu : X.A.units + 1 < cLine) (hm : behindInMarks .In b = false := by rfl) : T X ρ (.Compare a [.In] [b] pos) r.isSome :=
 PT.mono (pt_cmp (pc_din hu ha hb) hm) fun σ H Q z0 => el13 z0 fun Z oz en k => ⟨Z, oz, en, fun y H1 s1 i1 => ⟨Z, oz.same s1, en.same s1, fun x H2 s2 i2 => by
  obtain ⟨a, rfl, g⟩ := dget (i2.plain (oz.same s1)) ((i1.plain oz).same s2) hk
  exact ⟨a, r, rfl, g, r.isSome, rfl, k H2 (s1.trans s2)⟩⟩⟩
theorem t_dnotin (ha : E X m1 ρ a dk) (hb : E X m2 ρ b (.dct D0)) (hk : D0.at dk r) (hu : X.A.units + 1 < cLine) (hm : behindInMarks .NotIn b = false := by rfl) : T X ρ (.Compare a [.NotIn] [b] pos) (!r.isSome) :=
 PT.mono (pt_cmp (pc_dnotin hu ha hb) hm) fun σ H Q z0 => el13 z0 fun Z oz en k => ⟨Z, oz, en, fun y H1 s1 i1 => ⟨Z, oz.same s1, en.same s1, fun x H2 s2 i2 => by
  obtain ⟨a, rfl, g⟩ := dget (i2.plain (oz.same s1)) ((i1.plain oz).same s2) hk
  exact ⟨a, r, rfl, g, !r.isSome, rfl, k H2 (s1.trans s2)⟩⟩⟩
end
section
variable {X : Cx} {F : Fn} {ρ : Rho} {Q : EndD} {rest : List Stmt} {e key : Expr} {pos p sp : Pos} {m1 m2 : Bool}
theorem sd_ownD (i : Nat) {x : Str} {o : DO} (he : E X true (view true false ρ) e (.dct o)) (hr : SD X F rest (ρ.set i (some (.od o))) Q) (hN : X.N.Nodup) (hi : X.N[i]? = some x := by rfl)
 (hx : Loc X.env.scope x := by first | exact Or.inl rfl | exact Or.inr rfl) (hρ : i < ρ.length := by exact of_decide_eq_true rfl) (hs : swapsWith e (some (.Name x p)) pos.line X.env = pure false := by rfl) (hf : X.fn x = true \/ X.env.scope.names.lookup x = some .local := by first | exact .inl rfl | exact .inr rfl) :
 SD X F (.Assign [.Name x p] e pos :: rest) ρ Q :=
 sd_then (PS.mono (ps_set hN hi hx he hs hf) fun Q' σ H z0 => el33 z0 fun hv hρ' A hl S f => ⟨_, vz_open S true false, S.env hl true false, fun v H1 s1 i1 => by
  obtain ⟨l, rfl, e1, e2⟩ := in_dct.mp i1
  refine f.nx _ H1 ⟨_, putA A i [l], by simp [hl], ?_, rfl⟩
  rw [<- set_app (by omega), <- set_app hρ]
  exact S.put (by rw [List.length_append]; omega) (by rw [List.length_append]; omega) s1 nodup1 (fun a ha => by
   have : a = l := by simpa using ha
   subst this
   exact ⟨e2, .d o, e1⟩) ⟨l, rfl, rfl, e1⟩⟩) hr
theorem StIn.od {K : Frag} {H : Hp} {σ hv : St} {hρ : Rho} {A : Nat -> List Addr} {i : Nat} {o : DO} (S : StIn K F H (σ ++ hv) (ρ ++ hρ) A) (hl : σ.length = ρ.length) (h : ρ[i]? = some (some (.od o))) :
 ∃ l, σ[i]? = some (some (.ref l)) /\ A i = [l] /\ H l = some o.ho := by
 have hi : i < ρ.length := (List.getElem?_eq_some_iff.mp h).1
 obtain ⟨v, a, l, e1, rfl, e2⟩ := S.at' i _ (by rw [getElem?_append_left hi]; exact h)
 rw [getElem?_append_left (by omega)] at a
 exact ⟨l, a, e1, e2⟩
theorem put_od {K : Frag} {hv : St} {hρ : Rho} {σ : St} {H : Hp} {A : Nat -> List Addr} {i : Nat} {l : Addr} {o o' : DO} (hl : σ.length = ρ.length) (S : StIn K F H (σ ++ hv) (ρ ++ hρ) A) (h : σ[i]? = some (some (.ref l))) (hA : A i = [l]) (hx : H l = some o.ho) :
 StOk K F hv hρ (fun r => r = ρ.set i (some (.od o'))) σ (upd H l o'.ho) := by
 have hi : i < σ.length := (List.getElem?_eq_some_iff.mp h).1
 refine ⟨_, putA A i [l], by simp [hl], ?_, rfl⟩
 have key := S.re (i := i) (v := .ref l) (sl := .od o') (l := [l]) (H2 := upd H l o'.ho) (by rw [List.length_append]; omega) (by rw [List.length_append]; omega) (S.same.writeM (xs := .d o) (S.new i l (by rw [hA]; simp)) hx) (fun b u e _ hb => ?_) nodup1 (fun a ha => ?_) ⟨l, rfl, rfl, upd_same⟩
 . rw [set_self (by rw [getElem?_append_left hi]; exact h), set_app (by omega)] at key
   exact key
 . rw [hA] at hb
   have : b ≠ l := by simpa using hb
   rw [upd_ne this]; exact e
 . have : a = l := by simpa using ha
   subst this
   exact ⟨.inl (by rw [hA]; simp), .d o', upd_same⟩
theorem sd_dput (i : Nat) {x : Str} {o o' : DO} {dk dv : D} {v : V} (h : ρ[i]? = some (some (.od o)) := by rfl) (hk : E X m1 (view true false ρ) key dk) (he : E X m2 (view true false ρ) e dv) (hv : scV dv = some v) (hp : o.put dk v o') (hu : X.A.units + 1 < cLine)
 (hr : SD X F rest (ρ.set i (some (.od o'))) Q) (hN : X.N[i]? = some x := by rfl) (hvis : Vis X.env.scope x := by first | exact Or.inl rfl | exact Or.inr (Or.inl rfl) | exact Or.inr (Or.inr rfl)) (hd : (x == ("__debug__" : Str)) = false := by decide) (hcd : (x == ("__classdict__" : Str)) = false := by decide)
 (hs : swapsWith e (some (.Subscript (.Name x p) key sp)) pos.line X.env = pure false := by rfl) : SD X F (.Assign [.Subscript (.Name x p) key sp] e pos :: rest) ρ Q := by
 refine sd_then (PS.mono (ps_dput hu (pe_var hN hvis hd hcd) hk he hs) fun Q' σ H ⟨hv', hρ, A, hl, S, f⟩ => ?_) hr
 obtain ⟨l, e1, e2, e3⟩ := S.od hl h
 refine ⟨_, vz_open S true false, S.env hl true false, fun w H1 s1 i1 => ?_⟩
 refine ⟨.ref l, e1, _, (vz_open S true false).same s1, (S.env hl true false).same s1, fun y H2 s2 i2 => ?_⟩
 have s12 := s1.trans s2
 have hw := in_sc i1 hv
 subst hw
 exact ⟨l, _, rfl, dput (s12.at e3 o.nt) i2 hp, f.nx _ _ (put_od hl (S.grow s12) e1 e2 (s12.at e3 o.nt))⟩
end
end Y
namespace Y
open PySem PyProof.Rows Builtin Builtin.Str StrLaws
abbrev cl (z : Str) : List Nat := z.cps.toList
def mkS (l : List Nat) : Str := ⟨l.toArray⟩
theorem mkS_cl (z : Str) : mkS (cl z) = z := by simp [cl, mkS]
theorem cl_inj {a b : Str} (h : cl a = cl b) : a = b := by rw [<- mkS_cl a, <- mkS_cl b, h]
theorem cl_len (z : Str) : (cl z).length = z.length := by simp [cl, Str.length]
theorem cl_append (a b : Str) : cl (a ++ b) = cl a ++ cl b := by simp [cl, Str.cps_append]
theorem cl_eq_nil {z : Str} : cl z = [] ↔ z = "" := ⟨fun h => cl_inj (by rw [h]; rfl), fun h => by subst h; rfl⟩
def cutAt (c : Nat) : List Nat -> List (List Nat)
 | [] => [[]]
 | k :: r => if k = c then [] :: cutAt c r else (k :: (cutAt c r).headD []) :: (cutAt c r).tail
theorem cutAt_ne (c : Nat) : ∀ l, cutAt c l ≠ []
 | [] => by simp [cutAt]
 | k :: r => by unfold cutAt; split <;> simp
theorem cutAt_free {c : Nat} : ∀ {l : List Nat}, c ∉ l -> cutAt c l = [l]
 | [], _ => rfl
 | k :: r, h => by
  have h1 : ¬ k = c := fun e => h (by simp [e])
  have h2 : c ∉ r := fun e => h (by simp [e])
  simp [cutAt, h1, cutAt_free h2]
theorem cutAt_app {c : Nat} : ∀ {a : List Nat} (b : List Nat), c ∉ a -> cutAt c (a ++ c :: b) = a :: cutAt c b
 | [], b, _ => by simp [cutAt]
 | k :: r, b, h => by
  have h1 : ¬ k = c := fun e => h (by simp [e])
  have h2 : c ∉ r := fun e => h (by simp [e])
  simp [cutAt, h1, cutAt_app b h2]
theorem cutAt_join {c : Nat} : ∀ {ps : List Str}, ps ≠ [] -> (∀ p ∈ ps, c ∉ cl p) -> cutAt c (cl (Str.join ⟨#[c]⟩ ps)) = ps.map cl
 | [], h, _ => absurd rfl h
 | [p], _, h => by
  show cutAt c (cl p) = _
  rw [cutAt_free (h p (by simp))]; rfl
 | p :: q :: r, _, h => by
  show cutAt c (cl (p ++ ⟨#[c]⟩ ++ Str.join ⟨#[c]⟩ (q :: r))) = _
  rw [cl_append, cl_append]
  have e : cl p ++ cl (⟨#[c]⟩ : Str) ++ cl (Str.join ⟨#[c]⟩ (q :: r)) = cl p ++ c :: cl (Str.join ⟨#[c]⟩ (q :: r)) := by simp [cl]
  rw [e, cutAt_app _ (h p (by simp)), cutAt_join (by simp) fun x hx => h x (by simp [hx])]
  rfl
theorem split_ne (x y : Str) : Txt.split x y ≠ [] := by
 unfold Txt.split
 split
 . simp
 . split
   . simp
   . rw [partsBetween_eq]
     obtain ⟨p, r, e⟩ := partsFrom_ne x y.length 0 (occurrences x y 0 x.length (x.length + 1))
     rw [e]; simp
theorem split_cut (x : Str) (c : Nat) : (Txt.split x ⟨#[c]⟩).map cl = cutAt c (cl x) := by
 rw [<- cutAt_join (split_ne x _) (split_free x c), join_split]
def wgo (sp : Nat -> Bool) : List Nat -> List Nat -> List (List Nat)
 | [], cur => if cur = [] then [] else [cur]
 | k :: r, cur => if sp k then (if cur = [] then wgo sp r [] else cur :: wgo sp r []) else wgo sp r (cur ++ [k])
def wordsC (sp : Nat -> Bool) (l : List Nat) : List (List Nat) := wgo sp l []
def curOf (x : Str) (cur : Nat) : Option Nat -> List Nat
 | none => []
 | some b => ((cl x).drop b).take (cur - b)
theorem sub_cl (x : Str) (i j : Nat) : cl (strSub x i j) = ((cl x).drop i).take (j - i) := strSub_toList x i j
theorem sw_words (x : Str) (limit : Nat) (hl : x.length < limit) : ∀ (m cur : Nat) (words : Array (Nat × Nat)) (start : Option Nat), cur + m = x.length -> SwOk x.length cur (none, words, start) -> (∀ b, start = some b -> b < cur) ->
 (swEnd x (forIn (List.range' cur m) ((none, words, start) : SwSt) (swBody x limit)).run).map (fun p => cl (strSub x p.1 p.2)) = words.toList.map (fun p => cl (strSub x p.1 p.2)) ++ wgo Unicode.isSpace ((cl x).drop cur) (curOf x cur start)
 | 0, cur, words, start, hm, h, hb => by
  have hc : cur = x.length := by omega
  subst hc
  have hd : (cl x).drop x.length = [] := by rw [<- cl_len]; simp
  rw [hd]
  simp only [List.range'_zero, List.forIn_nil]
  show (swEnd x (none, words, start)).map _ = _
  unfold swEnd
  cases start with
  | none => simp [wgo, curOf]
  | some b =>
   have hlt := hb b rfl
   have hne : ((cl x).drop b).take (x.length - b) ≠ [] := by
    intro e
    have := congrArg List.length e
    simp [cl] at this
    have h2 : x.cps.size = x.length := rfl
    omega
   simp [wgo, curOf, hne, sub_cl]
 | m + 1, cur, words, start, hm, h, hb => by
  rw [List.range'_succ, List.forIn_cons]
  obtain ⟨h1, h2, h3⟩ := id h
  have hcur : cur < x.length := by omega
  have hsz : ¬ ((words.size == limit) = true) := fun full => by
   have few := len_le_wsum words.toList
   rw [Array.length_toList, eq_of_beq full] at few
   cases start <;> dsimp only at h3 <;> omega
  have hx : cur < (cl x).length := by rw [cl_len]; exact hcur
  have hget : x.cps.getD cur 0 = (cl x)[cur] := by
   have : cur < x.cps.size := hcur
   simp [cl, Array.getD, this]
  have hdrop : (cl x).drop cur = (cl x)[cur] :: (cl x).drop (cur + 1) := List.drop_eq_getElem_cons hx
  have hopt : (cl x)[cur]? = some (cl x)[cur] := List.getElem?_eq_getElem hx
  revert hget hdrop hopt
  generalize (cl x)[cur] = k
  intro hget hdrop hopt
  unfold swBody
  simp only [hsz, if_false]
  rw [hget, hdrop]
  cases start with
  | none =>
   cases hsp : Unicode.isSpace k
   . have key := sw_words x limit hl m (cur + 1) words (some cur) (by omega) ⟨rfl, h2, Nat.le_succ cur, h3⟩ (fun b e => by cases e; omega)
     refine key.trans ?_
     congr 1
     have e1 : curOf x (cur + 1) (some cur) = [k] := by
      simp only [curOf]
      rw [hdrop]
      simp [show cur + 1 - cur = 1 by omega]
     rw [e1]
     simp [wgo, hsp, curOf]
   . have key := sw_words x limit hl m (cur + 1) words none (by omega) ⟨rfl, h2, Nat.le_succ_of_le h3⟩ (fun b e => by cases e)
     refine key.trans ?_
     congr 1
     simp [wgo, hsp, curOf]
  | some b =>
   have hlt := hb b rfl
   have hne : ((cl x).drop b).take (cur - b) ≠ [] := by
    intro e
    have := congrArg List.length e
    rw [length_take, length_drop, cl_len] at this
    simp only [List.length_nil] at this
    omega
   cases hsp : Unicode.isSpace k
   . have key := sw_words x limit hl m (cur + 1) words (some b) (by omega) ⟨rfl, h2, Nat.le_succ_of_le h3.1, h3.2⟩ (fun b' e => by cases e; omega)
     refine key.trans ?_
     congr 1
     have e1 : curOf x (cur + 1) (some b) = curOf x cur (some b) ++ [k] := by
      simp only [curOf]
      rw [show cur + 1 - b = (cur - b) + 1 by omega, take_add_one]
      congr 1
      rw [List.getElem?_drop, show b + (cur - b) = cur by omega, hopt]
      rfl
     rw [e1]
     simp [wgo, hsp]
   . have ok : SwOk x.length (cur + 1) (none, words.push (b, cur), none) := by
      have step := sw_run x limit hl 1 cur (none, words, some b) (by omega) h
      simpa [swBody, hsz, hget, hsp] using step
     have key := sw_words x limit hl m (cur + 1) (words.push (b, cur)) none (by omega) ok (fun b e => by cases e)
     refine key.trans ?_
     rw [Array.toList_push, map_append, List.append_assoc]
     congr 1
     simp only [curOf]
     simp [wgo, hsp, hne, sub_cl]
theorem words_eq (x : Str) : (Txt.words x).map cl = wordsC Unicode.isSpace (cl x) := by
 have key := sw_words x (x.length + 1) (Nat.lt_succ_self _) x.length 0 #[] none (by omega) ⟨rfl, by simp, by simp [wsum]⟩ (fun b e => by cases e)
 rw [<- sw_eq] at key
 simp only [List.drop_zero, curOf] at key
 unfold Txt.words
 split
 . rename_i he
   have he' : spaceWords x (x.length + 1) = [(0, x.length)] := by simpa using he
   rw [he'] at key
   simp only [map_cons, map_nil] at key
   rw [sub_whole] at key
   simpa [wordsC] using key
 . show (((spaceWords x (x.length + 1)).map fun p => strSub x p.1 p.2)).map cl = _
   rw [map_map]
   simpa [wordsC, Function.comp_def] using key
end Y
namespace Y
open PySem PyProof.Rows Builtin Builtin.Str StrLaws
def W36 : Str := "abcdefghijklmnopqrstuvwxyz0123456789"
def sgB (c : Nat) : Bool := decide (c ∈ cl W36)
def pSign (c : Nat) : Nat := if sgB c then c else 32
theorem W36_low : ∀ c ∈ cl W36, lo1 c = c /\ Unicode.isSpace c = false /\ c < 128 /\ c ≠ 10 /\ c ≠ 32 := by decide +kernel
theorem sg_mem {c : Nat} (h : sgB c = true) : c ∈ cl W36 := by simpa [sgB] using h
theorem sg_space {c : Nat} (h : sgB c = true) : Unicode.isSpace c = false := (W36_low c (sg_mem h)).2.1
theorem sg_low {c : Nat} (h : sgB c = true) : lo1 c = c := (W36_low c (sg_mem h)).1
theorem sp32 : Unicode.isSpace 32 = true := by decide +kernel
theorem p_space (c : Nat) : Unicode.isSpace (pSign c) = !sgB c := by
 unfold pSign
 cases h : sgB c
 . simp [sp32]
 . simp [sg_space h]
def wordsIn (l : List Nat) : List (List Nat) := wordsC Unicode.isSpace ((l.map lo1).map pSign)
def wopt (cur : List Nat) : List (List Nat) := if cur = [] then [] else [cur]
def ropt (row : List (List Nat)) : List (List (List Nat)) := if row = [] then [] else [row]
def rowsL (l : List Nat) : List (List (List Nat)) := ((cutAt 10 l).map wordsIn).filter fun r => !decide (r = [])
def scan : List Nat -> List (List Nat) -> List Nat -> List (List (List Nat))
 | [], row, cur => ropt (row ++ wopt cur)
 | c :: cs, row, cur => if c = 10 then ropt (row ++ wopt cur) ++ scan cs [] [] else if sgB (lo1 c) then scan cs row (cur ++ [lo1 c]) else scan cs (row ++ wopt cur) []
theorem wgo_cons (sp : Nat -> Bool) (k : Nat) (r cur : List Nat) : wgo sp (k :: r) cur = if sp k then wopt cur ++ wgo sp r [] else wgo sp r (cur ++ [k]) := by
 unfold wopt
 rw [wgo]
 split
 . split <;> simp
 . rfl
theorem wgo_nil (sp : Nat -> Bool) (cur : List Nat) : wgo sp [] cur = wopt cur := rfl
theorem filt_ropt (row : List (List Nat)) (t : List (List (List Nat))) : ((row :: t).filter fun r => !decide (r = [])) = ropt row ++ t.filter fun r => !decide (r = []) := by
 unfold ropt
 by_cases h : row = []
 . simp [h]
 . simp [h]
theorem scan_cut : ∀ (l : List Nat) (row : List (List Nat)) (cur : List Nat),
 scan l row cur = ropt (row ++ wgo Unicode.isSpace ((((cutAt 10 l).headD []).map lo1).map pSign) cur) ++ (((cutAt 10 l).tail).map wordsIn).filter fun r => !decide (r = [])
 | [], row, cur => by simp [scan, cutAt, wgo_nil]
 | c :: cs, row, cur => by
  have ih := scan_cut cs
  by_cases hc : c = 10
  . subst hc
    have e : cutAt 10 (10 :: cs) = [] :: cutAt 10 cs := by simp [cutAt]
    rw [e]
    simp only [scan, if_true, List.headD_cons, List.tail_cons, map_nil, wgo_nil]
    congr 1
    rw [ih [] []]
    obtain ⟨h, t, e2⟩ : ∃ h t, cutAt 10 cs = h :: t := by
     cases q : cutAt 10 cs with
     | nil => exact absurd q (cutAt_ne 10 cs)
     | cons h t => exact ⟨h, t, rfl⟩
    rw [e2]
    simp only [List.headD_cons, List.tail_cons, map_cons, List.nil_append]
    rw [filt_ropt]
    rfl
  . have e : cutAt 10 (c :: cs) = (c :: (cutAt 10 cs).headD []) :: (cutAt 10 cs).tail := by simp [cutAt, hc]
    rw [e]
    simp only [scan, hc, if_false, List.headD_cons, List.tail_cons, map_cons]
    rw [wgo_cons, p_space]
    cases hs : sgB (lo1 c)
    . simp only [Bool.not_false, if_true, Bool.false_eq_true, if_false]
      rw [ih, List.append_assoc]
    . simp only [Bool.not_true, if_true]
      rw [ih]
      have : pSign (lo1 c) = lo1 c := by simp [pSign, hs]
      rw [this]
      simp
theorem rows_scan (l : List Nat) : rowsL l = scan l [] [] := by
 rw [scan_cut]
 unfold rowsL
 obtain ⟨h, t, e2⟩ : ∃ h t, cutAt 10 l = h :: t := by
  cases q : cutAt 10 l with
  | nil => exact absurd q (cutAt_ne 10 l)
  | cons h t => exact ⟨h, t, rfl⟩
 rw [e2]
 simp only [map_cons, List.headD_cons, List.tail_cons, List.nil_append]
 rw [filt_ropt]
 rfl
def wordsInS (part : Str) : List Str := Txt.words (Txt.join "" ((cl (Txt.lower part)).map fun c => if sgB c then (⟨#[c]⟩ : Str) else " "))
def rowsOfS (z : Str) : List (List Str) := ((Txt.split z "\n").map wordsInS).filter fun r => !decide (r = [])
theorem join0 : ∀ (l : List Nat), cl (Str.join "" (l.map fun c => (⟨#[c]⟩ : Str))) = l
 | [] => rfl
 | [c] => rfl
 | c :: d :: r => by
  show cl ((⟨#[c]⟩ : Str) ++ "" ++ Str.join "" ((d :: r).map fun c => (⟨#[c]⟩ : Str))) = _
  rw [cl_append, cl_append, join0 (d :: r)]
  rfl
theorem joinP (l : List Nat) : cl (Txt.join "" (l.map fun c => if sgB c then (⟨#[c]⟩ : Str) else " ")) = l.map pSign := by
 have e : (l.map fun c => if sgB c then (⟨#[c]⟩ : Str) else " ") = (l.map pSign).map fun c => (⟨#[c]⟩ : Str) := by
  rw [map_map]
  apply map_congr_left
  intro c _
  simp only [Function.comp, pSign]
  split <;> rfl
 show cl (glued "" _) = _
 rw [glued_eq_join, e, join0]
theorem wordsInS_eq {z : Str} (h : ∀ c ∈ cl z, c < 128) : (wordsInS z).map cl = wordsIn (cl z) := by
 unfold wordsInS
 rw [words_eq, joinP, lower_ascii h]
 simp [wordsIn, cl]
theorem cutAt_sub {c : Nat} : ∀ {l p : List Nat} {k : Nat}, p ∈ cutAt c l -> k ∈ p -> k ∈ l
 | [], p, k, hp, hk => by
  simp [cutAt] at hp
  subst hp
  exact hk
 | a :: r, p, k, hp, hk => by
  unfold cutAt at hp
  split at hp
  . rcases mem_cons.mp hp with rfl | hp
    . simp at hk
    . exact mem_cons_of_mem _ (cutAt_sub hp hk)
  . rcases mem_cons.mp hp with rfl | hp
    . rcases mem_cons.mp hk with rfl | hk
      . exact mem_cons_self
      . refine mem_cons_of_mem _ (cutAt_sub (c := c) (p := (cutAt c r).headD []) ?_ hk)
        cases q : cutAt c r with
        | nil => exact absurd q (cutAt_ne c r)
        | cons h t => simp
    . exact mem_cons_of_mem _ (cutAt_sub (List.mem_of_mem_tail hp) hk)
theorem rowsOfS_eq {z : Str} (h : ∀ c ∈ cl z, c < 128) : (rowsOfS z).map (·.map cl) = scan (cl z) [] [] := by
 rw [<- rows_scan]
 unfold rowsOfS rowsL
 rw [<- split_cut]
 have hp : ∀ p ∈ Txt.split z "\n", ∀ c ∈ cl p, c < 128 := fun p hp c hc => by
  have : cl p ∈ cutAt 10 (cl z) := by
   rw [<- split_cut]
   exact List.mem_map_of_mem hp
  exact h c (cutAt_sub this hc)
 have e : ((Txt.split z "\n").map wordsInS).map (·.map cl) = ((Txt.split z ⟨#[10]⟩).map cl).map wordsIn := by
  rw [map_map, map_map]
  apply map_congr_left
  intro p hq
  exact wordsInS_eq (hp p hq)
 rw [<- e]
 generalize (Txt.split z "\n").map wordsInS = rs
 rw [filter_map]
 congr 1
 apply List.filter_congr
 intro r _
 simp
end Y
namespace Y
open PySem PyProof.Rows Builtin Builtin.Str StrLaws
structure IsW (w : List Nat) : Prop where
 ne : w ≠ []
 sg : ∀ c ∈ w, sgB (lo1 c) = true
 nl : ∀ c ∈ w, c ≠ 10
def Part (p : List Nat) : Prop := p ≠ [] /\ ∀ c ∈ p, sgB (lo1 c) = false /\ c ≠ 10
def Quiet (p : List Nat) : Prop := ∀ c ∈ p, sgB (lo1 c) = false
theorem scan_word : ∀ (w rest : List Nat) (row : List (List Nat)) (cur : List Nat), (∀ c ∈ w, sgB (lo1 c) = true) -> (∀ c ∈ w, c ≠ 10) -> scan (w ++ rest) row cur = scan rest row (cur ++ w.map lo1)
 | [], rest, row, cur, _, _ => by simp
 | c :: w, rest, row, cur, h1, h2 => by
  have e1 := h1 c (by simp)
  have e2 := h2 c (by simp)
  rw [cons_append, scan]
  rw [if_neg e2, if_pos e1, scan_word w rest row _ (fun k hk => h1 k (by simp [hk])) (fun k hk => h2 k (by simp [hk]))]
  simp
theorem scan_still : ∀ (p rest : List Nat) (row : List (List Nat)), (∀ c ∈ p, sgB (lo1 c) = false /\ c ≠ 10) -> scan (p ++ rest) row [] = scan rest row []
 | [], rest, row, _ => rfl
 | c :: p, rest, row, h => by
  obtain ⟨e1, e2⟩ := h c (by simp)
  rw [cons_append, scan, if_neg e2, if_neg (by rw [e1]; simp)]
  have : wopt [] = [] := rfl
  rw [this, append_nil]
  exact scan_still p rest row fun k hk => h k (by simp [hk])
theorem scan_part {p : List Nat} (hp : Part p) (rest : List Nat) (row : List (List Nat)) (cur : List Nat) : scan (p ++ rest) row cur = scan rest (row ++ wopt cur) [] := by
 obtain ⟨h0, h⟩ := hp
 cases p with
 | nil => exact absurd rfl h0
 | cons c p =>
  obtain ⟨e1, e2⟩ := h c (by simp)
  rw [cons_append, scan, if_neg e2, if_neg (by rw [e1]; simp)]
  exact scan_still p rest _ fun k hk => h k (by simp [hk])
theorem scan_quiet0 : ∀ (p rest : List Nat), Quiet p -> scan (p ++ rest) [] [] = scan rest [] []
 | [], rest, _ => rfl
 | c :: p, rest, h => by
  have e1 := h c (by simp)
  have ih := scan_quiet0 p rest fun k hk => h k (by simp [hk])
  rw [cons_append, scan]
  by_cases hc : c = 10
  . rw [if_pos hc, ih]; rfl
  . rw [if_neg hc, if_neg (by rw [e1]; simp)]; exact ih
theorem scan_rowsep : ∀ (p rest : List Nat) (row : List (List Nat)) (cur : List Nat), Quiet p -> 10 ∈ p -> scan (p ++ rest) row cur = ropt (row ++ wopt cur) ++ scan rest [] []
 | [], rest, row, cur, _, h => by simp at h
 | c :: p, rest, row, cur, h, h10 => by
  have e1 := h c (by simp)
  rw [cons_append, scan]
  by_cases hc : c = 10
  . rw [if_pos hc, scan_quiet0 p rest fun k hk => h k (by simp [hk])]
  . rw [if_neg hc, if_neg (by rw [e1]; simp)]
    have h2 : 10 ∈ p := by
     rcases mem_cons.mp h10 with z | z
     . exact absurd z.symm hc
     . exact z
    rw [scan_rowsep p rest _ _ (fun k hk => h k (by simp [hk])) h2]
    simp [wopt]
theorem scan_end : ∀ (p : List Nat) (row : List (List Nat)) (cur : List Nat), Quiet p -> scan p row cur = ropt (row ++ wopt cur)
 | [], row, cur, _ => rfl
 | c :: p, row, cur, h => by
  have e1 := h c (by simp)
  rw [scan]
  by_cases hc : c = 10
  . rw [if_pos hc]
    have := scan_end p [] [] fun k hk => h k (by simp [hk])
    rw [this]; simp [wopt, ropt]
  . rw [if_neg hc, if_neg (by rw [e1]; simp), scan_end p _ _ fun k hk => h k (by simp [hk])]
    simp [wopt]
def isW (z : Str) : Prop := z ≠ "" /\ ∀ c ∈ cl z, sgB c = true
theorem isW.w {z : Str} (h : isW z) : IsW (cl z) := ⟨fun e => h.1 (cl_eq_nil.mp e), fun c hc => by rw [sg_low (h.2 c hc)]; exact h.2 c hc, fun c hc => (W36_low c (sg_mem (h.2 c hc))).2.2.2.1⟩
theorem quiet10 : Quiet [10] := fun c hc => by simp at hc; subst hc; decide +kernel
theorem w_ascii {z : Str} (h : isW z) : ∀ c ∈ cl z, c < 128 := fun c hc => (W36_low c (sg_mem (h.2 c hc))).2.2.1
end Y
namespace Y
open PySem PyProof.Rows Builtin Builtin.Str StrLaws
theorem lo_idem (c : Nat) : lo1 (lo1 c) = lo1 c := by
 unfold lo1
 split
 . rw [if_neg (by omega)]
 . rfl
theorem lo_10 (c : Nat) : lo1 c = 10 ↔ c = 10 := by
 unfold lo1
 split <;> omega
theorem scan_low : ∀ (l : List Nat) (row : List (List Nat)) (cur : List Nat), scan (l.map lo1) row cur = scan l row cur
 | [], _, _ => rfl
 | c :: l, row, cur => by
  rw [map_cons, scan, scan, lo_idem, scan_low l, scan_low l, scan_low l]
  by_cases h : c = 10
  . rw [if_pos h, if_pos ((lo_10 c).mpr h)]
  . rw [if_neg h, if_neg (fun z => h ((lo_10 c).mp z))]
def chR (r : List (List Nat)) : Nat := (r.map List.length).sum
def chRs (rows : List (List (List Nat))) : Nat := (rows.map chR).sum
theorem chR_wopt (row : List (List Nat)) (cur : List Nat) : chR (row ++ wopt cur) = chR row + cur.length := by
 unfold chR wopt
 split
 . rename_i h; subst h; simp
 . simp
theorem chRs_ropt (row : List (List Nat)) : chRs (ropt row) = chR row := by
 unfold chRs ropt
 split
 . rename_i h; subst h; rfl
 . simp
theorem scan_ch : ∀ (l : List Nat) (row : List (List Nat)) (cur : List Nat), chRs (scan l row cur) <= l.length + chR row + cur.length
 | [], row, cur => by rw [scan, chRs_ropt, chR_wopt]; simp
 | c :: l, row, cur => by
  rw [scan, length_cons]
  split
  . have ih := scan_ch l [] []
    have e : chRs (ropt (row ++ wopt cur) ++ scan l [] []) = chRs (ropt (row ++ wopt cur)) + chRs (scan l [] []) := by simp [chRs]
    rw [e, chRs_ropt, chR_wopt]
    simp [chR] at ih ⊢
    omega
  . split
    . have ih := scan_ch l row (cur ++ [lo1 c])
      simp at ih; omega
    . have ih := scan_ch l (row ++ wopt cur) []
      rw [chR_wopt] at ih
      simp at ih; omega
theorem chR_mem {r : List (List Nat)} {w : List Nat} (h : w ∈ r) : w.length <= chR r := by
 unfold chR
 induction r with
 | nil => simp at h
 | cons a l ih =>
  rcases mem_cons.mp h with rfl | h
  . simp
  . have := ih h; simp; omega
theorem chRs_mem {rows : List (List (List Nat))} {r : List (List Nat)} (h : r ∈ rows) : chR r <= chRs rows := by
 unfold chRs
 induction rows with
 | nil => simp at h
 | cons a l ih =>
  rcases mem_cons.mp h with rfl | h
  . simp
  . have := ih h; simp; omega
end Y
namespace Y
open PySem PySem.Spec PyProof.Rows L2
variable [Tabs]
def cellAt (ns : List Int) (k : Nat) : Int := ns.getD k 0
def gCellAt (ds : List D) (d : D) : Prop := ∃ (ns : List Int) (k : Nat), ns.length <= 1000 /\ ds = [.lst (ns.map D.int), .int k] /\ d = .int (cellAt ns k)
def part (c k m : Int) : Int := (c % 99991 + 17) * (48271 + 7919 * k) % 65537 * (k + 3) % 8191 % m
theorem part_nn (c k : Int) {m : Int} (h : 0 < m) : 0 <= part c k m := Int.emod_nonneg _ (by omega)
theorem part_lt (c k : Int) {m : Int} (h : 0 < m) : part c k m < m := Int.emod_lt_of_pos _ h
def gPart (ds : List D) (d : D) : Prop := ∃ c k m : Int, 0 < m /\ ds = [.int c, .int k, .int m] /\ d = .int (part c k m)
def sgnAt (n : Int) : Nat := W36.cps.toList.getD (n % 36).toNat 0
theorem atI_sgn (n : Int) : atI W36.cps.toList (n % 36) = some (sgnAt n) := by
 have h0 := Int.emod_nonneg n (show (36 : Int) ≠ 0 by decide)
 have h1 := Int.emod_lt_of_pos n (show (0 : Int) < 36 by decide)
 have hl : W36.cps.toList.length = 36 := by decide +kernel
 obtain ⟨k, hk⟩ := Int.eq_ofNat_of_zero_le h0
 unfold sgnAt
 rw [hk]
 refine atI_nat ?_
 have : k < W36.cps.toList.length := by omega
 simp at this
 simp [this]
def sizeA (one : Int) : Int := 1 + part one 0 12
def atA (one other : Int) : Int := part other 1 (sizeA one)
def numA (one other k : Int) (j : Int) : Int := if j = atA one other /\ part other 20 2 = 0 then part one (j + 2) 36 + k else part one (j + 2) 36
def wordA (one other k : Int) (n : Nat) : Str := ⟨((List.range n).map fun j => sgnAt (numA one other k (0 + (j : Nat)))).toArray⟩
def takeA (one other k : Int) : Str := Txt.slice (wordA one other k 12) none (some (if part other 20 2 = 0 then sizeA one else 1 + (sizeA one + k) % 12))
def wordsA (one other : Int) : List Str := (List.range 4).map fun k => takeA one other (0 + (k : Nat))
theorem wordA_len (one other k : Int) (n : Nat) : (wordA one other k n).length = n := by show Array.size _ = n; simp [wordA]
theorem wordA_succ (one other k : Int) (n : Nat) : wordA one other k (n + 1) = wordA one other k n ++ ⟨#[sgnAt (numA one other k (0 + (n : Nat)))]⟩ := by
 apply Str.ext'
 rw [Str.cps_append]
 unfold wordA
 rw [range_succ, map_append]
 simp
theorem takeA_len (one other k : Int) : (takeA one other k).length <= 12 := by
 have h := Txt.slice_le (wordA one other k 12) none (some (if part other 20 2 = 0 then sizeA one else 1 + (sizeA one + k) % 12))
 rw [wordA_len] at h
 exact h
theorem wordsA_len (one other : Int) : (wordsA one other).length = 4 := by simp [wordsA]
theorem wordsA_mem {one other : Int} {x : Str} (h : x ∈ wordsA one other) : x.length <= 12 := by
 unfold wordsA at h
 obtain ⟨k, _, rfl⟩ := mem_map.mp h
 exact takeA_len _ _ _
def strsD (ws : List Str) : D := .lst (ws.map D.str)
def intsD (ns : List Int) : D := .lst (ns.map D.int)
def rowsD (rows : List (List Str)) : D := .lst (rows.map strsD)
def gWordsA (ds : List D) (d : D) : Prop := ∃ one other : Int, ds = [.int one, .int other] /\ d = strsD (wordsA one other)
theorem snoc_ind {α : Type} {p : List α -> Prop} (h0 : p []) (hs : ∀ l a, p l -> p (l ++ [a])) (l : List α) : p l := by
 have : ∀ n (l : List α), l.length = n -> p l := by
  intro n
  induction n with
  | zero => intro l h; cases l with
   | nil => exact h0
   | cons => simp at h
  | succ n ih =>
   intro l h
   have hne : l ≠ [] := by intro e; subst e; simp at h
   rw [<- List.dropLast_concat_getLast hne]
   exact hs _ _ (ih _ (by simp [h]))
 exact this _ l rfl
theorem strs_get {ws : List Str} {n : Nat} (h : n < ws.length) : (ws.map D.str)[n]? = some (.str (ws.getD n "")) := by simp [h]
def plD (p : Nat × Nat) : D := .tup [.int p.1, .int p.2]
def plsD (ps : List (Nat × Nat)) : D := .lst (ps.map plD)
def tot (rows : List (List Str)) : Nat := (rows.map List.length).sum
def allPn (rows : List (List Str)) (n : Nat) : List (Nat × Nat) := (List.range n).flatMap fun r => (List.range (rows.getD r []).length).map fun a => (r, a)
theorem allPn_succ (rows : List (List Str)) (n : Nat) : allPn rows (n + 1) = allPn rows n ++ (List.range (rows.getD n []).length).map fun a => (n, a) := by
 unfold allPn
 rw [range_succ, List.flatMap_append]
 simp
theorem allPn_len (rows : List (List Str)) : ∀ n, n <= rows.length -> (allPn rows n).length = ((rows.take n).map List.length).sum
 | 0, _ => by simp [allPn]
 | n + 1, h => by
  have hn : n < rows.length := by omega
  have e : rows.take (n + 1) = rows.take n ++ [rows.getD n []] := by
   rw [take_add_one]; simp [hn]
  rw [allPn_succ, List.length_append, allPn_len rows n (by omega), length_map, length_range, e, map_append, List.sum_append]
  simp
theorem sum_take_le : ∀ (l : List (List Str)) (n : Nat), ((l.take n).map List.length).sum <= (l.map List.length).sum
 | [], n => by simp
 | a :: l, 0 => by simp
 | a :: l, n + 1 => by
  have := sum_take_le l n
  simp at this ⊢
  omega
theorem tot_take (rows : List (List Str)) (n : Nat) (h : n <= rows.length) : (allPn rows n).length <= tot rows := by
 rw [allPn_len rows n h]; exact sum_take_le rows n
theorem tot_row {rows : List (List Str)} {n : Nat} {row : List Str} (h : rows[n]? = some row) (m : Nat) (hm : m <= row.length) : (allPn rows n).length + m <= tot rows := by
 have hn : n < rows.length := (List.getElem?_eq_some_iff.mp h).1
 have h1 := tot_take rows (n + 1) (by omega)
 rw [allPn_succ, List.length_append] at h1
 simp [h] at h1
 omega
theorem rangeD0_get {n i : Nat} {d : D} (h : (rangeD 0 n)[i]? = some d) : i < n /\ d = .int (i : Nat) := by
 obtain ⟨h1, h2⟩ := rangeD_get h
 exact ⟨h1, by rw [h2, Int.zero_add]⟩
theorem flat_range {lo : Int} {n : Nat} : ∀ d ∈ rangeD lo n, d.flat = true := fun d hd => by obtain ⟨i, _, rfl⟩ := mem_map.mp hd; rfl
theorem flat_ints {ns : List Int} : ∀ d ∈ ns.map D.int, d.flat = true := fun d hd => by obtain ⟨i, _, rfl⟩ := mem_map.mp hd; rfl
theorem told_strs : Told strsD := told_list told_str
theorem told_rows : Told rowsD := told_list told_strs
theorem told_plD : Told plD := fun p q => by
 obtain ⟨a, b⟩ := p
 obtain ⟨c, d⟩ := q
 simp only [plD, deq, deqs, Bool.and_true]
 by_cases h1 : a = c
 . by_cases h2 : b = d
   . simp [h1, h2]
   . simp [h1, h2]; omega
 . simp [h1]; omega
theorem told_pls : Told plsD := told_list told_plD
theorem deps_le {n : Nat} : ∀ {ds : List D}, (∀ d ∈ ds, d.dep <= n) -> deps ds <= n
 | [], _ => by simp [deps]
 | d :: ds, h => by
  have h1 := h d mem_cons_self
  have h2 : deps ds <= n := deps_le fun e he => h e (mem_cons_of_mem _ he)
  simp [deps]; omega
theorem dep_lst {n : Nat} {ds : List D} (h : ∀ d ∈ ds, d.dep <= n) : (D.lst ds).dep <= n + 1 := by
 have := deps_le h
 simp [D.dep]; omega
theorem dep_strs (ws : List Str) : (strsD ws).dep <= 1 := dep_lst fun d hd => by obtain ⟨i, _, rfl⟩ := mem_map.mp hd; simp [D.dep]
theorem dep_rows (ws : List (List Str)) : (rowsD ws).dep <= 2 := dep_lst fun d hd => by obtain ⟨i, _, rfl⟩ := mem_map.mp hd; exact dep_strs i
theorem dep_plD (p : Nat × Nat) : (plD p).dep <= 1 := by simp [plD, D.dep, deps]
theorem dep_pls (ps : List (Nat × Nat)) : (plsD ps).dep <= 2 := dep_lst fun d hd => by obtain ⟨i, _, rfl⟩ := mem_map.mp hd; exact dep_plD i
theorem roomD {k n : Nat} {A : Around} {d : D} (r : Room k A) (h : d.dep <= n) (hn : n <= 200 := by decide) : A.units + d.dep < cLine := by have := r.un; omega
theorem tot_append (a b : List (List Str)) : tot (a ++ b) = tot a + tot b := by simp [tot]
theorem row_le_tot {rows : List (List Str)} {r : List Str} (h : r ∈ rows) : r.length <= tot rows := by
 obtain ⟨n, hn⟩ := List.getElem?_of_mem h
 have := tot_row hn r.length (Nat.le_refl _)
 omega
def asciiS (z : Str) : Prop := ∀ c ∈ cl z, c < 128
theorem inW36 (c : Nat) : (!(Builtin.Str.occurrences W36 ⟨#[c]⟩ 0 W36.length 1).isEmpty) = sgB c := StrLaws.found_one W36 c
def gWordsIn (ds : List D) (d : D) : Prop := ∃ z : Str, z.length <= 2000 /\ asciiS z /\ ds = [.str z] /\ d = strsD (wordsInS z)
def gRowsOf (ds : List D) (d : D) : Prop := ∃ z : Str, z.length <= 2000 /\ asciiS z /\ ds = [.str z] /\ d = rowsD (rowsOfS z)
theorem cutAt_len (c : Nat) : ∀ l : List Nat, (cutAt c l).length <= l.length + 1
 | [] => by simp [cutAt]
 | k :: r => by
  have ih := cutAt_len c r
  unfold cutAt
  split
  . simp; omega
  . have := cutAt_ne c r
    cases q : cutAt c r with
    | nil => exact absurd q this
    | cons h t => rw [q] at ih; simp at ih ⊢; omega
theorem cutAt_part_len (c : Nat) : ∀ (l : List Nat) (p : List Nat), p ∈ cutAt c l -> p.length <= l.length
 | [], p, hp => by simp [cutAt] at hp; subst hp; simp
 | k :: r, p, hp => by
  unfold cutAt at hp
  split at hp
  . rcases mem_cons.mp hp with rfl | hp
    . simp
    . have := cutAt_part_len c r p hp; simp; omega
  . rcases mem_cons.mp hp with rfl | hp
    . have : ((cutAt c r).headD []).length <= r.length := by
       cases q : cutAt c r with
       | nil => simp
       | cons h t => exact cutAt_part_len c r _ (by rw [q]; simp)
      rw [length_cons, length_cons]; omega
    . have := cutAt_part_len c r p (List.mem_of_mem_tail hp); simp; omega
theorem split_nl {z p : Str} (h : p ∈ Txt.split z "\n") : cl p ∈ cutAt 10 (cl z) := by
 rw [<- split_cut]
 exact List.mem_map_of_mem (f := cl) h
theorem split_nl_len (z : Str) : (Txt.split z "\n").length <= z.length + 1 := by
 have := cutAt_len 10 (cl z)
 rw [<- split_cut, length_map, cl_len] at this
 exact this
theorem words_len (z : Str) : (Builtin.Str.spaceWords z (z.length + 1)).length <= z.length + 1 := Nat.le_trans (StrLaws.len_le_wsum _) (StrLaws.sw_weight z).1
theorem parts_len (z y : Str) : (Builtin.Str.partsBetween z (Builtin.Str.occurrences z y 0 z.length (z.length + 1)) y.length).length <= z.length + 2 := by
 have h := StrLaws.occ_length_le_len z y 0 z.length (z.length + 1)
 unfold Builtin.Str.partsBetween
 simp
 omega
theorem lower_len {z : Str} (h : asciiS z) : (Txt.lower z).length = z.length := by
 rw [PyProof.Rows.lower_ascii h]
 show (z.cps.map _).size = z.cps.size
 simp
theorem big5000 : 5000 <= sizeLine := by decide
theorem smallN {n : Nat} (h : n <= 5000) : n <= sizeLine := Nat.le_trans h big5000
theorem smallL1 {a b : Nat} (h : a <= b) (hb : b <= 5000) : a <= sizeLine := Nat.le_trans h (Nat.le_trans hb big5000)
theorem sum_ones {α : Type} (f : α -> Nat) : ∀ (l : List α), (∀ c, f c = 1) -> (l.map f).sum = l.length
 | [], _ => rfl
 | a :: l, h => by simp [h a, sum_ones f l h]; omega
theorem T.castB {X : Cx} {ρ : List (Option D)} {e : Expr} {b b' : Bool} (h : T X ρ e b) (q : b = b') : T X ρ e b' := q ▸ h
theorem atI_zero {α : Type} (x : α) (xs : List α) : atI (x :: xs) 0 = some x := atI_nat (j := 0) rfl
theorem sgnAt_mem (n : Int) : sgB (sgnAt n) = true := by
 have h0 := Int.emod_nonneg n (show (36 : Int) ≠ 0 by decide)
 have h1 := Int.emod_lt_of_pos n (show (0 : Int) < 36 by decide)
 have hl : (cl W36).length = 36 := by decide +kernel
 unfold sgnAt sgB
 rw [decide_eq_true_iff]
 have hk : (n % 36).toNat < (cl W36).length := by omega
 rw [List.getD_eq_getElem?_getD, List.getElem?_eq_getElem hk]
 exact getElem_mem hk
theorem cl_wordA (one other k : Int) (n : Nat) : cl (wordA one other k n) = (List.range n).map fun j => sgnAt (numA one other k (0 + (j : Nat))) := by
 unfold wordA cl
 simp
theorem cl_slice_to (x : Str) {j : Int} (h0 : 0 <= j) (h1 : j <= (cl x).length) : cl (Txt.slice x none (some j)) = (cl x).take j.toNat := by
 have e : Txt.slice x none (some j) = _ := StrLaws.sliceText_to (x := x) (j := j) ⟨h0, h1⟩
 rw [e]
 simp [cl]
theorem takeA_isW (one other k : Int) : isW (takeA one other k) := by
 have hs0 := part_nn one 0 (show (0 : Int) < 12 by decide)
 have hs1 := part_lt one 0 (show (0 : Int) < 12 by decide)
 have hm0 := Int.emod_nonneg (sizeA one + k) (show (12 : Int) ≠ 0 by decide)
 have hm1 := Int.emod_lt_of_pos (sizeA one + k) (show (0 : Int) < 12 by decide)
 have hcl : (cl (wordA one other k 12)).length = 12 := by rw [cl_len, wordA_len]
 obtain ⟨j, hj, h1, h2⟩ : ∃ j : Int, takeA one other k = Txt.slice (wordA one other k 12) none (some j) /\ 1 <= j /\ j <= 12 := by
  unfold takeA
  split
  . exact ⟨_, rfl, by unfold sizeA; omega, by unfold sizeA; omega⟩
  . exact ⟨_, rfl, by omega, by omega⟩
 have e : cl (takeA one other k) = (cl (wordA one other k 12)).take j.toNat := by
  rw [hj, cl_slice_to _ (by omega) (by rw [hcl]; omega)]
 refine ⟨fun z => ?_, fun c hc => ?_⟩
 . have := congrArg List.length (cl_eq_nil.mpr z)
   rw [e, length_take, hcl] at this
   simp at this
   omega
 . rw [e] at hc
   have := List.mem_of_mem_take hc
   rw [cl_wordA] at this
   obtain ⟨i, _, rfl⟩ := mem_map.mp this
   exact sgnAt_mem _
theorem wordsA_isW {one other : Int} {x : Str} (h : x ∈ wordsA one other) : isW x := by
 unfold wordsA at h
 obtain ⟨k, _, rfl⟩ := mem_map.mp h
 exact takeA_isW _ _ _
def ahead (sep : Str) (ps : List Str) : Str := if ps = [] then "" else Txt.join sep ps ++ sep
theorem it_rangeL {X : Cx} {ρ : List (Option D)} {m1 : Bool} {tg a : Expr} {p pos : Pos} {n : Nat} (h : E X m1 ρ a (.int (n : Nat))) (hm : X.mg "range" = none) (hn : n < 2 ^ 62 := by first | omega | (simp only [length_map]; omega)) (hg : Gl X "range" := by rfl) (hs : starEach [a] X.env = [(false, eval a X.env)] := by rfl) :
 IT X tg true ρ (.Call (.Name "range" p) [a] [] pos) (rangeD 0 n) := it_range (n := ((n : Nat) : Int)) h (by omega) (by omega) hm hg hs
def natsD (ns : List Nat) : D := .lst (ns.map fun n => .int (n : Nat))
theorem dep_nats (ns : List Nat) : (natsD ns).dep <= 1 := dep_lst fun d hd => by obtain ⟨i, _, rfl⟩ := mem_map.mp hd; simp [D.dep]
theorem told_natD : Told (fun n : Nat => D.int (n : Nat)) := fun a b => by
 simp only [deq]
 by_cases h : a = b
 . simp [h]
 . simp [h]; omega
theorem told_nats : Told natsD := told_list told_natD
theorem flats_nats (ns : List Nat) : flats (ns.map fun n => D.int (n : Nat)) = true := flats_all fun d hd => by obtain ⟨i, _, rfl⟩ := mem_map.mp hd; rfl
theorem getD_mem {α : Type} {l : List α} {n : Nat} {d : α} (h : n < l.length) : l.getD n d ∈ l := by
 rw [List.getD_eq_getElem?_getD, List.getElem?_eq_getElem h]
 exact getElem_mem h
end Y
namespace Y
theorem bit_succ_shift (x i : Nat) : (x <<< 1).testBit (i + 1) = x.testBit i := by
 rw [Nat.testBit_shiftLeft]; simp
theorem bit_zero_shift (x : Nat) : (x <<< 1).testBit 0 = false := by
 rw [Nat.testBit_shiftLeft]; simp
def fitTo (f : Nat -> Bool) : Nat -> Nat
 | 0 => 0
 | n + 1 => if f n = true then fitTo f n ||| (1 <<< n) else fitTo f n
theorem fitTo_bit (f : Nat -> Bool) : ∀ (n i : Nat), (fitTo f n).testBit i = (decide (i < n) && f i)
 | 0, i => by simp [fitTo]
 | n + 1, i => by
  unfold fitTo
  by_cases h : f n = true
  . rw [if_pos h, Nat.testBit_or, fitTo_bit f n i, Nat.one_shiftLeft, Nat.testBit_two_pow]
    by_cases q : n = i
    . subst q; simp [h]
    . have : decide (n = i) = false := by simpa using q
      rw [this, Bool.or_false]
      congr 1
      have : (i < n) ↔ (i < n + 1) := by omega
      simp [this]
  . rw [if_neg h, fitTo_bit f n i]
    by_cases q : n = i
    . subst q
      have : f n = false := by simpa using h
      simp [this]
    . have : (i < n) ↔ (i < n + 1) := by omega
      simp [this]
theorem fitTo_lt (f : Nat -> Bool) (n : Nat) : fitTo f n < 2 ^ n := by
 apply Nat.lt_pow_two_of_testBit
 intro i hi
 rw [fitTo_bit]
 have : ¬ i < n := by omega
 simp [this]
def bl (x : Nat) : Nat := if x = 0 then 0 else x.log2 + 1
theorem bl_bit {x i : Nat} (h : x.testBit i = true) : i < bl x := by
 unfold bl
 have hx : x ≠ 0 := by rintro rfl; simp at h
 rw [if_neg hx]
 have := Nat.ge_two_pow_of_testBit h
 have h2 : i <= x.log2 := by
  rw [Nat.le_log2 hx]; exact this
 omega
def numsIn (x : Nat) : List Nat := (List.range (bl x)).filter x.testBit
theorem filter_range_le {p : Nat -> Bool} {a b : Nat} (h : a <= b) (hp : ∀ i, a <= i -> p i = false) : (List.range b).filter p = (List.range a).filter p := by
 induction b with
 | zero =>
  have : a = 0 := by omega
  subst this; rfl
 | succ b ih =>
  by_cases q : a <= b
  . rw [range_succ, filter_append, ih q]
    simp [hp b q]
  . have : a = b + 1 := by omega
    rw [this]
theorem numsIn_eq {x n : Nat} (h : x < 2 ^ n) : numsIn x = (List.range n).filter x.testBit := by
 unfold numsIn
 have h1 : ∀ i, n <= i -> x.testBit i = false := fun i hi => Nat.testBit_lt_two_pow (Nat.lt_of_lt_of_le h (Nat.pow_le_pow_right (by decide) hi))
 have h2 : ∀ i, bl x <= i -> x.testBit i = false := fun i hi => by
  cases q : x.testBit i with
  | false => rfl
  | true => have := bl_bit q; omega
 rcases Nat.le_total n (bl x) with q | q
 . exact filter_range_le q h1
 . exact (filter_range_le q h2).symm
theorem bl_le {x n : Nat} (h : x < 2 ^ n) : bl x <= n := by
 unfold bl
 by_cases hx : x = 0
 . rw [if_pos hx]; omega
 . rw [if_neg hx]
   have := (Nat.log2_lt hx).mpr h
   omega
def wordM (places x : Nat) : Nat := (x &&& places) <<< 1
theorem wordM_succ (p x i : Nat) : (wordM p x).testBit (i + 1) = (x.testBit i && p.testBit i) := by
 unfold wordM; rw [bit_succ_shift, Nat.testBit_and]
theorem wordM_zero (p x : Nat) : (wordM p x).testBit 0 = false := bit_zero_shift _
theorem wordM_lt {p x n : Nat} (h : p < 2 ^ n) : wordM p x < 2 ^ (n + 1) := by
 unfold wordM
 have : x &&& p < 2 ^ n := Nat.lt_of_le_of_lt Nat.and_le_right h
 rw [Nat.shiftLeft_eq, Nat.pow_succ]
 omega
theorem or_lt' {a b n : Nat} (h1 : a < 2 ^ n) (h2 : b < 2 ^ n) : a ||| b < 2 ^ n := Nat.or_lt_two_pow h1 h2
def uptoM (every : Nat) : Nat -> Nat -> Nat
 | 0, x => x
 | k + 1, x => uptoM every k (x ||| wordM every x)
theorem uptoM_snoc (every : Nat) : ∀ (k x : Nat), uptoM every (k + 1) x = uptoM every k x ||| wordM every (uptoM every k x)
 | 0, x => rfl
 | k + 1, x => by
  show uptoM every (k + 1) (x ||| wordM every x) = _
  rw [uptoM_snoc every k]
  rfl
theorem uptoM_lt {every n : Nat} (h : every < 2 ^ n) : ∀ {k x : Nat}, x < 2 ^ (n + 1) -> uptoM every k x < 2 ^ (n + 1)
 | 0, _, hx => hx
 | k + 1, x, hx => uptoM_lt h (k := k) (or_lt' hx (wordM_lt h))
theorem uptoM_bit (n : Nat) : ∀ (k x i : Nat), (uptoM (fitTo (fun _ => true) n) k x).testBit i = true ↔ ∃ j, j <= k /\ j <= i /\ x.testBit (i - j) = true /\ (j = 0 \/ i <= n)
 | 0, x, i => by
  constructor
  . intro h; exact ⟨0, Nat.le_refl _, Nat.zero_le _, h, .inl rfl⟩
  . rintro ⟨j, h1, h2, h3, h4⟩
    have : j = 0 := by omega
    subst this; exact h3
 | k + 1, x, i => by
  rw [uptoM_snoc, Nat.testBit_or, Bool.or_eq_true, uptoM_bit n k x i]
  constructor
  . rintro (⟨j, h1, h2, h3, h4⟩ | h)
    . exact ⟨j, by omega, h2, h3, h4⟩
    . cases i with
      | zero => rw [wordM_zero] at h; cases h
      | succ i =>
       rw [wordM_succ, Bool.and_eq_true, uptoM_bit n k x i, fitTo_bit] at h
       obtain ⟨⟨j, h1, h2, h3, h4⟩, h5⟩ := h
       simp at h5
       exact ⟨j + 1, by omega, by omega, by rw [show i + 1 - (j + 1) = i - j by omega]; exact h3, .inr (by omega)⟩
  . rintro ⟨j, h1, h2, h3, h4⟩
    by_cases q : j <= k
    . exact .inl ⟨j, q, h2, h3, h4⟩
    . have : j = k + 1 := by omega
      subst this
      cases i with
      | zero => omega
      | succ i =>
       refine .inr ?_
       rw [wordM_succ, Bool.and_eq_true, uptoM_bit n k x i, fitTo_bit]
       refine ⟨⟨k, Nat.le_refl _, by omega, by rw [show i - k = i + 1 - (k + 1) by omega]; exact h3, .inr (by omega)⟩, ?_⟩
       simp
       omega
theorem bit_one_shift (a i : Nat) : (1 <<< a).testBit i = decide (a = i) := by rw [Nat.one_shiftLeft, Nat.testBit_two_pow]
theorem one_shift_lt {a n : Nat} (h : a < n) : 1 <<< a < 2 ^ n := by rw [Nat.one_shiftLeft]; exact Nat.pow_lt_pow_right (by decide) h
theorem bit_test (x n : Nat) : decide ((((x >>> n) &&& 1 : Nat) : Int) = 1) = x.testBit n := by
 rw [Nat.and_one_is_mod, Nat.testBit_eq_decide_div_mod_eq, Nat.shiftRight_eq_div_pow]
 congr 1
 apply propext
 constructor <;> intro h <;> omega
end Y
namespace Y
open PySem PySem.Spec PyProof.Rows L2
variable [Tabs]
theorem bitAnd_nat (a b : Nat) : Builtin.bitAnd (a : Int) (b : Int) = ((a &&& b : Nat) : Int) := by
 unfold Builtin.bitAnd
 rw [decide_eq_true (Int.natCast_nonneg a), decide_eq_true (Int.natCast_nonneg b)]
 rfl
theorem bitOr_nat (a b : Nat) : Builtin.bitOr (a : Int) (b : Int) = ((a ||| b : Nat) : Int) := by
 have h : ∀ n : Nat, decide (0 <= Builtin.bitNot (n : Int)) = false := fun n => by
  rw [decide_eq_false_iff_not]; unfold Builtin.bitNot; omega
 have g : ∀ n : Nat, (Builtin.bitNot (Builtin.bitNot (n : Int))).toNat = n := fun n => by unfold Builtin.bitNot; omega
 unfold Builtin.bitOr Builtin.bitAnd
 simp only [h, g]
 unfold Builtin.bitNot
 omega
theorem bits_nat (n : Nat) : Builtin.Int.intBits (n : Int) = bl n := by
 unfold Builtin.Int.intBits bl
 by_cases h : n = 0
 . subst h; rfl
 . rw [if_neg h, if_neg (by simpa using h)]
   rfl
section
variable {X : Cx}
theorem mt_starts : MtR X "str.startswith" (fun x xs H Q => ∃ z y, x = .str z /\ xs = [.str y] /\ Q (.bl (Txt.startswith z y)) H) := by
 intro pins s σ H x xs v us Q I rx rs h
 obtain ⟨z, y, rfl, rfl, q⟩ := h
 obtain ⟨t, rfl⟩ := rx
 obtain ⟨u, rfl, ru⟩ := Vals.one rs
 obtain ⟨t', rfl⟩ := ru
 exact SC.startswith ⟨.bl _, H, I, rfl, q⟩
theorem mt_ends : MtR X "str.endswith" (fun x xs H Q => ∃ z y, x = .str z /\ xs = [.str y] /\ Q (.bl (Txt.endswith z y)) H) := by
 intro pins s σ H x xs v us Q I rx rs h
 obtain ⟨z, y, rfl, rfl, q⟩ := h
 obtain ⟨t, rfl⟩ := rx
 obtain ⟨u, rfl, ru⟩ := Vals.one rs
 obtain ⟨t', rfl⟩ := ru
 exact SC.endswith ⟨.bl _, H, I, rfl, q⟩
theorem mt_bitlen : MtR X "int.bit_length" (fun x xs H Q => ∃ i, x = .int i /\ xs = [] /\ Q (.int ((Builtin.Int.intBits i : Nat) : Int)) H) := by
 intro pins s σ H x xs v us Q I rx rs h
 obtain ⟨i, rfl, rfl, q⟩ := h
 obtain ⟨t, rfl⟩ := rx
 cases Vals.zero rs
 exact call_gives F.slot_int_bit_length (typeIs_int s i t) F.entry_int_bit_length (F.args_int_bit_length_1 _) (PySem.AutoIntG2.int_bit_length_int_0 i t) ⟨.int _, H, I.tok _, ⟨_, rfl⟩, q⟩
end
section
variable {X : Cx} {ρ : List (Option D)} {m m1 m2 m3 : Bool} {a b c o : Expr} {pos ap cp : Pos}
theorem e_c1 {j : Nat} : E X true ρ (.Constant (.int 1) j pos) (.int ((1 : Nat) : Int)) := e_int
theorem e_c0 {j : Nat} : E X true ρ (.Constant (.int 0) j pos) (.int ((0 : Nat) : Int)) := e_int
theorem e_shlN {i n : Nat} (ha : E X m1 ρ a (.int (i : Nat))) (hb : E X m2 ρ b (.int (n : Nat))) (h1 : i < 2 ^ 64) (h2 : n <= 1000000) : E X true ρ (.BinOp a .LShift b pos) (.int ((i <<< n : Nat) : Int)) :=
 E.cast (e_op op_shl ha hb fun x y H Z Q _ i1 i2 k => ⟨_, _, in_int.mp i1, in_int.mp i2, ⟨by omega, by omega, by rw [Int.natAbs_natCast]; exact h1⟩, k _ _ (Same.refl H) (in_int.mpr rfl)⟩) (by
  rw [Int.toNat_natCast, Nat.shiftLeft_eq]
  simp)
theorem e_shrN {i n : Nat} (ha : E X m1 ρ a (.int (i : Nat))) (hb : E X m2 ρ b (.int (n : Nat))) : E X true ρ (.BinOp a .RShift b pos) (.int ((i >>> n : Nat) : Int)) :=
 E.cast (e_op op_shr ha hb fun x y H Z Q _ i1 i2 k => ⟨_, _, in_int.mp i1, in_int.mp i2, Int.natCast_nonneg _, k _ _ (Same.refl H) (in_int.mpr rfl)⟩) (by
  rw [Int.toNat_natCast, Nat.shiftRight_eq_div_pow]
  simp)
theorem e_bandN {i n : Nat} (ha : E X m1 ρ a (.int (i : Nat))) (hb : E X m2 ρ b (.int (n : Nat))) : E X true ρ (.BinOp a .BitAnd b pos) (.int ((i &&& n : Nat) : Int)) :=
 E.cast (e_op op_and ha hb fun x y H Z Q _ i1 i2 k => ⟨_, _, in_int.mp i1, in_int.mp i2, k _ _ (Same.refl H) (in_int.mpr rfl)⟩) (by rw [bitAnd_nat])
theorem e_borN {i n : Nat} (ha : E X m1 ρ a (.int (i : Nat))) (hb : E X m2 ρ b (.int (n : Nat))) : E X true ρ (.BinOp a .BitOr b pos) (.int ((i ||| n : Nat) : Int)) :=
 E.cast (e_op op_or ha hb fun x y H Z Q _ i1 i2 k => ⟨_, _, in_int.mp i1, in_int.mp i2, k _ _ (Same.refl H) (in_int.mpr rfl)⟩) (by rw [bitOr_nat])
theorem e_starts {z y : Str} (ho : E X m1 ρ o (.str z)) (ha : E X m2 ρ a (.str y)) (hbase : attributeBase o "startswith" X.env (eval o X.env) = eval o X.env := by rfl) (hline : (ap.endLine == cp.line) = true := by rfl) (hs : starEach [a] X.env = [(false, eval a X.env)] := by rfl) :
 E X true ρ (.Call (.Attribute o "startswith" ap) [a] [] cp) (.bl (Txt.startswith z y)) :=
 PE.mono (pe_bm F.plainAttrs_str F.slot_str_startswith F.type_str_startswith mt_starts ho (pa_cons ha pa_nil (by rw [hs]; rfl)) hbase (by rw [hs]; rfl) hline (by rw [hs]; rfl) rfl) fun σ H Q z0 => el13 z0 fun Z oz en k => ⟨Z, oz, en, fun x H1 s1 i1 => by
  cases in_str.mp (i1.plain oz)
  refine ⟨rfl, Z, oz.same s1, en.same s1, fun w H2 s2 i2 => ?_⟩
  cases in_str.mp (i2.plain (oz.same s1))
  exact ⟨z, y, rfl, rfl, k _ H2 (s1.trans s2) (in_bl.mpr rfl)⟩⟩
theorem e_ends {z y : Str} (ho : E X m1 ρ o (.str z)) (ha : E X m2 ρ a (.str y)) (hbase : attributeBase o "endswith" X.env (eval o X.env) = eval o X.env := by rfl) (hline : (ap.endLine == cp.line) = true := by rfl) (hs : starEach [a] X.env = [(false, eval a X.env)] := by rfl) :
 E X true ρ (.Call (.Attribute o "endswith" ap) [a] [] cp) (.bl (Txt.endswith z y)) :=
 PE.mono (pe_bm F.plainAttrs_str F.slot_str_endswith F.type_str_endswith mt_ends ho (pa_cons ha pa_nil (by rw [hs]; rfl)) hbase (by rw [hs]; rfl) hline (by rw [hs]; rfl) rfl) fun σ H Q z0 => el13 z0 fun Z oz en k => ⟨Z, oz, en, fun x H1 s1 i1 => by
  cases in_str.mp (i1.plain oz)
  refine ⟨rfl, Z, oz.same s1, en.same s1, fun w H2 s2 i2 => ?_⟩
  cases in_str.mp (i2.plain (oz.same s1))
  exact ⟨z, y, rfl, rfl, k _ H2 (s1.trans s2) (in_bl.mpr rfl)⟩⟩
theorem e_bitlen {n : Nat} (ho : E X m1 ρ o (.int (n : Nat))) (hbase : attributeBase o "bit_length" X.env (eval o X.env) = eval o X.env := by rfl) (hline : (ap.endLine == cp.line) = true := by rfl) :
 E X true ρ (.Call (.Attribute o "bit_length" ap) [] [] cp) (.int ((bl n : Nat) : Int)) :=
 PE.mono (pe_bm0 F.plainAttrs_int F.slot_int_bit_length F.type_int_bit_length mt_bitlen ho hbase hline) fun σ H Q z0 => el13 z0 fun Z oz en k => ⟨Z, oz, en, fun x H1 s1 i1 => by
  cases in_int.mp (i1.plain oz)
  exact ⟨rfl, n, rfl, rfl, k _ H1 s1 (in_int.mpr (by rw [bits_nat]))⟩⟩
theorem e_chainLe {i j k : Int} (ha : E X m1 ρ a (.int i)) (hb : E X m2 ρ b (.int j)) (hc : E X m3 ρ c (.int k)) (hm : lastMarks [.LtE, .LtE] [b, c] = false := by with_unfolding_all rfl) :
 E X true ρ (.Compare a [.LtE, .LtE] [b, c] pos) (.bl (decide (i <= j) && decide (j <= k))) :=
 PE.mono (pe_chain op_le op_le ha hb hc hm) fun σ H Q ⟨Z, oz, en, kk⟩ => ⟨Z, oz, en, fun x H1 s1 i1 => ⟨Z, oz.same s1, en.same s1, fun y H2 s2 i2 => by
  refine ⟨i, j, in_int.mp (i1.plain oz), in_int.mp (i2.plain (oz.same s1)), decide (i <= j), rfl, ?_⟩
  by_cases h : i <= j
  . rw [decide_eq_true h]
    refine iteT ?_
    exact ⟨Z, oz.same (s1.trans s2), en.same (s1.trans s2), fun z H3 s3 i3 => ⟨j, k, in_int.mp (i2.plain (oz.same s1)), in_int.mp (i3.plain (oz.same (s1.trans s2))), kk _ H3 ((s1.trans s2).trans s3) (in_bl.mpr (by rw [decide_eq_true h]; rfl))⟩⟩
  . rw [decide_eq_false h]
    refine iteF ?_
    exact kk _ H2 (s1.trans s2) (in_bl.mpr (by rw [decide_eq_false h]; rfl))⟩⟩
theorem t_inI {is : List Int} {q : Int} (ha : E X m1 ρ a (.int q)) (hb : E X m2 ρ b (.lst (is.map D.int))) (hm : behindInMarks .In b = false := by rfl) : T X ρ (.Compare a [.In] [b] pos) (decide (q ∈ is)) :=
 t_cmp op_in_seq ha hb (fun x y H Z Q _ i1 i2 k => by
  obtain ⟨l, xs, rfl, at', j⟩ := in_lst.mp i2
  cases in_int.mp i1
  rw [ins_ints_inv j] at at'
  refine ⟨l, _, rfl, .inl at'.sq, rfl, by simp [flatV], ?_⟩
  have e : inV (.int q) (is.map V.int) = decide (q ∈ is) := by
   unfold inV
   rw [List.any_map, Bool.eq_iff_iff, any_eq_true, decide_eq_true_iff]
   constructor
   . rintro ⟨z, hz, h⟩
     have : q = z \/ z = q := by
      first
       | exact .inl (by simpa [Function.comp, eqV] using h)
       | exact .inr (by simpa [Function.comp, eqV] using h)
     rcases this with rfl | rfl <;> exact hz
   . intro h
     exact ⟨q, h, by simp [Function.comp, eqV]⟩
  simp only [Bool.false_eq_true, if_false]
  rw [e]
  exact k _ (Same.refl H)) hm
end
def up2 {α : Type} (z : α) (p : D -> D -> α) : D -> α
 | .tup [a, b] => p a b
 | _ => z
section
variable {X : Cx} {ρ : List (Option D)} {m m1 : Bool} {ds : List D} {pos : Pos}
def tcD2 (K : Frag) (js : List Nat) (ρ : List (Option D)) (ds : List D) (p : D -> D -> Bool) (i : Nat) : TT := fun σ H Q => ∃ a b, ds[i]? = some (.tup [a, b]) /\ tB' K ([some a, some b] ++ capD js ρ) (p a b) σ H Q
def teD2 (K : Frag) (js : List Nat) (ρ : List (Option D)) (ds : List D) (p : D -> D -> Bool) (f : D -> D -> D) (me : Bool) (i : Nat) : TE := fun σ H Q => ∃ a b, ds[i]? = some (.tup [a, b]) /\ p a b = true /\ tE K me ([some a, some b] ++ capD js ρ) (f a b) σ H Q
theorem comp_reads2 {js : List Nat} {me : Bool} (p : D -> D -> Bool) (f : D -> D -> D) (hpair : ∀ d ∈ ds, ∃ a b, d = .tup [a, b]) (hz : ds.length <= sizeLine) (hm : m = true -> me = true \/ ∀ d ∈ ds, (up2 .non f d).flat = true) (σ : St) (H : Hp) (Q : VK) (h : tE X.K m ρ (.lst ((ds.filter (up2 false p)).map (up2 .non f))) σ H Q) :
 tComp (tIT X.K m1 ρ ds) 2 js (gTup X.K 2 (gCons (gName 0) (gCons (gName 1) gNil))) (tcD2 X.K js ρ ds p) (teD2 X.K js ρ ds p f me) σ H Q := by
 obtain ⟨Z, oz, en, k⟩ := h
 refine ⟨Z, oz, en, fun J H1 vs srcs s1 i1 Y l hl => ?_⟩
 have hlH : H l = none := s1.free hl
 have noL : ∀ {ds : List D} {vs : List V} {Z' : Zone} {Ha Hb : Hp}, Ha l = none -> Same Ha Hb -> Ins X.K Ha Z' ds vs -> Ins X.K Hb ⟨Z'.m, fun a => Z'.S a /\ a ≠ l⟩ ds vs := fun {ds vs Z' Ha Hb} ha sa h => Ins.carry (Z' := ⟨Z'.m, fun a => Z'.S a /\ a ≠ l⟩) (Carry.of sa (fun a zs e z => ⟨z, ne_of_none e ha⟩) fun m => m) h
 have noL1 : ∀ {d : D} {v : V} {Z' : Zone} {Ha Hb : Hp}, Ha l = none -> Same Ha Hb -> In X.K Ha Z' d v -> In X.K Hb ⟨Z'.m, fun a => Z'.S a /\ a ≠ l⟩ d v := fun {d v Z' Ha Hb} ha sa h => In.carry (Z' := ⟨Z'.m, fun a => Z'.S a /\ a ≠ l⟩) (Carry.of sa (fun a zs e z => ⟨z, ne_of_none e ha⟩) fun m => m) h
 refine ⟨fun i n xs H' => n = ds.length - i /\ i <= ds.length /\ Same H1 H' /\ H' l = some (.lst xs) /\ xs.length <= i /\ Ins X.K H' ⟨(out m Z H).m, fun a => (out m Z H).S a /\ a ≠ l⟩ (((ds.take i).filter (up2 false p)).map (up2 .non f)) xs, ⟨ds.length, by simp, Nat.zero_le _, same_new hl, upd_same, Nat.zero_le _, by simp; exact ins_nil.mpr rfl⟩, ?_⟩
 rintro i n xs H' ow how ⟨rfl, hi', s1', hl', hxi, jx⟩
 refine ⟨hl', ?_⟩
 have srcsZ : Ins X.K H1 Z srcs vs := by
  cases m1
  . exact i1
  . exact i1.up oz
 let Zl : Zone := ⟨Z.m, fun a => Z.S a /\ a ≠ l⟩
 have opl : ∀ {Ha : Hp} {o : HO}, Same H Ha -> Ha l = some o -> Zl.Open Ha := fun sa e => ⟨fun a ha => ⟨oz.op a (sa.free ha), by rintro rfl; rw [e] at ha; cases ha⟩, sa.tabs oz.tb⟩
 by_cases hlt : i < ds.length
 . have hd0 : ds[i]? = some ds[i] := by simp [hlt]
   obtain ⟨da, db, hab⟩ := hpair ds[i] (getElem_mem hlt)
   have hd : ds[i]? = some (.tup [da, db]) := by rw [hd0, hab]
   obtain ⟨go, yl⟩ := Y.go Zl H' (opl (s1.trans s1') hl') (noL hl s1' srcsZ) i _ hd
   refine .inr ⟨go, fun y H2 hy => ?_⟩
   obtain ⟨s2, iy⟩ := yl y H2 hy
   have hl2 : H2 l = some (.lst xs) := s2.at hl'
   have sH2 : Same H H2 := (s1.trans s1').trans s2
   obtain ⟨w1, w2, rfl⟩ : ∃ w1 w2, ow = [w1, w2] := by
    match ow, how with
    | [w1, w2], _ => exact ⟨w1, w2, rfl⟩
   obtain ⟨ta, txs, rfl, tt, tj⟩ := in_tupS iy
   obtain ⟨v1, r1, rfl, iv1, tj1⟩ := ins_cons.mp tj
   obtain ⟨v2, r2, rfl, iv2, tj2⟩ := ins_cons.mp tj1
   cases ins_nil.mp tj2
   have en2 : EnvIn X.K H2 Zl ([some v1, some v2] ++ capsOf js σ) ([some da, some db] ++ capD js ρ) := envIn_caps (fun i d e => let ⟨v, a, b⟩ := en i d e; ⟨v, a, noL1 hlH sH2 b⟩) rfl fun i d e => by
    match i, e with
    | 0, e => cases e; exact ⟨v1, rfl, iv1⟩
    | 1, e => cases e; exact ⟨v2, rfl, iv2⟩
   refine ⟨ta, _, rfl, tt, rfl, v1, _, rfl, v2, _, rfl, rfl, ⟨[some v1, some v2], rfl, rfl⟩, da, db, hd, Zl, opl sH2 hl2, en2, fun H3 s3 => ?_⟩
   have hl3 : H3 l = some (.lst xs) := s3.at hl2
   have st : (ds.take (i + 1)).filter (up2 false p) = (ds.take i).filter (up2 false p) ++ (if p da db then [D.tup [da, db]] else []) := take_succ_filter (up2 false p) ds i _ hd
   cases hp : p da db with
   | false =>
    refine iteF ?_
    refine ⟨ds.length - (i + 1), by omega, rfl, hlt, (s1'.trans s2).trans s3, hl3, by omega, ?_⟩
    rw [st, hp]
    simp only [Bool.false_eq_true, if_false, append_nil]
    exact jx.same (s2.trans s3)
   | true =>
    refine iteT ?_
    refine ⟨da, db, hd, hp, Zl, opl (sH2.trans s3) hl3, en2.same s3, fun v H4 s4 iv => ?_⟩
    have hl4 : H4 l = some (.lst xs) := s4.at hl3
    refine ⟨hl4, by omega, ds.length - (i + 1), by omega, rfl, hlt, ((s1'.trans s2).trans (s3.trans s4)).write hl hl4, upd_same, by rw [List.length_append]; simp; omega, ?_⟩
    . rw [st, hp]
      simp only [if_true, map_append, map_cons, map_nil]
      have n : ¬ (⟨(out m Z H).m, fun a => (out m Z H).S a /\ a ≠ l⟩ : Zone).S l := fun z => z.2 rfl
      refine Ins.append ((jx.same (s2.trans (s3.trans s4))).carry (.write hl4 n)) (Ins.one ?_)
      refine In.carry (.write hl4 n) ?_
      show In X.K H4 _ (f da db) v
      cases m with
      | false => exact iv.plain (opl (sH2.trans s3) hl3)
      | true =>
       rcases hm rfl with h | h
       . subst h
         exact In.carry (Z := nw H3) (Z' := ⟨true, fun a => H a = none /\ a ≠ l⟩) ⟨fun a zs e z => ⟨e, (sH2.trans s3).free z, by rintro rfl; have z : H3 a = none := z; rw [hl3] at z; cases z⟩, fun m => nwF m, fun _ _ e => e⟩ iv
       . have := h _ (mem_of_getElem? hd)
         exact iv.flat' this
 . have e : i = ds.length := by omega
   subst e
   refine .inl ⟨Y.stop Zl H' (opl (s1.trans s1') hl') (noL hl s1' srcsZ), k (.ref l) H' (s1.trans s1') (in_lst.mpr ⟨l, xs, rfl, .inl ⟨hl', ?_⟩, ?_⟩)⟩
   . cases m
     . exact oz l hlH
     . exact hlH
   . rw [take_length] at jx
     exact Ins.carry (Z := ⟨(out m Z H).m, fun a => (out m Z H).S a /\ a ≠ l⟩) (Z' := out m Z H) (Carry.of (Same.refl H') (fun a zs e z => And.left z) fun m => m) jx
theorem ec_comp2 {elt iter : Expr} {x y : Str} {px py pt : Pos} {kt : Nat} {ifs : List Expr} {scope : Scope} {me : Bool} (caps : List Str) (js : List Nat) (p : D -> D -> Bool) (f : D -> D -> D) (hi : IT X (.Tuple [.Name x px, .Name y py] kt pt) m1 ρ iter ds)
 (hpair : ∀ d ∈ ds, ∃ a b, d = .tup [a, b])
 (ht : ∀ C s H fp a b, D.tup [a, b] ∈ ds -> TS' (blk X ([x, y] ++ caps) scope C s H fp) ([some a, some b] ++ capD js ρ) ifs (p a b)) (he : ∀ C s H fp a b, D.tup [a, b] ∈ ds -> p a b = true -> E (blk X ([x, y] ++ caps) scope C s H fp) me ([some a, some b] ++ capD js ρ) elt (f a b))
 (hz : ds.length <= sizeLine) (hm : m = true -> me = true \/ ∀ d ∈ ds, (up2 .non f d).flat = true := by intro h; first | exact .inl h | cases h) (hc : X.calm = true := by rfl)
 (B : BlkScope X scope [x, y] caps js := by exact ⟨rfl, by decide, by decide, by decide, by decide, by decide, by repeat (first | exact trivial | refine ⟨⟨rfl, by first | exact .inl rfl | exact .inr rfl⟩, ?_⟩), by decide⟩)
 (hs : ∀ x, foldedSetIterable iter X.env x = pure x := by intro _; rfl) (hes : ∀ env : Env, (assignEach [.Name x px, .Name y py] env).map (·.2) = [assign (.Name x px) env, assign (.Name y py) env] := by intro _; rfl) (hes2 : ∀ env : Env, (assignEach [.Name y py] env).map (·.2) = [assign (.Name y py) env] := by intro _; rfl)
 (hen : ∀ env : Env, (assignEach [.Name x px, .Name y py] env).length = 2 := by intro _; rfl) (hst : ∀ env : Env, (assignEach [.Name x px, .Name y py] env).findIdx? (·.1) = none := by intro _; rfl) : EC X m ρ (.ListComp elt [⟨.Tuple [.Name x px, .Name y py] kt pt, iter, ifs, 0⟩] scope pos) (.lst ((ds.filter (up2 false p)).map (up2 .non f))) := by
 have hg1 : ∀ C s H fp, PG (blk X ([x, y] ++ caps) scope C s H fp) (.Name x px) (gName 0) := fun C s H fp => pg_name (i := 0) B.nd rfl (.inl (lookup_relabel_local (B.own x (by simp)))) (.inr (lookup_relabel_local (B.own x (by simp))))
 have hg2 : ∀ C s H fp, PG (blk X ([x, y] ++ caps) scope C s H fp) (.Name y py) (gName 1) := fun C s H fp => pg_name (i := 1) B.nd rfl (.inl (lookup_relabel_local (B.own y (by simp)))) (.inr (lookup_relabel_local (B.own y (by simp))))
 have hg : ∀ C s H fp, PG (blk X ([x, y] ++ caps) scope C s H fp) (.Tuple [.Name x px, .Name y py] kt pt) (gTup X.K 2 (gCons (gName 0) (gCons (gName 1) gNil))) := fun C s H fp =>
  pg_tup (X := blk X ([x, y] ++ caps) scope C s H fp) hc (pgs_cons (hg1 C s H fp) (pgs_cons (hg2 C s H fp) pgs_nil (by rw [hes2]; rfl)) (by rw [hes, hes2])) (hen _) (hst _)
 have ht' : ∀ C s H fp i, PTs (blk X ([x, y] ++ caps) scope C s H fp) ifs (tcD2 X.K js ρ ds p i) := fun C s H fp i pins s' σ H' Q I h => by
  obtain ⟨a, b, hd, h⟩ := h
  exact ht C s H fp a b (mem_of_getElem? hd) pins s' σ H' Q I h
 have he' : ∀ C s H fp i, PE (blk X ([x, y] ++ caps) scope C s H fp) elt (teD2 X.K js ρ ds p f me i) := fun C s H fp i pins s' σ H' Q I h => by
  obtain ⟨a, b, hd, hp, h⟩ := h
  exact he C s H fp a b (mem_of_getElem? hd) hp pins s' σ H' Q I h
 refine ⟨PE.mono (pe_comp (own := [x, y]) (caps := caps) hc B hi hg ht' he' hs) fun σ H Q h => comp_reads2 p f hpair hz hm σ H Q h, fun y' k spos py' hN hk hy hsw hf => ?_⟩
 exact PS.mono' (ps_comp (own := [x, y]) (caps := caps) hN hk hy hc B hi hg ht' he' hsw hf hs) fun Q σ H h => comp_reads2 p f hpair hz hm σ H _ h
theorem filter_up2 {ds : List D} (hpair : ∀ d ∈ ds, ∃ a b, d = .tup [a, b]) : ds.filter (up2 false fun _ _ => true) = ds := List.filter_eq_self.mpr fun d hd => by
 obtain ⟨a, b, rfl⟩ := hpair d hd
 rfl
end
section
variable {X : Cx} {F : Fn} {ρ : Rho} {Q : EndD} {rest body : List Stmt} {e : Expr} {pos p : Pos}
theorem sd_extendF (i : Nat) {x : Str} {ap cp : Pos} {ds es : List D} (fr : Bool) (h : ρ[i]? = some (some (.ow fr ds)) := by rfl) (he : E X true (view true false ρ) e (.lst es)) (fl : flats es = true) (hz : ds.length + es.length <= sizeLine) (hr : SD X F rest (ρ.set i (some (.ow fr (ds ++ es)))) Q)
 (hN : X.N[i]? = some x := by rfl) (hv : Vis X.env.scope x := by first | exact Or.inl rfl | exact Or.inr (Or.inl rfl) | exact Or.inr (Or.inr rfl)) (hd : (x == ("__debug__" : Str)) = false := by decide) (hcd : (x == ("__classdict__" : Str)) = false := by decide)
 (hbase : attributeBase (.Name x p) "extend" X.env (eval (.Name x p) X.env) = eval (.Name x p) X.env := by rfl) (hline : (ap.endLine == cp.line) = true := by rfl)
 (hs : starEach [e] X.env = [(false, eval e X.env)] := by rfl) (hsw : swapsWith (.Call (.Attribute (.Name x p) "extend" ap) [e] [] cp) none pos.line X.env = pure false := by rfl) :
 SD X F (.Expr (.Call (.Attribute (.Name x p) "extend" ap) [e] [] cp) pos :: rest) ρ Q := by
 refine sd_then (PS.mono (ps_expr (pe_bm PySem.F.plainAttrs_list PySem.F.slot_list_extend PySem.F.type_list_extend mt_extend (pe_var hN hv hd hcd) (pa_cons he pa_nil (by rw [hs]; rfl)) hbase (by rw [hs]; rfl) hline (by rw [hs]; rfl) rfl) hsw) ?_) hr
 rintro Q' σ H ⟨hv, hρ, A, hl, S, f⟩
 obtain ⟨l, xs, e1, e2, e3, j⟩ := S.ow hl h
 refine ⟨.ref l, e1, .inl ⟨rfl, xs, SqL.of e3⟩, _, vz_open S true false, S.env hl true false, fun v H1 s1 i1 => ?_⟩
 obtain ⟨b, zs, rfl, at', j2⟩ := in_lst.mp i1
 obtain ⟨b1, b2⟩ : H1 b = some (.lst zs) /\ H b = none := by
  rcases at' with z | z
  . exact z
  . exact absurd z.1 (by simp [out, nw])
 refine ⟨l, b, xs, zs, rfl, rfl, s1.at e3, b1, by rw [<- j.length, <- j2.length]; exact hz, f.nx _ _ (put_ow hl (S.grow s1) e1 e2 (s1.at e3) ((j.same s1).append (j2.flat' fl)))⟩
theorem sd_appendG (i : Nat) {x : Str} {ap cp : Pos} {ds : List D} {m1 : Bool} (fr : Bool) {d : D} (h : ρ[i]? = some (some (.ow fr ds)) := by rfl) (he : E X m1 (view true false ρ) e d) (fl : d.flat = true) (hz : ds.length < 5000) (hr : SD X F rest (ρ.set i (some (.ow fr (ds ++ [d])))) Q)
 (hN : X.N[i]? = some x := by rfl) (hv : Vis X.env.scope x := by first | exact Or.inl rfl | exact Or.inr (Or.inl rfl) | exact Or.inr (Or.inr rfl)) (hd : (x == ("__debug__" : Str)) = false := by decide) (hcd : (x == ("__classdict__" : Str)) = false := by decide)
 (hbase : attributeBase (.Name x p) "append" X.env (eval (.Name x p) X.env) = eval (.Name x p) X.env := by rfl) (hline : (ap.endLine == cp.line) = true := by rfl)
 (hs : starEach [e] X.env = [(false, eval e X.env)] := by rfl) (hsw : swapsWith (.Call (.Attribute (.Name x p) "append" ap) [e] [] cp) none pos.line X.env = pure false := by rfl) :
 SD X F (.Expr (.Call (.Attribute (.Name x p) "append" ap) [e] [] cp) pos :: rest) ρ Q := by
 refine sd_then (PS.mono (ps_expr (pe_bm PySem.F.plainAttrs_list PySem.F.slot_list_append PySem.F.type_list_append mt_append (pe_var hN hv hd hcd) (pa_cons he pa_nil (by rw [hs]; rfl)) hbase (by rw [hs]; rfl) hline (by rw [hs]; rfl) rfl) hsw) ?_) hr
 rintro Q' σ H ⟨hv, hρ, A, hl, S, f⟩
 obtain ⟨l, xs, e1, e2, e3, j⟩ := S.ow hl h
 refine ⟨.ref l, e1, .inl ⟨rfl, xs, SqL.of e3⟩, _, vz_open S true false, S.env hl true false, fun v H1 s1 i1 => ?_⟩
 refine ⟨l, xs, v, rfl, rfl, s1.at e3, by rw [<- j.length]; exact Nat.lt_of_lt_of_le hz big5000, f.nx _ _ (put_ow hl (S.grow s1) e1 e2 (s1.at e3) ((j.same s1).append (Ins.one (i1.flat' fl))))⟩
end
inductive Pt where
 | word (w : Str)
 | beg (w : Str)
 | fin (w : Str)
 | any
 | upto (n : Nat)
 | inn (q : List (List Pt))
mutual
def ptD : Pt -> D
 | .word w => .tup [.str "word", .str w]
 | .beg w => .tup [.str "begin", .str w]
 | .fin w => .tup [.str "end", .str w]
 | .any => .tup [.str "any"]
 | .upto n => .tup [.str "upto", .int (n : Nat)]
 | .inn q => .tup [.str "in", .lst (qDs q)]
def psDs : List Pt -> List D
 | [] => []
 | p :: ps => ptD p :: psDs ps
def qDs : List (List Pt) -> List D
 | [] => []
 | ps :: q => .lst (psDs ps) :: qDs q
end
theorem psDs_map : ∀ ps : List Pt, psDs ps = ps.map ptD
 | [] => by simp [psDs]
 | p :: ps => by simp [psDs, psDs_map ps]
theorem qDs_map : ∀ q : List (List Pt), qDs q = q.map fun ps => D.lst (psDs ps)
 | [] => by simp [qDs]
 | ps :: q => by simp [qDs, qDs_map q]
def fitsB : Pt -> Str -> Bool
 | .word w, z => decide (z = w)
 | .beg w, z => Txt.startswith z w
 | .fin w, z => Txt.endswith z w
 | .any, _ => true
 | _, _ => false
def isOne : Pt -> Prop
 | .upto _ => False
 | .inn _ => False
 | _ => True
def fitN (p : Pt) (row : List Str) : Nat := fitTo (fun i => fitsB p (row.getD i "")) row.length
theorem fitN_lt (p : Pt) (row : List Str) : fitN p row < 2 ^ row.length := fitTo_lt _ _
mutual
def mPt (row : List Str) : Pt -> Nat -> Nat
 | .word w, x => wordM (fitN (.word w) row) x
 | .beg w, x => wordM (fitN (.beg w) row) x
 | .fin w, x => wordM (fitN (.fin w) row) x
 | .any, x => wordM (fitN .any row) x
 | .upto n, x => uptoM (fitN .any row) n x
 | .inn q, x => mQ row q x
def mPs (row : List Str) : List Pt -> Nat -> Nat
 | [], x => x
 | p :: ps, x => mPs row ps (mPt row p x)
def mQ (row : List Str) : List (List Pt) -> Nat -> Nat
 | [], _ => 0
 | ps :: q, x => mPs row ps x ||| mQ row q x
end
mutual
def ptOk : Pt -> Nat -> Prop
 | .word _, _ => True
 | .beg _, _ => True
 | .fin _, _ => True
 | .any, _ => True
 | .upto n, _ => n <= 1000
 | .inn q, k => ∃ j, k = j + 1 /\ qOk q j
def psOk : List Pt -> Nat -> Prop
 | [], _ => True
 | p :: ps, k => ptOk p k /\ psOk ps k
def qOk : List (List Pt) -> Nat -> Prop
 | [], _ => True
 | ps :: q, k => psOk ps k /\ qOk q k
end
theorem psOk_mem : ∀ {ps : List Pt} {k : Nat}, psOk ps k -> ∀ p ∈ ps, ptOk p k
 | [], _, _, p, hp => by simp at hp
 | a :: ps, k, h, p, hp => by
  unfold psOk at h
  rcases mem_cons.mp hp with rfl | hp
  . exact h.1
  . exact psOk_mem h.2 p hp
theorem qOk_mem : ∀ {q : List (List Pt)} {k : Nat}, qOk q k -> ∀ ps ∈ q, psOk ps k
 | [], _, _, p, hp => by simp at hp
 | a :: q, k, h, p, hp => by
  unfold qOk at h
  rcases mem_cons.mp hp with rfl | hp
  . exact h.1
  . exact qOk_mem h.2 p hp
theorem psOk_of : ∀ {ps : List Pt} {k : Nat}, (∀ p ∈ ps, ptOk p k) -> psOk ps k
 | [], _, _ => by unfold psOk; trivial
 | a :: ps, k, h => by
  unfold psOk
  exact ⟨h a mem_cons_self, psOk_of fun p hp => h p (mem_cons_of_mem _ hp)⟩
theorem qOk_of : ∀ {q : List (List Pt)} {k : Nat}, (∀ ps ∈ q, psOk ps k) -> qOk q k
 | [], _, _ => by unfold qOk; trivial
 | a :: q, k, h => by
  unfold qOk
  exact ⟨h a mem_cons_self, qOk_of fun p hp => h p (mem_cons_of_mem _ hp)⟩
theorem one_ok {p : Pt} (h : isOne p) (k : Nat) : ptOk p k := by
 cases p <;> first | trivial | (unfold ptOk; trivial) | exact False.elim h
theorem mPt_one {p : Pt} (h : isOne p) (row : List Str) (x : Nat) : mPt row p x = wordM (fitN p row) x := by
 cases p <;> first | (unfold mPt; rfl) | exact False.elim h
theorem one_head {p : Pt} (h : isOne p) : ∃ (k : Str) (ts : List D), ptD p = .tup (.str k :: ts) /\ k ≠ "upto" /\ k ≠ "in" := by
 cases p with
 | word u => exact ⟨"word", [.str u], by simp [ptD], by decide +kernel, by decide +kernel⟩
 | beg u => exact ⟨"begin", [.str u], by simp [ptD], by decide +kernel, by decide +kernel⟩
 | fin u => exact ⟨"end", [.str u], by simp [ptD], by decide +kernel, by decide +kernel⟩
 | any => exact ⟨"any", [], by simp [ptD], by decide +kernel, by decide +kernel⟩
 | upto n => exact False.elim h
 | inn q => exact False.elim h
theorem pt_cases (p : Pt) : isOne p \/ (∃ m, p = .upto m) \/ ∃ q, p = .inn q := by
 cases p with
 | upto n => exact .inr (.inl ⟨n, rfl⟩)
 | inn q => exact .inr (.inr ⟨q, rfl⟩)
 | _ => exact .inl trivial
section
variable {row : List Str}
mutual
theorem mPt_lt : ∀ (p : Pt) {x : Nat}, x < 2 ^ (row.length + 1) -> mPt row p x < 2 ^ (row.length + 1)
 | .word w, x, _ => by unfold mPt; exact wordM_lt (fitN_lt _ _)
 | .beg w, x, _ => by unfold mPt; exact wordM_lt (fitN_lt _ _)
 | .fin w, x, _ => by unfold mPt; exact wordM_lt (fitN_lt _ _)
 | .any, x, _ => by unfold mPt; exact wordM_lt (fitN_lt _ _)
 | .upto n, x, h => by unfold mPt; exact uptoM_lt (fitN_lt _ _) h
 | .inn q, x, h => by unfold mPt; exact mQ_lt q h
theorem mPs_lt : ∀ (ps : List Pt) {x : Nat}, x < 2 ^ (row.length + 1) -> mPs row ps x < 2 ^ (row.length + 1)
 | [], x, h => by unfold mPs; exact h
 | p :: ps, x, h => by unfold mPs; exact mPs_lt ps (mPt_lt p h)
theorem mQ_lt : ∀ (q : List (List Pt)) {x : Nat}, x < 2 ^ (row.length + 1) -> mQ row q x < 2 ^ (row.length + 1)
 | [], x, _ => by unfold mQ; exact Nat.two_pow_pos _
 | ps :: q, x, h => by unfold mQ; exact or_lt' (mPs_lt ps h) (mQ_lt q h)
end
end
theorem mPs_snoc (row : List Str) (p : Pt) : ∀ (ps : List Pt) (x : Nat), mPs row (ps ++ [p]) x = mPt row p (mPs row ps x)
 | [], x => by simp [mPs]
 | a :: ps, x => by
  show mPs row (a :: (ps ++ [p])) x = _
  unfold mPs
  exact mPs_snoc row p ps _
theorem mQ_snoc (row : List Str) (ps : List Pt) : ∀ (q : List (List Pt)) (x : Nat), mQ row (q ++ [ps]) x = mQ row q x ||| mPs row ps x
 | [], x => by simp [mQ]
 | a :: q, x => by
  show mQ row (a :: (q ++ [ps])) x = _
  rw [mQ, mQ, mQ_snoc row ps q x, Nat.or_assoc]
def orD : D -> D -> D
 | .int i, .int j => .int ((i.toNat ||| j.toNat : Nat) : Int)
 | _, _ => .non
theorem united_zip : ∀ (a b : List Nat), (zipD (a.map fun n => D.int (n : Nat)) (b.map fun n => D.int (n : Nat))).map (up2 .non orD) = (List.zipWith (· ||| ·) a b).map fun n => D.int (n : Nat)
 | [], b => by simp [zipD]
 | x :: xs, [] => by simp [zipD]
 | x :: xs, y :: ys => by
  have ih := united_zip xs ys
  unfold zipD at ih ⊢
  simp only [map_cons, List.zip_cons_cons, List.zipWith_cons_cons]
  rw [ih]
  rfl
def questD (q : List (List Pt)) : D := .lst (qDs q)
def partsD (ps : List Pt) : D := .lst (psDs ps)
def gFits (ds : List D) (d : D) : Prop := ∃ p w, isOne p /\ ds = [ptD p, .str w] /\ d = .bl (fitsB p w)
def gFitting (ds : List D) (d : D) : Prop := ∃ p row, isOne p /\ row.length <= 61 /\ ds = [ptD p, strsD row] /\ d = .int (fitN p row : Nat)
def gBWord (ds : List D) (d : D) : Prop := ∃ (pl : Nat) (ws : List Nat), pl < 2 ^ 61 /\ ws.length <= 1000 /\ ds = [.int (pl : Nat), natsD ws] /\ d = natsD (ws.map (wordM pl))
def gUnited (ds : List D) (d : D) : Prop := ∃ (a b : List Nat), a.length <= 1000 /\ ds = [natsD a, natsD b] /\ d = natsD (List.zipWith (· ||| ·) a b)
def gBUpto (ds : List D) (d : D) : Prop := ∃ (n : Nat) (row : List Str) (ws : List Nat), n <= 1000 /\ row.length <= 61 /\ ws.length <= 1000 /\ ds = [.int (n : Nat), strsD row, natsD ws] /\ d = natsD (ws.map (uptoM (fitN .any row) n))
def gBPart (k : Nat) (ds : List D) (d : D) : Prop := ∃ (p : Pt) (row : List Str) (ws : List Nat), ptOk p k /\ row.length <= 61 /\ ws.length <= 1000 /\ ds = [ptD p, strsD row, natsD ws] /\ d = natsD (ws.map (mPt row p))
def gBParts (k : Nat) (ds : List D) (d : D) : Prop := ∃ (ps : List Pt) (row : List Str) (ws : List Nat), psOk ps k /\ row.length <= 61 /\ ws.length <= 1000 /\ ds = [partsD ps, strsD row, natsD ws] /\ d = natsD (ws.map (mPs row ps))
def gBQuestion (k : Nat) (ds : List D) (d : D) : Prop := ∃ (q : List (List Pt)) (row : List Str) (ws : List Nat), qOk q k /\ row.length <= 61 /\ ws.length <= 1000 /\ ds = [questD q, strsD row, natsD ws] /\ d = natsD (ws.map (mQ row q))
def gNumbers (ds : List D) (d : D) : Prop := ∃ x : Nat, x < 2 ^ 62 /\ ds = [.int (x : Nat)] /\ d = natsD (numsIn x)
def spansN (row : List Str) (q : List (List Pt)) (n : Nat) : List (Nat × Nat) := (List.range n).flatMap fun a => (numsIn (mQ row q (1 <<< a))).map fun t => (a, t)
def spansL (row : List Str) (q : List (List Pt)) : List (Nat × Nat) := spansN row q (row.length + 1)
def gSpans (k : Nat) (ds : List D) (d : D) : Prop := ∃ (q : List (List Pt)) (row : List Str), qOk q k /\ row.length <= 61 /\ ds = [questD q, strsD row] /\ d = plsD (spansL row q)
theorem spansN_succ (row : List Str) (q : List (List Pt)) (n : Nat) : spansN row q (n + 1) = spansN row q n ++ (numsIn (mQ row q (1 <<< n))).map fun t => (n, t) := by
 unfold spansN; rw [range_succ]; simp
theorem numsIn_len {x n : Nat} (h : x < 2 ^ n) : (numsIn x).length <= n := by
 unfold numsIn
 exact Nat.le_trans (length_filter_le _ _) (by rw [length_range]; exact bl_le h)
theorem spansN_len {row : List Str} (q : List (List Pt)) : ∀ n, n <= row.length + 1 -> (spansN row q n).length <= n * (row.length + 1)
 | 0, _ => by simp [spansN]
 | n + 1, h => by
  rw [spansN_succ, List.length_append, length_map, Nat.succ_mul]
  have h1 := spansN_len (row := row) q n (by omega)
  have h2 := numsIn_len (mQ_lt (row := row) q (one_shift_lt (show n < row.length + 1 by omega)))
  omega
theorem filter_one {n a : Nat} : (List.range n).filter (fun i => decide (i = a)) = if a < n then [a] else [] := by
 induction n with
 | zero => simp
 | succ n ih =>
  rw [range_succ, filter_append, ih]
  by_cases h1 : a < n
  . have : ¬ n = a := by omega
    rw [if_pos h1, if_pos (by omega)]
    simp [this]
  . by_cases h2 : n = a
    . subst h2
      simp
    . rw [if_neg h1, if_neg (by omega)]
      simp [h2]
theorem starts_slice (z u : Str) : Txt.startswith z u = decide (Txt.slice z none (some (u.length : Int)) = u) := by
 rw [Bool.eq_iff_iff, decide_eq_true_iff]
 unfold Txt.startswith
 rw [Bool.and_eq_true, decide_eq_true_iff, StrLaws.subAt_eq, beq_iff_eq, List.drop_zero]
 by_cases h : u.length <= z.length
 . have e := cl_slice_to z (j := (u.length : Int)) (by omega) (by rw [cl_len]; omega)
   rw [Int.toNat_natCast] at e
   constructor
   . rintro ⟨_, h2⟩
     exact cl_inj (e.trans h2)
   . intro h2
     exact ⟨by omega, e.symm.trans (congrArg cl h2)⟩
 . constructor
   . rintro ⟨h1, _⟩; omega
   . intro h2
     have := Txt.slice_le z none (some (u.length : Int))
     rw [h2] at this
     omega
theorem cl_slice_from (x : Str) {i : Int} (h0 : 0 <= i) (h1 : i <= (cl x).length) : cl (Txt.slice x (some i) none) = (cl x).drop i.toNat := by
 have e : Txt.slice x (some i) none = _ := StrLaws.sliceText_from (x := x) (i := i) ⟨h0, h1⟩
 rw [e]
 show List.take _ (List.drop _ _) = _
 rw [List.take_of_length_le]
 rw [length_drop]
 omega
theorem ends_slice (z u : Str) : Txt.endswith z u = (decide ((u.length : Int) <= (z.length : Int)) && decide (Txt.slice z (some ((z.length : Int) - (u.length : Int))) none = u)) := by
 rw [Bool.eq_iff_iff, Bool.and_eq_true, decide_eq_true_iff, decide_eq_true_iff]
 unfold Txt.endswith
 rw [Bool.and_eq_true, decide_eq_true_iff, StrLaws.subAt_eq, beq_iff_eq]
 by_cases h : u.length <= z.length
 . have e := cl_slice_from z (i := (z.length : Int) - (u.length : Int)) (by omega) (by rw [cl_len]; omega)
   rw [show ((z.length : Int) - (u.length : Int)).toNat = z.length - u.length by omega] at e
   have ht : ((cl z).drop (z.length - u.length)).take u.length = (cl z).drop (z.length - u.length) := by
    rw [List.take_of_length_le]
    rw [length_drop, cl_len]
    omega
   constructor
   . rintro ⟨_, h2⟩
     exact ⟨by omega, cl_inj (e.trans (ht.symm.trans h2))⟩
   . rintro ⟨_, h2⟩
     exact ⟨by omega, ht.trans (e.symm.trans (congrArg cl h2))⟩
 . constructor
   . rintro ⟨h1, _⟩; omega
   . rintro ⟨h1, _⟩; omega
def smallP : Pt -> Prop
 | .word w => w.length <= 1000
 | .beg w => w.length <= 1000
 | .fin w => w.length <= 1000
 | _ => True
def gMeets (ds : List D) (d : D) : Prop := ∃ p z, isOne p /\ smallP p /\ z.length <= 1000 /\ ds = [ptD p, .str z] /\ d = .bl (fitsB p z)
def plainP (m : Nat) (p : Pt) : Prop := (isOne p \/ ∃ k, p = .upto k /\ k <= m) /\ smallP p
def wordsOk (ws : List Str) : Prop := ws.length = 4 /\ ∀ z ∈ ws, z ≠ "" /\ z.length <= 12
theorem wordsOk.get {ws : List Str} (h : wordsOk ws) {i : Nat} (hi : i < 4) : ws.getD i "" ∈ ws /\ 1 <= (ws.getD i "").length /\ (ws.getD i "").length <= 12 := by
 have hm : ws.getD i "" ∈ ws := getD_mem (by rw [h.1]; exact hi)
 refine ⟨hm, ?_, (h.2 _ hm).2⟩
 have := (h.2 _ hm).1
 rcases Nat.eq_zero_or_pos (ws.getD i "").length with z | z
 . exfalso
   apply this
   rw [<- cl_eq_nil]
   exact List.eq_nil_of_length_eq_zero (by rw [cl_len]; exact z)
 . exact z
theorem plain_ok {m : Nat} {p : Pt} (h : plainP m p) (hm : m <= 1000) (k : Nat) : ptOk p k := by
 rcases h.1 with h | ⟨j, rfl, hj⟩
 . exact one_ok h k
 . unfold ptOk; omega
theorem plain_flat {m : Nat} {p : Pt} (h : plainP m p) : (ptD p).flat = true := by
 cases p with
 | inn q =>
  rcases h.1 with h | ⟨_, h, _⟩
  . exact False.elim h
  . cases h
 | _ => simp [ptD, D.flat, flats]
def numsF (n x : Nat) : List Nat := (List.range n).filter x.testBit
def qpartW (ways uptos : Int) (ws : List Str) (c : Int) : Pt :=
 if part c 30 ways = 0 then .any else if part c 30 ways = 1 then .upto (part c 31 uptos).toNat else
  let z := ws.getD (part c 32 4).toNat ""
  let n := 1 + part c 33 z.length
  if part c 30 ways = 2 then .beg (Txt.slice z none (some n)) else if part c 30 ways = 3 then .fin (Txt.slice z (some ((z.length : Int) - n)) none) else .word z
def gQPartW (ways uptos : Int) (ds : List D) (d : D) : Prop := ∃ (ws : List Str) (c : Int), wordsOk ws /\ ds = [strsD ws, .int c] /\ d = ptD (qpartW ways uptos ws c)
theorem qpartW_plain {ways uptos : Int} {ws : List Str} (h : wordsOk ws) (hu : 0 < uptos) (hu10 : uptos <= 10) (c : Int) : plainP 9 (qpartW ways uptos ws c) := by
 have p31 := part_lt c 31 hu
 have p32 := part_nn c 32 (show (0 : Int) < 4 by decide)
 have p32' := part_lt c 32 (show (0 : Int) < 4 by decide)
 obtain ⟨hm, g1, g2⟩ := h.get (i := (part c 32 4).toNat) (by omega)
 unfold qpartW
 split
 . exact ⟨.inl trivial, trivial⟩
 split
 . exact ⟨.inr ⟨_, rfl, by omega⟩, trivial⟩
 dsimp only
 split
 . exact ⟨.inl trivial, Nat.le_trans (Txt.slice_le _ _ _) (by omega)⟩
 split
 . exact ⟨.inl trivial, Nat.le_trans (Txt.slice_le _ _ _) (by omega)⟩
 . exact ⟨.inl trivial, show Str.length _ <= 1000 by omega⟩
theorem numsF_len (n x : Nat) : (numsF n x).length <= n := Nat.le_trans (length_filter_le _ _) (by rw [length_range]; exact Nat.le_refl _)
theorem numsF_mem {n x i : Nat} : i ∈ numsF n x ↔ i < n /\ x.testBit i = true := by
 unfold numsF
 rw [mem_filter, List.mem_range]
theorem bit_one {p : Pt} (hp : isOne p) (row : List Str) (x i : Nat) (hi : i < row.length + 1) : (mPt row p x).testBit i = true ↔ 1 <= i /\ x.testBit (i - 1) = true /\ fitsB p (row.getD (i - 1) "") = true := by
 rw [mPt_one hp]
 cases i with
 | zero => rw [wordM_zero]; simp
 | succ i =>
  rw [wordM_succ]
  unfold fitN
  rw [fitTo_bit]
  simp
  omega
theorem bit_upto (k : Nat) (row : List Str) (x i : Nat) (hi : i < row.length + 1) : (mPt row (.upto k) x).testBit i = (numsF (row.length + 1) x).any fun a => decide (0 <= (i : Int) - (a : Int)) && decide ((i : Int) - (a : Int) <= (k : Int)) := by
 rw [Bool.eq_iff_iff, mPt]
 show (uptoM (fitTo (fun _ => true) row.length) k x).testBit i = true ↔ _
 rw [uptoM_bit, any_eq_true]
 constructor
 . rintro ⟨j, h1, h2, h3, h4⟩
   exact ⟨i - j, numsF_mem.mpr ⟨by omega, h3⟩, by simp; omega⟩
 . rintro ⟨a, ha, h⟩
   obtain ⟨h1, h2⟩ := numsF_mem.mp ha
   simp at h
   exact ⟨i - a, by omega, by omega, by rw [show i - (i - a) = a by omega]; exact h2, .inr (by omega)⟩
theorem numsF_one {n a : Nat} (h : a < n) : numsF n (1 <<< a) = [a] := by
 unfold numsF
 have : (1 <<< a).testBit = fun i => decide (i = a) := by
  funext i
  rw [bit_one_shift]
  simp [eq_comm]
 rw [this, filter_one, if_pos h]
section
variable {X : Cx} {F : Fn} {ρ : Rho} {Q : EndD} {rest : List Stmt} {e : Expr} {d : D} {pos p : Pos} {x : Str} {fr m1 : Bool} {ds : List D} {dss : List (List D)}
def tW (K : Frag) (F : Fn) (ρ : Rho) (ds : List D) : TA := fun σ H R => ∃ hv hρ A, σ.length = ρ.length /\ StIn K F H (σ ++ hv) (ρ ++ hρ) A /\ ∀ vs H', Same H H' -> Ins K H' (zn F (Owned A) true) ds vs -> R vs H'
def EW (X : Cx) (F : Fn) (ρ : Rho) (es : List Expr) (ds : List D) : Prop := PA X es (tW X.K F ρ ds)
theorem ew_nil : EW X F ρ [] [] := PA.mono pa_nil fun σ H R ⟨hv, hρ, A, hl, S, k⟩ => k [] H (Same.refl H) (ins_nil.mpr rfl)
theorem ew_flat {es : List Expr} (he : E X m1 (view true false ρ) e d) (fl : d.flat = true) (hr : EW X F ρ es ds) (hs : starEach (e :: es) X.env = (false, eval e X.env) :: starEach es X.env := by rfl) : EW X F ρ (e :: es) (d :: ds) :=
 PA.mono (pa_cons he hr hs) fun σ H R ⟨hv, hρ, A, hl, S, k⟩ => ⟨_, vz_open S true false, S.env hl true false, fun v H1 s1 i1 => ⟨hv, hρ, A, hl, S.grow s1, fun vs H2 s2 i2 => k (v :: vs) H2 (s1.trans s2) (ins_cons.mpr ⟨v, vs, rfl, In.same s2 (In.flat' fl i1), i2⟩)⟩⟩
theorem ew_held {es : List Expr} (he : E X false (view false true ρ) e d) (hr : EW X F ρ es ds) (hs : starEach (e :: es) X.env = (false, eval e X.env) :: starEach es X.env := by rfl) : EW X F ρ (e :: es) (d :: ds) :=
 PA.mono (pa_cons he hr hs) fun σ H R ⟨hv, hρ, A, hl, S, k⟩ => ⟨_, vz_open S false true, S.env hl false true, fun v H1 s1 i1 => ⟨hv, hρ, A, hl, S.grow s1, fun vs H2 s2 i2 => k (v :: vs) H2 (s1.trans s2) (ins_cons.mpr ⟨v, vs, rfl, In.same s2 (i1 : In X.K H1 (zn F (Owned A) true) d v), i2⟩)⟩⟩
theorem sd_own2w (i : Nat) {x : Str} {es : List Expr} {ds : List D} {lp lp2 : Pos} (he : EW X F ρ es ds) (hz : ds.length <= 1000) (hr : SD X F rest (ρ.set i (some (.ow2 true [ds]))) Q) (hN : X.N.Nodup) (hi : X.N[i]? = some x := by rfl)
 (hx : Loc X.env.scope x := by first | exact Or.inl rfl | exact Or.inr rfl) (hρ : i < ρ.length := by exact of_decide_eq_true rfl) (hs : swapsWith (.List [.List es lp] lp2) (some (.Name x p)) pos.line X.env = pure false := by rfl) (hf : X.fn x = true \/ X.env.scope.names.lookup x = some .local := by first | exact .inl rfl | exact .inr rfl)
 (hst : starEach [.List es lp] X.env = [(false, eval (.List es lp) X.env)] := by rfl) :
 SD X F (.Assign [.Name x p] (.List [.List es lp] lp2) pos :: rest) ρ Q := by
 refine sd_then (PS.mono (ps_set hN hi hx (pe_lst (pa_cons (pe_lst he) pa_nil (by rw [hst]; rfl))) hs hf) ?_) hr
 rintro Q' σ H ⟨hv, hρ', A, hl, S, f⟩
 refine ⟨hv, hρ', A, hl, S, fun vs H1 s1 i1 => ⟨by rw [<- i1.length]; exact smallL hz, fun a ha => ⟨smallL (by simp), fun l hl' => f.nx _ _ ?_⟩⟩⟩
 have hla : l ≠ a := by rintro rfl; rw [upd_same] at hl'; cases hl'
 have hl1 : H1 l = none := by rw [upd_ne hla] at hl'; exact hl'
 have s2 : Same H1 (upd (upd H1 a (.lst vs)) l (.lst [.ref a])) := (same_new ha).trans (same_new hl')
 refine ⟨_, putA A i [l, a], by simp [hl], ?_, rfl⟩
 rw [<- set_app (by omega), <- set_app hρ]
 refine S.put (by rw [List.length_append]; omega) (by rw [List.length_append]; omega) (s1.trans s2) (by simp [hla]) (fun b hb => ?_) ⟨l, [a], rfl, rfl, upd_same, .cons ⟨vs, by rw [upd_ne (Ne.symm hla), upd_same], ?_⟩ .nil⟩
 . have hb : b = l \/ b = a := by simpa using hb
   rcases hb with rfl | rfl
   . exact ⟨s1.free hl1, .l _, upd_same⟩
   . exact ⟨s1.free ha, .l _, by rw [upd_ne (Ne.symm hla), upd_same]; rfl⟩
 . refine Ins.carry (carry_zn s2 fun b xs e n => ?_) i1
   rintro ⟨k, hk⟩
   by_cases q : k = i
   . rw [q, putA_same] at hk
     have hb : b = l \/ b = a := by simpa using hk
     rcases hb with rfl | rfl
     . rw [hl1] at e; cases e
     . rw [ha] at e; cases e
   . rw [putA_ne q] at hk
     exact n ⟨k, hk⟩
theorem sd_append2f (i : Nat) {x : Str} {ap cp : Pos} {dss : List (List D)} (fr : Bool) (h : ρ[i]? = some (some (.ow2 fr dss)) := by rfl) {es : List D} (he : E X true (view true false ρ) e (.lst es)) (fl : flats es = true) (hz : dss.length < 1000) (hr : SD X F rest (ρ.set i (some (.ow2 fr (dss ++ [es])))) Q)
 (hN : X.N[i]? = some x := by rfl) (hv : Vis X.env.scope x := by first | exact Or.inl rfl | exact Or.inr (Or.inl rfl) | exact Or.inr (Or.inr rfl)) (hd : (x == ("__debug__" : Str)) = false := by decide) (hcd : (x == ("__classdict__" : Str)) = false := by decide)
 (hbase : attributeBase (.Name x p) "append" X.env (eval (.Name x p) X.env) = eval (.Name x p) X.env := by rfl) (hline : (ap.endLine == cp.line) = true := by rfl)
 (hs : starEach [e] X.env = [(false, eval e X.env)] := by rfl) (hsw : swapsWith (.Call (.Attribute (.Name x p) "append" ap) [e] [] cp) none pos.line X.env = pure false := by rfl) :
 SD X F (.Expr (.Call (.Attribute (.Name x p) "append" ap) [e] [] cp) pos :: rest) ρ Q := by
 refine sd_then (PS.mono (ps_expr (pe_bm PySem.F.plainAttrs_list PySem.F.slot_list_append PySem.F.type_list_append mt_append (pe_var hN hv hd hcd) (pa_cons he pa_nil (by rw [hs]; rfl)) hbase (by rw [hs]; rfl) hline (by rw [hs]; rfl) rfl) hsw) ?_) hr
 rintro Q' σ H ⟨hv, hρ, A, hl, S, f⟩
 obtain ⟨l, as, e1, e2, e3, j⟩ := S.ow2 hl h
 have hi : i < σ.length := (List.getElem?_eq_some_iff.mp e1).1
 refine ⟨.ref l, e1, .inl ⟨rfl, _, SqL.of e3⟩, _, vz_open S true false, S.env hl true false, fun v H1 s1 i1 => ?_⟩
 obtain ⟨a, ys, rfl, at', jn⟩ := in_lst.mp i1
 obtain ⟨ea, en⟩ : H1 a = some (.lst ys) /\ H a = none := by
  rcases at' with z | z
  . exact z
  . exact absurd z.1 (by simp [out, nw])
 have hlen : (as.map V.ref).length < sizeLine := by rw [length_map, <- j.length]; exact small1000 (by omega)
 refine ⟨l, _, .ref a, rfl, rfl, s1.at e3, hlen, f.nx _ _ ?_⟩
 have hal : a ≠ l := by rintro rfl; rw [e3] at en; cases en
 have haA : ∀ j, a ∉ A j := fun j hj => by obtain ⟨xs, e⟩ := S.lst j a hj; rw [en] at e; cases e
 have hnd := S.nd i
 rw [e2] at hnd
 have hl0 : l ∉ as := (nodup_cons.mp hnd).1
 have kk : ∀ b o, H b = some o -> isT o = false -> b ∉ A i -> (upd H1 l (.lst (as.map V.ref ++ [.ref a]))) b = some o := fun b o e n hb => by
  rw [e2] at hb
  have : b ≠ l := fun z => hb (by simp [z])
  rw [upd_ne this]; exact s1.get b o e n
 have kkT : ∀ b o, H1 b = some o -> isT o = false -> b ∉ A i -> (upd H1 l (.lst (as.map V.ref ++ [.ref a]))) b = some o := fun b o e n hb => by
  rw [e2] at hb
  have : b ≠ l := fun z => hb (by simp [z])
  rw [upd_ne this]; exact e
 have mine : ∀ b ∈ l :: (as ++ [a]), b ∈ A i \/ H b = none := fun b hb => by
  rcases mem_cons.mp hb with z | hb
  . exact .inl (by rw [e2, z]; simp)
  . rcases mem_append.mp hb with hb | hb
    . exact .inl (by rw [e2]; simp [hb])
    . have : b = a := by simpa using hb
      exact .inr (by rw [this]; exact en)
 refine ⟨_, putA A i (l :: (as ++ [a])), by simp [hl], ?_, rfl⟩
 have key := S.re (i := i) (v := .ref l) (sl := .ow2 fr (dss ++ [es])) (l := l :: (as ++ [a])) (H2 := upd H1 l (.lst (as.map V.ref ++ [.ref a]))) (by rw [List.length_append]; omega) (by rw [List.length_append]; omega) ((S.same.trans s1).write (S.new i l (by rw [e2]; simp)) (s1.at e3)) kk ?_ (fun b hb => ⟨mine b hb, ?_⟩) ⟨l, as ++ [a], rfl, rfl, ?_, ?_⟩
 . rw [set_self (by rw [getElem?_append_left hi]; exact e1), set_app (by omega)] at key
   exact key
 . have n1 : a ∉ l :: as := by rw [<- e2]; exact haA i
   rw [<- cons_append]
   exact List.nodup_append.mpr ⟨hnd, by simp, fun b hb c hc => by
    have : c = a := by simpa using hc
    subst this
    rintro rfl
    exact n1 hb⟩
 . rcases mem_cons.mp hb with z | hb
   . exact ⟨.l _, by rw [z, upd_same]; rfl⟩
   . rcases mem_append.mp hb with hb | hb
     . have : b ≠ l := fun z => hl0 (z ▸ hb)
       obtain ⟨xs, e⟩ := S.lst i b (by rw [e2]; simp [hb])
       exact ⟨xs, by rw [upd_ne this]; exact s1.at e xs.nt⟩
     . have : b = a := by simpa using hb
       rw [this, upd_ne hal]
       exact ⟨.l _, ea⟩
 . rw [upd_same, map_append]; rfl
 . refine RowsAt.snoc (xs := ys) (j.carry (fun b xs hb e => ?_) (carry_re S kk mine fr)) (by rw [upd_ne hal]; exact ea) (Ins.flat (carry_re (l := []) (S.grow s1) kkT (fun b hb => by simp at hb) fr).t fl jn)
   have : b ≠ l := by rintro rfl; exact hl0 hb
   rw [upd_ne this]; exact s1.at e
theorem sd_append2N (i : Nat) {x : Str} {ap cp sp : Pos} {ix : Expr} {mi : Bool} {dss : List (List D)} {ds : List D} {d : D} (h : ρ[i]? = some (some (.ow2 true (dss ++ [ds]))) := by rfl) (hix : E X mi (view true false ρ) ix (.int (-1))) (he : E X true (view true false ρ) e d) (hz : ds.length < 1000)
 (hr : SD X F rest (ρ.set i (some (.ow2 true (dss ++ [ds ++ [d]])))) Q)
 (hN : X.N[i]? = some x := by rfl) (hv : Vis X.env.scope x := by first | exact Or.inl rfl | exact Or.inr (Or.inl rfl) | exact Or.inr (Or.inr rfl)) (hd : (x == ("__debug__" : Str)) = false := by decide) (hcd : (x == ("__classdict__" : Str)) = false := by decide)
 (hpi : PlainIx ix := by intro _ _; rfl) (hbase : attributeBase (.Subscript (.Name x p) ix sp) "append" X.env (eval (.Subscript (.Name x p) ix sp) X.env) = eval (.Subscript (.Name x p) ix sp) X.env := by rfl)
 (hline : (ap.endLine == cp.line) = true := by rfl)
 (hs : starEach [e] X.env = [(false, eval e X.env)] := by rfl) (hsw : swapsWith (.Call (.Attribute (.Subscript (.Name x p) ix sp) "append" ap) [e] [] cp) none pos.line X.env = pure false := by rfl) :
 SD X F (.Expr (.Call (.Attribute (.Subscript (.Name x p) ix sp) "append" ap) [e] [] cp) pos :: rest) ρ Q := by
 refine sd_then (PS.mono (ps_expr (pe_bm PySem.F.plainAttrs_list PySem.F.slot_list_append PySem.F.type_list_append mt_append (pe_ix ix_list (pe_var hN hv hd hcd) hix hpi) (pa_cons he pa_nil (by rw [hs]; rfl)) hbase (by rw [hs]; rfl) hline (by rw [hs]; rfl) rfl) hsw) ?_) hr
 rintro Q' σ H ⟨hv, hρ, A, hl, S, f⟩
 obtain ⟨l, as, e1, e2, e3, j⟩ := S.ow2 hl h
 have hi : i < σ.length := (List.getElem?_eq_some_iff.mp e1).1
 obtain ⟨bs, a, xs, rfl, j1, ea, ja⟩ := j.unsnoc
 have hnd := S.nd i
 rw [e2] at hnd
 have hal : a ≠ l := fun z => (nodup_cons.mp hnd).1 (by simp [z])
 have hab : a ∉ bs := fun z => by
  have := (List.nodup_append.mp (nodup_cons.mp hnd).2).2.2 a z a (by simp)
  exact this rfl
 refine ⟨.ref l, e1, _, vz_open S true false, S.env hl true false, fun y H1 s1 i1 => ⟨l, _, -1, .ref a, rfl, in_int.mp (i1.plain (vz_open S true false)), SqL.of (s1.at e3), ?_, .inl ⟨rfl, xs, SqL.of (s1.at ea)⟩, _, (vz_open S true false).same s1, (S.env hl true false).same s1, fun w H2 s2 i2 => ?_⟩⟩
 . rw [map_append]; exact atI_last _ _
 . have s12 := s1.trans s2
   have S2 := S.grow s12
   have hlen : xs.length < sizeLine := by rw [<- ja.length]; exact small1000 (by omega)
   refine ⟨a, xs, w, rfl, rfl, s12.at ea, hlen, f.nx _ _ ?_⟩
   have aA : a ∈ A i := by rw [e2]; simp
   have kk : ∀ b o, H2 b = some o -> isT o = false -> b ∉ A i -> (upd H2 a (.lst (xs ++ [w]))) b = some o := fun b o e n hb => by
    have : b ≠ a := fun z => hb (z ▸ aA)
    rw [upd_ne this]; exact e
   have mine : ∀ b ∈ l :: (bs ++ [a]), b ∈ A i \/ H2 b = none := fun b hb => .inl (by rw [e2]; exact hb)
   refine ⟨_, putA A i (l :: (bs ++ [a])), by simp [hl], ?_, rfl⟩
   have key := S2.re (i := i) (v := .ref l) (sl := .ow2 true (dss ++ [ds ++ [d]])) (l := l :: (bs ++ [a])) (H2 := upd H2 a (.lst (xs ++ [w]))) (by rw [List.length_append]; omega) (by rw [List.length_append]; omega) (S2.same.write (S2.new i a aA) (s12.at ea)) kk hnd (fun b hb => ⟨mine b hb, ?_⟩) ⟨l, bs ++ [a], rfl, rfl, ?_, ?_⟩
   . rw [set_self (by rw [getElem?_append_left hi]; exact e1), set_app (by omega)] at key
     exact key
   . by_cases z : b = a
     . exact ⟨.l _, by rw [z, upd_same]; rfl⟩
     . rw [upd_ne z]
       exact S2.lst i b (by rw [e2]; exact hb)
   . rw [upd_ne (Ne.symm hal)]; exact s12.at e3
   . have c := carry_re S2 kk mine true
     have newIn : ∀ {d : D} {v : V}, In X.K H2 (out true (vz F (Owned A) true false) H1) d v -> In X.K H2 (zn F (Owned A) true) d v := fun {d v} h => In.carry (Z := nw H1) (Z' := zn F (Owned A) true) ⟨fun b ys e z => ⟨e, S.same.free (s1.free z), fun ⟨k, hk⟩ => by
      obtain ⟨zs, ez⟩ := S.lst k b hk
      have z' : H1 b = none := z
      rw [s1.at ez zs.nt] at z'
      cases z'⟩, fun m => nwF m, fun _ _ e => e⟩ h
     have j1' : RowsAt X.K H2 (zn F (Owned A) true) dss bs := j1.carry (fun b ys hb e => s12.at e) (Carry.same s12)
     refine RowsAt.snoc (j1'.carry (fun b ys hb e => ?_) c) upd_same (Ins.append ((ja.same s12).carry c) (Ins.one (In.carry c (newIn i2))))
     have : b ≠ a := fun z => hab (z ▸ hb)
     rw [upd_ne this]; exact e
end
abbrev pp (ws : List Str) (c : Int) : Pt := qpartW 6 4 ws c
def qStep (ws : List Str) (q : List (List Pt)) (c : Int) : List (List Pt) :=
 if part c 40 6 = 0 then q ++ [[pp ws c]] else if part c 40 6 = 1 then [[.inn q, pp ws c]]
 else if part c 40 6 = 2 then q.dropLast ++ [q.getLast?.getD [] ++ [.inn [[pp ws c], [pp ws (c + 1)]]]] else q.dropLast ++ [q.getLast?.getD [] ++ [pp ws c]]
def questL (ws : List Str) (c0 : Int) (cells : List Int) : List (List Pt) := cells.foldl (qStep ws) [[pp ws c0]]
theorem questL_snoc (ws : List Str) (c0 : Int) (cells : List Int) (c : Int) : questL ws c0 (cells ++ [c]) = qStep ws (questL ws c0 cells) c := by
 unfold questL; rw [List.foldl_append]; rfl
mutual
theorem ptOk_succ : ∀ (p : Pt) {k : Nat}, ptOk p k -> ptOk p (k + 1)
 | .word _, _, _ => by unfold ptOk; trivial
 | .beg _, _, _ => by unfold ptOk; trivial
 | .fin _, _, _ => by unfold ptOk; trivial
 | .any, _, _ => by unfold ptOk; trivial
 | .upto n, _, h => by unfold ptOk at h ⊢; exact h
 | .inn q, k, h => by
  unfold ptOk at h ⊢
  obtain ⟨j, e, h⟩ := h
  exact ⟨j + 1, by omega, qOk_succ q h⟩
theorem psOk_succ : ∀ (ps : List Pt) {k : Nat}, psOk ps k -> psOk ps (k + 1)
 | [], _, _ => by unfold psOk; trivial
 | p :: ps, k, h => by
  unfold psOk at h ⊢
  exact ⟨ptOk_succ p h.1, psOk_succ ps h.2⟩
theorem qOk_succ : ∀ (q : List (List Pt)) {k : Nat}, qOk q k -> qOk q (k + 1)
 | [], _, _ => by unfold qOk; trivial
 | ps :: q, k, h => by
  unfold qOk at h ⊢
  exact ⟨psOk_succ ps h.1, qOk_succ q h.2⟩
end
theorem qOk_mono {q : List (List Pt)} {j k : Nat} (h : qOk q j) (hk : j <= k) : qOk q k := by
 obtain ⟨d, rfl⟩ := Nat.exists_eq_add_of_le hk
 clear hk
 induction d with
 | zero => exact h
 | succ d ih => exact qOk_succ q ih
theorem pp_plain {ws : List Str} (h : wordsOk ws) (c : Int) : plainP 9 (pp ws c) := qpartW_plain h (by decide) (by decide) c
theorem pp_ok {ws : List Str} (h : wordsOk ws) (c : Int) (k : Nat) : ptOk (pp ws c) k := plain_ok (pp_plain h c) (by decide) k
theorem psOk_one {p : Pt} {k : Nat} (h : ptOk p k) : psOk [p] k := psOk_of fun q hq => by simp at hq; subst hq; exact h
theorem qOk_one {ps : List Pt} {k : Nat} (h : psOk ps k) : qOk [ps] k := qOk_of fun q hq => by simp at hq; subst hq; exact h
structure QInv (ws : List Str) (n : Nat) (q : List (List Pt)) : Prop where
 ok : qOk q n
 ne : ∃ init last, q = init ++ [last]
 len : q.length <= n + 1
 rows : ∀ ps ∈ q, ps.length <= n + 2
theorem qInv_step {ws : List Str} (h : wordsOk ws) {n : Nat} {q : List (List Pt)} (I : QInv ws n q) (c : Int) : QInv ws (n + 1) (qStep ws q c) := by
 obtain ⟨init, last, e⟩ := I.ne
 have hdl : q.dropLast = init := by rw [e]; simp
 have hgl : q.getLast?.getD [] = last := by rw [e]; simp
 have hlen := I.len
 rw [e, List.length_append, List.length_singleton] at hlen
 have hlast := I.rows last (by rw [e]; simp)
 have hok := qOk_succ q I.ok
 unfold qStep
 split
 . refine ⟨qOk_of fun ps hps => ?_, ⟨q, [pp ws c], rfl⟩, by rw [e]; simp; omega, fun ps hps => ?_⟩
   . rcases mem_append.mp hps with hps | hps
     . exact qOk_mem hok ps hps
     . simp at hps; subst hps; exact psOk_one (pp_ok h c _)
   . rcases mem_append.mp hps with hps | hps
     . have := I.rows ps hps; omega
     . simp at hps; subst hps; simp
 split
 . refine ⟨qOk_one (psOk_of fun p hp => ?_), ⟨[], _, rfl⟩, by simp, fun ps hps => by simp at hps; subst hps; simp⟩
   simp at hp
   rcases hp with rfl | rfl
   . unfold ptOk; exact ⟨n, rfl, I.ok⟩
   . exact pp_ok h c _
 rw [hdl, hgl]
 split
 . refine ⟨qOk_of fun ps hps => ?_, ⟨_, _, rfl⟩, by simp; omega, fun ps hps => ?_⟩
   . rcases mem_append.mp hps with hps | hps
     . exact qOk_mem hok ps (by rw [e]; simp [hps])
     . simp at hps; subst hps
       refine psOk_of fun p hp => ?_
       rcases mem_append.mp hp with hp | hp
       . exact psOk_mem (qOk_mem hok last (by rw [e]; simp)) p hp
       . simp at hp; subst hp
         unfold ptOk
         refine ⟨n, rfl, qOk_of fun ps hps => ?_⟩
         simp at hps
         rcases hps with rfl | rfl
         . exact psOk_one (pp_ok h c _)
         . exact psOk_one (pp_ok h _ _)
   . rcases mem_append.mp hps with hps | hps
     . have := I.rows ps (by rw [e]; simp [hps]); omega
     . simp at hps; subst hps; simp; omega
 . refine ⟨qOk_of fun ps hps => ?_, ⟨_, _, rfl⟩, by simp; omega, fun ps hps => ?_⟩
   . rcases mem_append.mp hps with hps | hps
     . exact qOk_mem hok ps (by rw [e]; simp [hps])
     . simp at hps; subst hps
       refine psOk_of fun p hp => ?_
       rcases mem_append.mp hp with hp | hp
       . exact psOk_mem (qOk_mem hok last (by rw [e]; simp)) p hp
       . simp at hp; subst hp; exact pp_ok h c _
   . rcases mem_append.mp hps with hps | hps
     . have := I.rows ps (by rw [e]; simp [hps]); omega
     . simp at hps; subst hps; simp; omega
theorem questL_inv {ws : List Str} (h : wordsOk ws) (c0 : Int) (cells : List Int) : QInv ws cells.length (questL ws c0 cells) := by
 refine snoc_ind (p := fun cells => QInv ws cells.length (questL ws c0 cells)) ?_ (fun l c ih => ?_) cells
 . refine ⟨qOk_one (psOk_one (pp_ok h c0 _)), ⟨[], [pp ws c0], rfl⟩, by simp [questL], fun ps hps => ?_⟩
   simp [questL] at hps; subst hps; simp
 . rw [questL_snoc, List.length_append, List.length_singleton]
   exact qInv_step h ih c
def gQuestion (ds : List D) (d : D) : Prop := ∃ (ws : List Str) (cells : List Int), wordsOk ws /\ cells.length <= 8 /\ ds = [strsD ws, intsD cells] /\ d = questD (questL ws (cellAt cells 0 + 3) cells)
theorem questD_map (q : List (List Pt)) : questD q = .lst ((q.map psDs).map D.lst) := by unfold questD; rw [qDs_map, map_map]; rfl
theorem spansL_len (row : List Str) (q : List (List Pt)) : (spansL row q).length <= (row.length + 1) * (row.length + 1) := spansN_len q _ (Nat.le_refl _)
theorem vals_intsAre {us : List Value} {ns : List Int} (h : IntsAre us ns) : Vals (ns.map V.int) us := by
 induction h with
 | nil => exact .nil
 | cons n t _ ih => exact .cons ⟨t, rfl⟩ ih
section
variable {X : Cx} {ρ : List (Option D)} {m m1 m2 : Bool} {a b : Expr} {p pos : Pos}
theorem call_sortedI : CallR X (.builtin "sorted") (fun xs H Q => ∃ (l : Addr) (ns ns' : List Int), xs = [.ref l] /\ SqL X.K H l (ns.map V.int) /\ ns.length < 64 /\ ns'.Perm ns /\ ns'.Pairwise (· <= ·) /\ ∀ q, H q = none -> Q (.ref q) (upd H q (.lst (ns'.map V.int)))) := by
 intro pins s σ H xs us Q I r h
 obtain ⟨l, ns, ns', rfl, hq, h64, hp, hs, q⟩ := h
 obtain ⟨u, rfl, rx⟩ := Vals.one r
 cases rx
 obtain ⟨its, rv, pl, hz⟩ := I.list hq
 have z2 := rv.length
 rw [length_map] at z2
 refine sorted_ints pl.isList (by simpa using intsAre_of rv) (by simpa using (by omega : its.length < 64)) fun out n2 a1 a2 a3 => ?_
 obtain rfl : n2 = ns' := PySem.W.lks_uniq (a2.trans hp.symm) a3 hs
 obtain ⟨mm, ho⟩ := sortedAll_at s.heap its out
 have hl : (n2.map V.int).length <= sizeLine := by rw [length_map, a2.length_eq]; exact smallL (by omega)
 exact ⟨.ref (s.heap.objs.size + 1), _, I.laid (t' := s.toks) (fun _ _ => sortedAll_old) (Nat.le_succ _) (show ObjOk X.prog X.w _ _ _ (.lst (n2.map V.int)) from ⟨hl, out.toList, mm, vals_intsAre a1, by simpa using ho⟩), rfl, q _ (I.hok.fresh (Nat.le_succ _))⟩
theorem e_sortedI {ns ns' : List Int} (ha : E X m1 ρ a (.lst (ns.map D.int))) (h64 : ns.length < 64) (hp : ns'.Perm ns) (hs' : ns'.Pairwise (· <= ·)) (hm : X.mg "sorted" = none)
 (hg : Gl X "sorted" := by rfl) (hs : starEach [a] X.env = [(false, eval a X.env)] := by rfl) : E X true ρ (.Call (.Name "sorted" p) [a] [] pos) (.lst (ns'.map D.int)) :=
 PE.mono (pe_callB call_sortedI hg hm boot_sorted (pa_cons ha pa_nil (by rw [hs]; rfl)) (by decide) (by decide) (by rw [hs]; rfl) rfl) fun σ H Q z0 => el13 z0 fun Z oz en k => ⟨Z, oz, en, fun x H1 s1 i1 => by
  obtain ⟨l, xs, rfl, at', j⟩ := in_lst.mp (i1.plain oz)
  rw [ins_ints_inv j] at at'
  exact ⟨l, ns, ns', rfl, at'.sq, h64, hp, hs', fun q hq => k (.ref q) _ (s1.trans (same_new hq)) (in_lst.mpr ⟨q, _, rfl, .inl ⟨upd_same, s1.free hq⟩, ins_ints _⟩)⟩⟩
theorem inV_ints (q : Int) (is : List Int) : inV (.int q) (is.map V.int) = decide (q ∈ is) := by
 unfold inV
 rw [List.any_map, Bool.eq_iff_iff, any_eq_true, decide_eq_true_iff]
 constructor
 . rintro ⟨z, hz, h⟩
   have : q = z \/ z = q := by
    first
     | exact .inl (by simpa [Function.comp, eqV] using h)
     | exact .inr (by simpa [Function.comp, eqV] using h)
   rcases this with rfl | rfl <;> exact hz
 . intro h
   exact ⟨q, h, by simp [Function.comp, eqV]⟩
theorem t_notInI {is : List Int} {q : Int} (ha : E X m1 ρ a (.int q)) (hb : E X m2 ρ b (.lst (is.map D.int))) (hm : behindInMarks .NotIn b = false := by rfl) : T X ρ (.Compare a [.NotIn] [b] pos) (!decide (q ∈ is)) :=
 t_cmp op_notIn_seq ha hb (fun x y H Z Q _ i1 i2 k => by
  obtain ⟨l, xs, rfl, at', j⟩ := in_lst.mp i2
  cases in_int.mp i1
  rw [ins_ints_inv j] at at'
  refine ⟨l, _, rfl, .inl at'.sq, rfl, by simp [flatV], ?_⟩
  simp only [if_true]
  rw [inV_ints]
  exact k _ (Same.refl H)) hm
end
def intL (L : List Nat) : List Int := L.map fun n : Nat => (n : Int)
theorem intL_mem {L : List Nat} {n : Nat} : ((n : Int) ∈ intL L) ↔ n ∈ L := by
 unfold intL
 rw [mem_map]
 constructor
 . rintro ⟨a, h, e⟩
   have : a = n := by omega
   subst this; exact h
 . exact fun h => ⟨n, h, rfl⟩
theorem natsD_ints (L : List Nat) : natsD L = .lst ((intL L).map D.int) := by unfold natsD intL; rw [map_map]; rfl
def oneT (p : Pt) (row : List Str) (L : List Nat) (i : Nat) : Bool := decide (((i : Int) - 1) ∈ intL L) && fitsB p (row.getD (i - 1) "")
def uptT (k : Nat) (L : List Nat) (i : Nat) : Bool := L.any fun a : Nat => decide (0 <= (i : Int) - (a : Int)) && decide ((i : Int) - (a : Int) <= (k : Int))
mutual
def oPt (row : List Str) : Pt -> List Nat -> List Nat
 | .word w, L => (List.range (row.length + 1)).filter (oneT (.word w) row L)
 | .beg w, L => (List.range (row.length + 1)).filter (oneT (.beg w) row L)
 | .fin w, L => (List.range (row.length + 1)).filter (oneT (.fin w) row L)
 | .any, L => (List.range (row.length + 1)).filter (oneT .any row L)
 | .upto k, L => (List.range (row.length + 1)).filter (uptT k L)
 | .inn q, L => oQ row q L []
def oPs (row : List Str) : List Pt -> List Nat -> List Nat
 | [], L => L
 | p :: ps, L => oPs row ps (oPt row p L)
def oQ (row : List Str) : List (List Pt) -> List Nat -> List Nat -> List Nat
 | [], _, acc => acc
 | ps :: q, L, acc => oQ row q L (acc ++ (oPs row ps L).filter fun t : Nat => !decide ((t : Int) ∈ intL acc))
end
theorem oPt_one {p : Pt} (h : isOne p) (row : List Str) (L : List Nat) : oPt row p L = (List.range (row.length + 1)).filter (oneT p row L) := by
 cases p <;> first | (unfold oPt; rfl) | exact False.elim h
theorem oPs_snoc (row : List Str) (p : Pt) : ∀ (ps : List Pt) (L : List Nat), oPs row (ps ++ [p]) L = oPt row p (oPs row ps L)
 | [], L => by simp [oPs]
 | a :: ps, L => by
  show oPs row (a :: (ps ++ [p])) L = _
  unfold oPs
  exact oPs_snoc row p ps _
theorem oQ_snoc (row : List Str) (ps : List Pt) : ∀ (q : List (List Pt)) (L acc : List Nat), oQ row (q ++ [ps]) L acc = oQ row q L acc ++ (oPs row ps L).filter fun t : Nat => !decide ((t : Int) ∈ intL (oQ row q L acc))
 | [], L, acc => by rw [List.nil_append, oQ, oQ, oQ]
 | a :: q, L, acc => by
  show oQ row (a :: (q ++ [ps])) L acc = _
  rw [oQ, oQ]
  exact oQ_snoc row ps q L _
structure Rep (n x : Nat) (L : List Nat) : Prop where
 nd : L.Nodup
 mem : ∀ i, i ∈ L ↔ i < n /\ x.testBit i = true
theorem numsF_nodup (n x : Nat) : (numsF n x).Nodup := (List.nodup_range).filter _
theorem Rep.perm {n x : Nat} {L : List Nat} (h : Rep n x L) : (numsF n x).Perm L := (List.perm_ext_iff_of_nodup (numsF_nodup n x) h.nd).mpr fun i => by rw [numsF_mem, h.mem]
theorem Rep.len {n x : Nat} {L : List Nat} (h : Rep n x L) : L.length <= n := by rw [<- h.perm.length_eq]; exact numsF_len n x
theorem rep_filter {n y : Nat} {f : Nat -> Bool} (h : ∀ i, i < n -> (f i = true ↔ y.testBit i = true)) : Rep n y ((List.range n).filter f) :=
 ⟨(List.nodup_range).filter _, fun i => by
  rw [mem_filter, List.mem_range]
  constructor
  . rintro ⟨a, b⟩; exact ⟨a, (h i a).mp b⟩
  . rintro ⟨a, b⟩; exact ⟨a, (h i a).mpr b⟩⟩
theorem rep_one_word {p : Pt} (hp : isOne p) {row : List Str} {x : Nat} {L : List Nat} (h : Rep (row.length + 1) x L) : Rep (row.length + 1) (mPt row p x) (oPt row p L) := by
 rw [oPt_one hp]
 refine rep_filter fun i hi => ?_
 rw [bit_one hp row x i hi]
 unfold oneT
 rw [Bool.and_eq_true, decide_eq_true_iff]
 constructor
 . rintro ⟨a, b⟩
   unfold intL at a
   obtain ⟨j, hj, e⟩ := mem_map.mp a
   have ej : j = i - 1 := by omega
   subst ej
   exact ⟨by omega, ((h.mem _).mp hj).2, b⟩
 . rintro ⟨a, b, c⟩
   refine ⟨?_, c⟩
   rw [show ((i : Int) - 1) = ((i - 1 : Nat) : Int) by omega, intL_mem, h.mem]
   exact ⟨by omega, b⟩
theorem rep_upto (k : Nat) {row : List Str} {x : Nat} {L : List Nat} (h : Rep (row.length + 1) x L) : Rep (row.length + 1) (mPt row (.upto k) x) (oPt row (.upto k) L) := by
 unfold oPt
 refine rep_filter fun i hi => ?_
 rw [bit_upto k row x i hi]
 unfold uptT
 rw [any_eq_true, any_eq_true]
 constructor
 . rintro ⟨a, ha, b⟩; exact ⟨a, h.perm.mem_iff.mpr ha, b⟩
 . rintro ⟨a, ha, b⟩; exact ⟨a, h.perm.mem_iff.mp ha, b⟩
section
variable {row : List Str}
mutual
theorem rep_pt : ∀ (p : Pt) {x : Nat} {L : List Nat}, Rep (row.length + 1) x L -> Rep (row.length + 1) (mPt row p x) (oPt row p L)
 | .word w, _, _, h => rep_one_word (p := .word w) trivial h
 | .beg w, _, _, h => rep_one_word (p := .beg w) trivial h
 | .fin w, _, _, h => rep_one_word (p := .fin w) trivial h
 | .any, _, _, h => rep_one_word (p := .any) trivial h
 | .upto k, _, _, h => rep_upto k h
 | .inn q, x, L, h => by
  unfold mPt oPt
  have := rep_q q (y := 0) (acc := []) h ⟨List.nodup_nil, fun i => by simp⟩
  rwa [Nat.zero_or] at this
theorem rep_ps : ∀ (ps : List Pt) {x : Nat} {L : List Nat}, Rep (row.length + 1) x L -> Rep (row.length + 1) (mPs row ps x) (oPs row ps L)
 | [], _, _, h => by unfold mPs oPs; exact h
 | p :: ps, _, _, h => by unfold mPs oPs; exact rep_ps ps (rep_pt p h)
theorem rep_q : ∀ (q : List (List Pt)) {x y : Nat} {L acc : List Nat}, Rep (row.length + 1) x L -> Rep (row.length + 1) y acc -> Rep (row.length + 1) (y ||| mQ row q x) (oQ row q L acc)
 | [], x, y, L, acc, h, ha => by unfold mQ oQ; rw [Nat.or_zero]; exact ha
 | ps :: q, x, y, L, acc, h, ha => by
  unfold mQ oQ
  rw [<- Nat.or_assoc]
  refine rep_q q h ?_
  have hp := rep_ps ps h
  refine ⟨?_, fun i => ?_⟩
  . refine List.nodup_append.mpr ⟨ha.nd, hp.nd.filter _, fun a h1 b h2 e => ?_⟩
    subst e
    obtain ⟨_, h3⟩ := mem_filter.mp h2
    simp [intL_mem] at h3
    exact h3 h1
  . rw [mem_append, mem_filter, ha.mem, hp.mem, Nat.testBit_or, Bool.or_eq_true, Bool.not_eq_true', decide_eq_false_iff_not, intL_mem, ha.mem]
    constructor
    . rintro (⟨a, b⟩ | ⟨⟨a, b⟩, _⟩)
      . exact ⟨a, .inl b⟩
      . exact ⟨a, .inr b⟩
    . rintro ⟨a, b⟩
      by_cases q : y.testBit i = true
      . exact .inl ⟨a, q⟩
      . exact .inr ⟨⟨a, b.resolve_left q⟩, fun z => q z.2⟩
end
end
theorem rep_start {n a : Nat} (h : a < n) : Rep n (1 <<< a) [a] := by
 rw [<- numsF_one h]
 exact ⟨numsF_nodup _ _, fun i => numsF_mem⟩
theorem numsF_up (n x : Nat) : (intL (numsF n x)).Pairwise (· <= ·) := by
 unfold intL
 rw [List.pairwise_map]
 have h : (numsF n x).Pairwise (· < ·) := List.Pairwise.filter _ List.pairwise_lt_range
 exact h.imp fun h => by omega
theorem intL_perm {a b : List Nat} (h : a.Perm b) : (intL a).Perm (intL b) := h.map _
mutual
def ptSm : Pt -> Prop
 | .word w => w.length <= 1000
 | .beg w => w.length <= 1000
 | .fin w => w.length <= 1000
 | .any => True
 | .upto _ => True
 | .inn q => qSm q
def psSm : List Pt -> Prop
 | [] => True
 | p :: ps => ptSm p /\ psSm ps
def qSm : List (List Pt) -> Prop
 | [] => True
 | ps :: q => psSm ps /\ qSm q
end
theorem psSm_mem : ∀ {ps : List Pt}, psSm ps -> ∀ p ∈ ps, ptSm p
 | [], _, p, hp => by simp at hp
 | a :: ps, h, p, hp => by
  unfold psSm at h
  rcases mem_cons.mp hp with rfl | hp
  . exact h.1
  . exact psSm_mem h.2 p hp
theorem qSm_mem : ∀ {q : List (List Pt)}, qSm q -> ∀ ps ∈ q, psSm ps
 | [], _, p, hp => by simp at hp
 | a :: q, h, p, hp => by
  unfold qSm at h
  rcases mem_cons.mp hp with rfl | hp
  . exact h.1
  . exact qSm_mem h.2 p hp
theorem psSm_of : ∀ {ps : List Pt}, (∀ p ∈ ps, ptSm p) -> psSm ps
 | [], _ => by unfold psSm; trivial
 | a :: ps, h => by
  unfold psSm
  exact ⟨h a mem_cons_self, psSm_of fun p hp => h p (mem_cons_of_mem _ hp)⟩
theorem qSm_of : ∀ {q : List (List Pt)}, (∀ ps ∈ q, psSm ps) -> qSm q
 | [], _ => by unfold qSm; trivial
 | a :: q, h => by
  unfold qSm
  exact ⟨h a mem_cons_self, qSm_of fun p hp => h p (mem_cons_of_mem _ hp)⟩
theorem sm_small {p : Pt} (h : ptSm p) : smallP p := by
 cases p <;> first | trivial | (unfold ptSm at h; exact h)
theorem small_sm {m : Nat} {p : Pt} (h : plainP m p) : ptSm p := by
 cases p with
 | inn q =>
  rcases h.1 with z | ⟨_, z, _⟩
  . exact False.elim z
  . cases z
 | word w => unfold ptSm; exact h.2
 | beg w => unfold ptSm; exact h.2
 | fin w => unfold ptSm; exact h.2
 | any => unfold ptSm; trivial
 | upto n => unfold ptSm; trivial
theorem psSm_one {p : Pt} (h : ptSm p) : psSm [p] := psSm_of fun q hq => by simp at hq; subst hq; exact h
theorem qStep_sm {ws : List Str} (h : wordsOk ws) {q : List (List Pt)} (hne : ∃ init last, q = init ++ [last]) (hq : qSm q) (c : Int) : qSm (qStep ws q c) := by
 obtain ⟨init, last, e⟩ := hne
 have hdl : q.dropLast = init := by rw [e]; simp
 have hgl : q.getLast?.getD [] = last := by rw [e]; simp
 have pl : ∀ c', ptSm (pp ws c') := fun c' => small_sm (pp_plain h c')
 unfold qStep
 split
 . refine qSm_of fun ps hps => ?_
   rcases mem_append.mp hps with hps | hps
   . exact qSm_mem hq ps hps
   . simp at hps; subst hps; exact psSm_one (pl c)
 split
 . refine qSm_of fun ps hps => ?_
   simp at hps; subst hps
   refine psSm_of fun p hp => ?_
   simp at hp
   rcases hp with rfl | rfl
   . unfold ptSm; exact hq
   . exact pl c
 rw [hdl, hgl]
 split
 . refine qSm_of fun ps hps => ?_
   rcases mem_append.mp hps with hps | hps
   . exact qSm_mem hq ps (by rw [e]; simp [hps])
   . simp at hps; subst hps
     refine psSm_of fun p hp => ?_
     rcases mem_append.mp hp with hp | hp
     . exact psSm_mem (qSm_mem hq last (by rw [e]; simp)) p hp
     . simp at hp; subst hp
       unfold ptSm
       refine qSm_of fun ps hps => ?_
       simp at hps
       rcases hps with rfl | rfl
       . exact psSm_one (pl c)
       . exact psSm_one (pl _)
 . refine qSm_of fun ps hps => ?_
   rcases mem_append.mp hps with hps | hps
   . exact qSm_mem hq ps (by rw [e]; simp [hps])
   . simp at hps; subst hps
     refine psSm_of fun p hp => ?_
     rcases mem_append.mp hp with hp | hp
     . exact psSm_mem (qSm_mem hq last (by rw [e]; simp)) p hp
     . simp at hp; subst hp; exact pl c
theorem questL_sm {ws : List Str} (h : wordsOk ws) (c0 : Int) (cells : List Int) : qSm (questL ws c0 cells) := by
 refine snoc_ind (p := fun cells => qSm (questL ws c0 cells)) ?_ (fun l c ih => ?_) cells
 . exact qSm_of fun ps hps => by simp [questL] at hps; subst hps; exact psSm_one (small_sm (pp_plain h c0))
 . rw [questL_snoc]
   exact qStep_sm h (questL_inv h c0 l).ne ih c
def gOneOnR (k : Nat) (ds : List D) (d : D) : Prop := ∃ (p : Pt) (row : List Str) (L : List Nat) (x : Nat), ptOk p k /\ ptSm p /\ Rep (row.length + 1) x L /\ row.length <= 13 /\ (∀ z ∈ row, z.length <= 1000) /\ ds = [ptD p, strsD row, natsD L] /\ d = natsD (oPt row p L)
def gAllOn (k : Nat) (ds : List D) (d : D) : Prop := ∃ (q : List (List Pt)) (row : List Str) (L : List Nat) (x : Nat), qOk q k /\ qSm q /\ Rep (row.length + 1) x L /\ row.length <= 13 /\ (∀ z ∈ row, z.length <= 1000) /\ ds = [questD q, strsD row, natsD L] /\ d = natsD (oQ row q L [])
def gPlainSpans (k : Nat) (ds : List D) (d : D) : Prop := ∃ (q : List (List Pt)) (row : List Str), qOk q k /\ qSm q /\ row.length <= 13 /\ (∀ z ∈ row, z.length <= 1000) /\ ds = [questD q, strsD row] /\ d = plsD (spansL row q)
end Y
namespace L2
open PySem PySem.Spec PyProof.Rows
end L2
namespace Y
open PySem PySem.Spec PyProof.Rows L2
variable [Tabs]
theorem big20000 : 20000 <= sizeLine := by decide
structure KD (K : Frag) (P : Program) (w : World) (a : Addr) (kvs : List (List Key × Int)) : Prop where
 ex : ∃ (es : Array DictEntry) (ep : Nat) (xs : List (List Key × Addr × Value)), K.lookup a = some ⟨.type "dict", none, .dict es ep, #[]⟩ /\ es.toList = xs.map (entryOfKey (tupleKind (mixKind P w))) /\
  (∀ x ∈ xs, ∃ o items n, K.lookup x.2.1 = some o /\ o.cls = .type "tuple" /\ o.data = .seq items n /\ ItemsAre (mixKind P w) x.1 items.toList) /\ (xs.map (·.1)).Nodup /\ Paired (fun p x => p.1 = x.1 /\ ∃ t, x.2.2 = .int p.2 t) kvs xs
def valI (kvs : List (List Key × Int)) (k : List Key) : Option Int := (kvs.find? fun kv => decide (kv.1 = k)).map (·.2)
section
variable {X : Cx} {pins : List (Addr × Obj)} {σ : St} {H : Hp} {s : Shared} {a b : Addr} {kvs : List (List Key × Int)}
theorem KD.at (I : Inv X pins σ H s) (kd : KD X.K X.prog X.w a kvs) : ∃ xs, s.heap.DictOfH (tupleKind (mixKind X.prog X.w)) a xs /\ Paired (fun p x => p.1 = x.1 /\ ∃ t, x.2.2 = .int p.2 t) kvs xs := by
 obtain ⟨es, ep, xs, h1, h2, h3, h4, h5⟩ := kd.ex
 refine ⟨xs, ⟨_, es, ep, I.kIn a _ h1, ⟨rfl, rfl, rfl⟩, rfl, h2, fun x hx => ?_, h4⟩, h5⟩
 obtain ⟨o, items, n, g1, g2, g3, g4⟩ := h3 x hx
 exact ⟨o, items, n, I.kIn _ o g1, g2, g3, g4⟩
theorem kd_find {xs : List (List Key × Addr × Value)} (q : Paired (fun p x => p.1 = x.1 /\ ∃ t, x.2.2 = .int p.2 t) kvs xs) {k : List Key} {v : Int} (h : valI kvs k = some v) : ∃ p t, atKey xs k = some p /\ p.2 = .int v t := by
 induction q with
 | nil => cases h
 | @cons p x ps xs' r t ih =>
  obtain ⟨e1, t0, e2⟩ := r
  by_cases hk : p.1 = k
  . have hv : p.2 = v := by
     have : valI (p :: ps) k = some p.2 := by simp [valI, find?_cons, hk]
     rw [this] at h
     exact Option.some.inj h
    refine ⟨x.2, t0, ?_, by rw [e2, hv]⟩
    simp [atKey, find?_cons, <- e1, hk]
  . have hr : valI (p :: ps) k = valI ps k := by simp [valI, find?_cons, hk]
    rw [hr] at h
    obtain ⟨p', t', g1, g2⟩ := ih h
    refine ⟨p', t', ?_, g2⟩
    have hx : ¬ x.1 = k := by rw [<- e1]; exact hk
    rw [<- g1]
    simp [atKey, find?_cons, hx]
theorem tup_key {ks : List Key} {Z : Zone} {y : V} {u : Value} (I : Inv X pins σ H s) (i : In X.K H Z (.tup (ks.map kD)) y) (r : RelV y u) : ∃ b, u = .ref b /\ (tupleKind (mixKind X.prog X.w)).is s.heap ks b := by
 obtain ⟨b, xs, rfl, eb, j⟩ := in_tup.mp i
 rw [ins_kD j] at eb
 exact ⟨b, r, key_of I.hok eb⟩
variable {ρ : List (Option D)} {m m1 m2 m3 : Bool} {e f i o : Expr} {d : D} {pos p p2 ap cp : Pos} {x : Str}
theorem e_kdsub {ks : List Key} {v : Int} (hm : X.mg x = some (.ref a)) (kd : KD X.K X.prog X.w a kvs) (hi : E X m1 ρ i (.tup (ks.map kD))) (hv : valI kvs ks = some v) (hu : X.A.units + 1 < cLine) (hg : Gl X x := by rfl) (hd : (x == ("__debug__" : Str)) = false := by decide) (hs : NoSl i := by intro _ _; rfl) :
 E X true ρ (.Subscript (.Name x p) i pos) (.int v) := by
 intro pins s σ H Q I ⟨Z, oz, en, k⟩
 refine subD_of PySem.F.slot_dict_getitem.lookup hs (thn (pe_glob (X := X) (v := .ref a) hg hm rfl hd pins s σ H (fun x H1 => x = .ref a /\ H1 = H) I ⟨rfl, rfl⟩) fun u s1 ⟨x, H1, I1, rx, ex, eh⟩ => ?_)
 subst ex eh
 obtain rfl : u = Value.ref a := rx
 refine thn (hi pins s1 σ H1 (fun y H2 => Same H1 H2 /\ In X.K H2 Z (.tup (ks.map kD)) y) I1 ⟨Z, oz, en, fun y H2 s2 i2 => ⟨s2, i2.plain oz⟩⟩) fun iv s2 ⟨y, H2, I2, ry, sm, iy⟩ => ?_
 obtain ⟨xs, dd, q⟩ := kd.at I2
 obtain ⟨pr, t, g1, g2⟩ := kd_find q hv
 obtain ⟨b, rfl, hk⟩ := tup_key I2 iy ry
 refine ⟨dd.typeIs, wpAny_getItem_heap (tupleKind_room_in1 hu) hk dd g1 ?_⟩
 rw [g2]
 exact ⟨.int v, H2, I2.tok _, ⟨t, rfl⟩, k _ H2 sm (in_int.mpr rfl)⟩
theorem e_gint {j : Int} {t : Tok} (hm : X.mg x = some (.int j t)) (hg : Gl X x := by rfl) (hd : (x == ("__debug__" : Str)) = false := by decide) : E X true ρ (.Name x pos) (.int j) :=
 PE.mono (pe_glob (v := .int j) hg hm ⟨t, rfl⟩ hd) fun σ H Q z0 => el13 z0 fun Z oz en k => k _ _ (Same.refl H) (in_int.mpr rfl)
theorem e_abs {j : Int} (ha : E X m1 ρ e (.int j)) (hm : X.mg "abs" = none) (hg : Gl X "abs" := by rfl) (hs : starEach [e] X.env = [(false, eval e X.env)] := by rfl) : E X true ρ (.Call (.Name "abs" p) [e] [] pos) (.int (if j < 0 then -j else j)) :=
 PE.mono (pe_callB call_abs hg hm boot_abs (pa_cons ha pa_nil (by rw [hs]; rfl)) (by decide) (by decide) (by rw [hs]; rfl) rfl) fun σ H Q z0 => el13 z0 fun Z oz en k => ⟨Z, oz, en, fun x H1 s1 i1 => ⟨j, by rw [in_int.mp (i1.plain oz)], k _ H1 s1 (in_int.mpr rfl)⟩⟩
theorem op_inD : OpR X (compareOp .In) (fun x y H Q => ∃ ds d Z Z', In X.K H Z d x /\ In X.K H Z' (.lst ds) y /\ X.A.units + 1 + deps ds < cLine /\ Q (.bl (ds.any fun e => deq e d)) H) := by
 intro pins s σ H x y v u Q I rx ry h
 obtain ⟨ds, d, Z, Z', ix, iy, hu, q⟩ := h
 obtain ⟨p, xs, rfl, at', j⟩ := in_lst.mp iy
 cases ry
 obtain ⟨its, r, pl, hz⟩ := I.list at'.sq
 have hl1 := j.length
 have hl2 := r.length
 classical
 let e : Value -> Bool := fun u => if h : ∃ e', ∃ w, RelV w u /\ In X.K H Z' e' w then deq h.choose d else false
 have key : ∀ (i : Nat) u, its[i]? = some u -> ∃ e', ds[i]? = some e' /\ e u = deq e' d /\ ∃ w, RelV w u /\ In X.K H Z' e' w := fun i u hi => by
  have hlt := (List.getElem?_eq_some_iff.mp hi).1
  have hd : ds[i]? = some ds[i] := by simp
  obtain ⟨w, ew, iw⟩ := j.get hd
  obtain ⟨u', eu, ru⟩ := r.get ew
  rw [hi] at eu
  cases eu
  have hex : ∃ e', ∃ w, RelV w u /\ In X.K H Z' e' w := ⟨_, w, ru, iw⟩
  refine ⟨ds[i], hd, ?_, w, ru, iw⟩
  show (if h : ∃ e', ∃ w, RelV w u /\ In X.K H Z' e' w then deq h.choose d else false) = _
  rw [dif_pos hex]
  obtain ⟨w', rw', iw'⟩ := hex.choose_spec
  have ew' : w' = w := rw'.inj ru
  subst ew'
  rw [In.inj I iw' iw]
 refine SeqAt.in_listAt e pl.isList (fun u hu' => ?_) ⟨.bl _, H, I, rfl, ?_⟩
 . obtain ⟨i, hi, ei⟩ := List.mem_iff_getElem.mp (by simpa using hu' : u ∈ its)
   obtain ⟨e', hd, he, w, rw', iw⟩ := key i u (by rw [<- ei]; simp [hi])
   rw [he]
   exact eqAt_D I (deps ds) (A := X.A.in1) iw ix rw' rx (deps_mem (mem_of_getElem? hd)) hu
 . have : its.toArray.any e = ds.any fun e => deq e d := by
    rw [Bool.eq_iff_iff]
    simp only [List.any_toArray, any_eq_true]
    constructor
    . rintro ⟨u, hu', h⟩
      obtain ⟨i, hi, ei⟩ := List.mem_iff_getElem.mp hu'
      obtain ⟨e', hd, he, _⟩ := key i u (by rw [<- ei]; simp [hi])
      exact ⟨e', mem_of_getElem? hd, by rw [<- he]; exact h⟩
    . rintro ⟨e', he', h⟩
      obtain ⟨i, hi, ei⟩ := List.mem_iff_getElem.mp he'
      have hit : i < its.length := by omega
      obtain ⟨e2, hd, he, _⟩ := key i its[i] (by simp [hit])
      have : e2 = e' := by
       have t : ds[i]? = some e' := by rw [<- ei]; simp [hi]
       rw [hd] at t
       exact Option.some.inj t
      subst this
      exact ⟨its[i], getElem_mem hit, by rw [he]; exact h⟩
   rw [this]
   exact q
end
open AutoSeq1 in
theorem extend_any (l : Addr) (xs : Array Value) (n : Nat) (b : Addr) (ys : Array Value) (m : Nat) (sl : Array (Option Value)) (hc0 : ¬(!xs.isEmpty && Builtin.List.listTooLong (xs.size + ys.size)) = true) (hc1 : xs.size <= sizeLine) (hs2 : xs.size + ys.size <= sizeLine + 1) :
 Meets (Builtin.«list.extend» ⟨[.ref l, .ref b], []⟩) (fun _ R s => s.heap.get? l = some ⟨.type "list", none, .seq xs n, #[]⟩ /\ s.heap.get? b = some ⟨.type "list", none, .seq ys m, sl⟩ /\ R (.ok (.ret Value.none)) { s with heap := s.heap.update l (Obj.mapSeq fun x => x ++ ys), toks := s.toks }) :=
 .of_wp fun prog w A R s h => by
  obtain ⟨hp, g, d, tk, os⟩ := s
  obtain ⟨hl, hb, h⟩ := h
  have f1 := F.sub_list_list
  have f2 := F.sub_list_tuple
  have hz' : (xs ++ ys).size <= sizeLine + 1 := by rw [Array.size_append]; exact hs2
  wp_walk using (wpAny_updateSeq hl rfl (hz := hc1) (_hz' := hz')), wpAny_loadPart' hl, wpAny_loadPart' hb
  exact ⟨_, rfl, h⟩
def rExtS (K : Frag) : V -> List V -> Hp -> VK -> Prop := fun x vs H Q => ∃ l b xs zs, x = .ref l /\ vs = [.ref b] /\ H l = some (.lst xs) /\ SqL K H b zs /\ xs.length + zs.length <= sizeLine /\ Q .non (upd H l (.lst (xs ++ zs)))
section
variable {X : Cx}
theorem mt_extS : MtR X "list.extend" (rExtS X.K) := by
 intro pins s σ H x vs v us Q I rx rv h
 obtain ⟨l, b, xs, zs, rfl, rfl, hH, hB, hz, q⟩ := h
 cases rx
 obtain ⟨u, rfl, ru⟩ := rv.one
 cases ru
 obtain ⟨z, its, n, r, hl, e⟩ := I.lstM hH
 obtain ⟨its2, r2, ⟨⟨cls, dd, data, sl⟩, n2, e2, hc, hdn, hda⟩, z2⟩ := I.list hB
 have hc' : cls = .type "list" := hc
 have hd' : dd = none := hdn
 have ha' : data = .seq its2.toArray n2 := hda
 subst hc' hd' ha'
 have l1 := r.length
 have l2 := r2.length
 have hsz : its.toArray.size + its2.toArray.size <= sizeLine := by rw [size_toArray, size_toArray]; omega
 have hlong : ¬ (!its.toArray.isEmpty && Builtin.List.listTooLong (its.toArray.size + its2.toArray.size)) = true := by
  rw [notLongL hsz, Bool.and_false]
  exact Bool.false_ne_true
 refine call_meets F.slot_list_extend ⟨_, e, rfl⟩ F.entry_list_extend (F.args_list_extend_2 _ _) (extend_any l its.toArray n b its2.toArray n2 sl hlong (by rw [size_toArray]; omega) (by omega)) ⟨e, e2, ?_⟩
 refine ⟨.non, _, I.lset (its' := its ++ its2) hH e (by simp) (r.append r2) ?_, rfl, q⟩
 rw [List.length_append]
 omega
end
section
variable {X : Cx} {F : Fn} {ρ : Rho} {Q : EndD} {rest : List Stmt} {e : Expr} {d : D} {pos p : Pos} {fr m1 : Bool}
theorem sd_extendS (i : Nat) {x : Str} {ap cp : Pos} {ds es : List D} (fr : Bool) (h : ρ[i]? = some (some (.ow fr ds)) := by rfl) (he : E X m1 (view true false ρ) e (.lst es)) (fl : flats es = true) (hz : ds.length + es.length <= sizeLine) (hr : SD X F rest (ρ.set i (some (.ow fr (ds ++ es)))) Q)
 (hN : X.N[i]? = some x := by rfl) (hv : Vis X.env.scope x := by first | exact Or.inl rfl | exact Or.inr (Or.inl rfl) | exact Or.inr (Or.inr rfl)) (hd : (x == ("__debug__" : Str)) = false := by decide) (hcd : (x == ("__classdict__" : Str)) = false := by decide)
 (hbase : attributeBase (.Name x p) "extend" X.env (eval (.Name x p) X.env) = eval (.Name x p) X.env := by rfl) (hline : (ap.endLine == cp.line) = true := by rfl)
 (hs : starEach [e] X.env = [(false, eval e X.env)] := by rfl) (hsw : swapsWith (.Call (.Attribute (.Name x p) "extend" ap) [e] [] cp) none pos.line X.env = pure false := by rfl) :
 SD X F (.Expr (.Call (.Attribute (.Name x p) "extend" ap) [e] [] cp) pos :: rest) ρ Q := by
 refine sd_then (PS.mono (ps_expr (pe_bm PySem.F.plainAttrs_list PySem.F.slot_list_extend PySem.F.type_list_extend mt_extS (pe_var hN hv hd hcd) (pa_cons he pa_nil (by rw [hs]; rfl)) hbase (by rw [hs]; rfl) hline (by rw [hs]; rfl) rfl) hsw) ?_) hr
 rintro Q' σ H ⟨hv, hρ, A, hl, S, f⟩
 obtain ⟨l, xs, e1, e2, e3, j⟩ := S.ow hl h
 refine ⟨.ref l, e1, .inl ⟨rfl, xs, SqL.of e3⟩, _, vz_open S true false, S.env hl true false, fun v H1 s1 i1 => ?_⟩
 obtain ⟨b, zs, rfl, at', j2⟩ := in_lst.mp i1
 refine ⟨l, b, xs, zs, rfl, rfl, s1.at e3, at'.sq, by rw [<- j.length, <- j2.length]; exact hz, f.nx _ _ (put_ow hl (S.grow s1) e1 e2 (s1.at e3) ((j.same s1).append (j2.flat' fl)))⟩
end
theorem paired_get {α β : Type} {R : α -> β -> Prop} {l : List α} {r : List β} (h : Paired R l r) : ∀ {i : Nat} {x : α}, l[i]? = some x -> ∃ y, r[i]? = some y /\ R x y := by
 induction h with
 | nil => intro i x e; simp at e
 | cons a t ih =>
  intro i x e
  cases i with
  | zero => simp at e; subst e; exact ⟨_, rfl, a⟩
  | succ i => simpa using ih (by simpa using e)
theorem paired_of {α β : Type} {R : α -> β -> Prop} : ∀ {l : List α} {r : List β}, l.length = r.length -> (∀ (i : Nat) x y, l[i]? = some x -> r[i]? = some y -> R x y) -> Paired R l r
 | [], [], _, _ => .nil
 | a :: l, b :: r, e, h => .cons (h 0 a b rfl rfl) (paired_of (by simpa using e) fun i x y p q => h (i + 1) x y (by simpa using p) (by simpa using q))
 | [], _ :: _, e, _ => by simp at e
 | _ :: _, [], e, _ => by simp at e
section
variable {X : Cx} {F : Fn} {ρ : Rho} {Q : EndD} {rest : List Stmt} {e : Expr} {d : D} {pos p : Pos} {m1 : Bool}
theorem sd_append2A (i : Nat) {x : Str} {ap cp sp : Pos} {ix : Expr} {mi : Bool} {dss : List (List D)} {ds : List D} (j : Nat) (fr : Bool) {d : D} (h : ρ[i]? = some (some (.ow2 fr dss)) := by rfl) (hix : E X mi (view true false ρ) ix (.int (j : Nat))) (hj : dss[j]? = some ds) (he : E X m1 (view true false ρ) e d) (fl : d.flat = true) (hz : ds.length < 1000)
 (hr : SD X F rest (ρ.set i (some (.ow2 fr (dss.set j (ds ++ [d]))))) Q)
 (hN : X.N[i]? = some x := by rfl) (hv : Vis X.env.scope x := by first | exact Or.inl rfl | exact Or.inr (Or.inl rfl) | exact Or.inr (Or.inr rfl)) (hd : (x == ("__debug__" : Str)) = false := by decide) (hcd : (x == ("__classdict__" : Str)) = false := by decide)
 (hpi : PlainIx ix := by intro _ _; rfl) (hbase : attributeBase (.Subscript (.Name x p) ix sp) "append" X.env (eval (.Subscript (.Name x p) ix sp) X.env) = eval (.Subscript (.Name x p) ix sp) X.env := by rfl)
 (hline : (ap.endLine == cp.line) = true := by rfl)
 (hs : starEach [e] X.env = [(false, eval e X.env)] := by rfl) (hsw : swapsWith (.Call (.Attribute (.Subscript (.Name x p) ix sp) "append" ap) [e] [] cp) none pos.line X.env = pure false := by rfl) :
 SD X F (.Expr (.Call (.Attribute (.Subscript (.Name x p) ix sp) "append" ap) [e] [] cp) pos :: rest) ρ Q := by
 refine sd_then (PS.mono (ps_expr (pe_bm PySem.F.plainAttrs_list PySem.F.slot_list_append PySem.F.type_list_append mt_append (pe_ix ix_list (pe_var hN hv hd hcd) hix hpi) (pa_cons he pa_nil (by rw [hs]; rfl)) hbase (by rw [hs]; rfl) hline (by rw [hs]; rfl) rfl) hsw) ?_) hr
 rintro Q' σ H ⟨hv, hρ, A, hl, S, f⟩
 obtain ⟨l, as, e1, e2, e3, jr⟩ := S.ow2 hl h
 have hi : i < σ.length := (List.getElem?_eq_some_iff.mp e1).1
 obtain ⟨a, ga, xs, ea, ja⟩ := paired_get jr hj
 have hnd := S.nd i
 rw [e2] at hnd
 have hma : a ∈ as := mem_of_getElem? ga
 have hal : a ≠ l := fun z => (nodup_cons.mp hnd).1 (z ▸ hma)
 refine ⟨.ref l, e1, _, vz_open S true false, S.env hl true false, fun y H1 s1 i1 => ⟨l, _, (j : Nat), .ref a, rfl, in_int.mp (i1.plain (vz_open S true false)), SqL.of (s1.at e3), ?_, .inl ⟨rfl, xs, SqL.of (s1.at ea)⟩, _, (vz_open S true false).same s1, (S.env hl true false).same s1, fun w H2 s2 i2 => ?_⟩⟩
 . exact atI_nat (by rw [getElem?_map, ga]; rfl)
 . have s12 := s1.trans s2
   have S2 := S.grow s12
   have hlen : xs.length < sizeLine := by rw [<- ja.length]; exact small1000 (by omega)
   refine ⟨a, xs, w, rfl, rfl, s12.at ea, hlen, f.nx _ _ ?_⟩
   have aA : a ∈ A i := by rw [e2]; simp [hma]
   have kk : ∀ b o, H2 b = some o -> isT o = false -> b ∉ A i -> (upd H2 a (.lst (xs ++ [w]))) b = some o := fun b o e n hb => by
    have : b ≠ a := fun z => hb (z ▸ aA)
    rw [upd_ne this]; exact e
   have mine : ∀ b ∈ l :: as, b ∈ A i \/ H2 b = none := fun b hb => .inl (by rw [e2]; exact hb)
   refine ⟨_, putA A i (l :: as), by simp [hl], ?_, rfl⟩
   have key := S2.re (i := i) (v := .ref l) (sl := .ow2 fr (dss.set j (ds ++ [d]))) (l := l :: as) (H2 := upd H2 a (.lst (xs ++ [w]))) (by rw [List.length_append]; omega) (by rw [List.length_append]; omega) (S2.same.write (S2.new i a aA) (s12.at ea)) kk hnd (fun b hb => ⟨mine b hb, ?_⟩) ⟨l, as, rfl, rfl, ?_, ?_⟩
   . rw [set_self (by rw [getElem?_append_left hi]; exact e1), set_app (by omega)] at key
     exact key
   . by_cases z : b = a
     . exact ⟨.l _, by rw [z, upd_same]; rfl⟩
     . rw [upd_ne z]
       exact S2.lst i b (by rw [e2]; exact hb)
   . rw [upd_ne (Ne.symm hal)]; exact s12.at e3
   . have c := carry_re S2 kk mine fr
     have sqt : ∀ b (ys : List V), H2 b = some (.tup ys) -> (upd H2 a (.lst (xs ++ [w]))) b = some (.tup ys) := c.t
     refine paired_of (by rw [List.length_set]; exact jr.length) fun k es b g1 g2 => ?_
     by_cases hk : k = j
     . subst hk
       rw [ga] at g2
       cases g2
       have hlt : k < dss.length := (List.getElem?_eq_some_iff.mp hj).1
       rw [List.getElem?_set_self hlt] at g1
       cases g1
       exact ⟨xs ++ [w], upd_same, Ins.append ((ja.same s12).carry c) (Ins.one (In.flat sqt fl i2))⟩
     . rw [List.getElem?_set_ne (Ne.symm hk)] at g1
       obtain ⟨b', g3, zs, eb, jb⟩ := paired_get jr g1
       rw [g2] at g3
       cases g3
       have hba : b ≠ a := fun z => by
        subst z
        obtain ⟨h1, e1'⟩ := List.getElem?_eq_some_iff.mp g2
        obtain ⟨h2, e2'⟩ := List.getElem?_eq_some_iff.mp ga
        have nd2 := List.nodup_iff_pairwise_ne.mp (nodup_cons.mp hnd).2
        rcases Nat.lt_or_gt_of_ne hk with q | q
        . exact List.pairwise_iff_getElem.mp nd2 k j h1 h2 q (e1'.trans e2'.symm)
        . exact List.pairwise_iff_getElem.mp nd2 j k h2 h1 q (e2'.trans e1'.symm)
       exact ⟨zs, by rw [upd_ne hba]; exact s12.at eb, (jb.same s12).carry c⟩
end
def prD (p : Str × Str) : D := .tup [.str p.1, .str p.2]
def prsD (ps : List (Str × Str)) : D := .lst (ps.map prD)
def prK (p : Str × Str) : List Key := [.inr p.1, .inr p.2]
theorem prD_key (p : Str × Str) : prD p = .tup ((prK p).map kD) := rfl
theorem prK_inj {p q : Str × Str} (h : prK p = prK q) : p = q := by
 unfold prK at h
 injection h with h1 h
 injection h with h2 h
 injection h1 with h1
 injection h2 with h2
 exact Prod.ext h1 h2
def pairedK (ps : List (Str × Str)) : List (List Key × V) := ps.foldl (fun kvs p => putK kvs (prK p) (V.bl true)) []
theorem pairedK_snoc (ps : List (Str × Str)) (p : Str × Str) : pairedK (ps ++ [p]) = putK (pairedK ps) (prK p) (V.bl true) := by
 unfold pairedK
 rw [List.foldl_append]
 rfl
theorem snocI {α : Type} {P : List α -> Prop} (h0 : P []) (h1 : ∀ l a, P l -> P (l ++ [a])) (l : List α) : P l := by
 have : ∀ r : List α, P r.reverse := fun r => by
  induction r with
  | nil => exact h0
  | cons a r ih => rw [List.reverse_cons]; exact h1 _ _ ih
 simpa using this l.reverse
theorem pairedK_len (ps : List (Str × Str)) : (pairedK ps).length <= ps.length := by
 refine snocI (P := fun ps => (pairedK ps).length <= ps.length) (Nat.le_refl _) (fun l a ih => ?_) ps
 rw [pairedK_snoc, List.length_append]
 have := length_putK (pairedK l) (prK a) (V.bl true)
 simp
 omega
theorem pairedK_val (ps : List (Str × Str)) (q : Str × Str) : valV (pairedK ps) (prK q) = if q ∈ ps then some (V.bl true) else none := by
 refine snocI (P := fun ps => valV (pairedK ps) (prK q) = if q ∈ ps then some (V.bl true) else none) (by simp [pairedK, valV]) (fun l a ih => ?_) ps
 rw [pairedK_snoc, valV_put, ih]
 by_cases h : prK q = prK a
 . rw [if_pos h, prK_inj h]
   simp
 . have hne : q ≠ a := fun e => h (by rw [e])
   rw [if_neg h]
   simp [hne]
def gByPair (ds : List D) (d : D) : Prop := ∃ ps : List (Str × Str), ps.length <= 900 /\ ds = [prsD ps] /\ d = .dct (.t (pairedK ps))
def gWordsOf (ds : List D) (d : D) : Prop := ∃ rows : List (List Str), tot rows <= 900 /\ ds = [rowsD rows] /\ d = strsD rows.flatten
theorem flatten_len (rows : List (List Str)) : rows.flatten.length = tot rows := by rw [List.length_flatten]; rfl
def goL (ps : List (Str × Str)) (rs : List Str) (w : Str) : Bool := rs.any fun r => decide ((w, r) ∈ ps)
def goR (ps : List (Str × Str)) (ls : List Str) (w : Str) : Bool := ls.any fun l => decide ((l, w) ∈ ps)
def loneN (ls rs : List Str) (ps : List (Str × Str)) : Nat := (ls.filter fun w => !goL ps rs w).length + (rs.filter fun w => !goR ps ls w).length
def metK (f : Str × Str -> Str) (ps done : List (Str × Str)) : List (Key × V) := done.foldl (fun k p => if p ∈ ps then putK k (.inr (f p)) (V.bl true) else k) []
theorem metK_snoc (f : Str × Str -> Str) (ps done : List (Str × Str)) (p : Str × Str) : metK f ps (done ++ [p]) = if p ∈ ps then putK (metK f ps done) (.inr (f p)) (V.bl true) else metK f ps done := by
 unfold metK
 rw [List.foldl_append]
 rfl
theorem metK_len (f : Str × Str -> Str) (ps done : List (Str × Str)) : (metK f ps done).length <= done.length := by
 refine snocI (P := fun done => (metK f ps done).length <= done.length) (Nat.le_refl _) (fun l a ih => ?_) done
 rw [metK_snoc, List.length_append]
 split
 . have := length_putK (metK f ps l) (.inr (f a)) (V.bl true)
   simp
   omega
 . simp
   omega
theorem metK_val (f : Str × Str -> Str) (ps done : List (Str × Str)) (w : Str) : (valV (metK f ps done) (.inr w)).isSome = done.any fun p => decide (p ∈ ps) && decide (f p = w) := by
 refine snocI (P := fun done => (valV (metK f ps done) (.inr w)).isSome = done.any fun p => decide (p ∈ ps) && decide (f p = w)) (by simp [metK, valV]) (fun l a ih => ?_) done
 rw [metK_snoc, List.any_append, <- ih]
 by_cases h : a ∈ ps
 . rw [if_pos h, valV_put]
   by_cases e : f a = w
   . rw [if_pos (by rw [e])]
     simp [h, e]
   . rw [if_neg (fun z => e (by injection z with z; exact z.symm))]
     simp [h, e]
 . rw [if_neg h]
   simp [h]
def doneP (ls rs : List Str) : List (Str × Str) := ls.flatMap fun l => rs.map fun r => (l, r)
theorem doneP_snoc (ls rs : List Str) (l : Str) : doneP (ls ++ [l]) rs = doneP ls rs ++ rs.map fun r => (l, r) := by
 unfold doneP
 rw [List.flatMap_append]
 simp
theorem doneP_len : ∀ (ls rs : List Str), (doneP ls rs).length = ls.length * rs.length
 | [], rs => by simp [doneP]
 | l :: ls, rs => by
  have ih := doneP_len ls rs
  unfold doneP at ih ⊢
  rw [List.flatMap_cons, List.length_append, ih, length_map, length_cons, Nat.succ_mul]
  omega
theorem done_goL (ls rs : List Str) (ps : List (Str × Str)) {w : Str} (hw : w ∈ ls) : ((doneP ls rs).any fun p => decide (p ∈ ps) && decide (p.1 = w)) = goL ps rs w := by
 rw [Bool.eq_iff_iff]
 unfold doneP goL
 simp only [any_eq_true, List.mem_flatMap, mem_map, Bool.and_eq_true, decide_eq_true_eq]
 constructor
 . rintro ⟨p, ⟨l, hl, r, hr, rfl⟩, h1, rfl⟩
   exact ⟨r, hr, h1⟩
 . rintro ⟨r, hr, h⟩
   exact ⟨(w, r), ⟨w, hw, r, hr, rfl⟩, h, rfl⟩
theorem done_goR (ls rs : List Str) (ps : List (Str × Str)) {w : Str} (hw : w ∈ rs) : ((doneP ls rs).any fun p => decide (p ∈ ps) && decide (p.2 = w)) = goR ps ls w := by
 rw [Bool.eq_iff_iff]
 unfold doneP goR
 simp only [any_eq_true, List.mem_flatMap, mem_map, Bool.and_eq_true, decide_eq_true_eq]
 constructor
 . rintro ⟨p, ⟨l, hl, r, hr, rfl⟩, h1, rfl⟩
   exact ⟨l, hl, h1⟩
 . rintro ⟨l, hl, h⟩
   exact ⟨(l, w), ⟨l, hl, w, hw, rfl⟩, h, rfl⟩
def gLone (ds : List D) (d : D) : Prop := ∃ (ls rs : List Str) (ps : List (Str × Str)), ls.length <= 100 /\ rs.length <= 100 /\ ps.length <= 900 /\ ds = [strsD ls, strsD rs, .dct (.t (pairedK ps))] /\ d = .int (loneN ls rs ps : Nat)
def stepsL : List (Nat × Nat) := [(1, 1), (1, 2), (2, 1), (1, 0), (0, 1)]
def stepsK : List (List Key × Int) := [([.inl 1, .inl 1], 0), ([.inl 1, .inl 2], 1), ([.inl 2, .inl 1], 1), ([.inl 1, .inl 0], 2), ([.inl 0, .inl 1], 2)]
def stepNo (a b : Nat) : Nat := if a = 1 /\ b = 1 then 0 else if 0 < a /\ 0 < b then 1 else 2
theorem stepsK_val {a b : Nat} (h : (a, b) ∈ stepsL) : valI stepsK [.inl (a : Int), .inl (b : Int)] = some ((stepNo a b : Nat) : Int) := by
 simp only [stepsL, mem_cons, Prod.mk.injEq, not_mem_nil, or_false] at h
 rcases h with ⟨rfl, rfl⟩ | ⟨rfl, rfl⟩ | ⟨rfl, rfl⟩ | ⟨rfl, rfl⟩ | ⟨rfl, rfl⟩ <;> decide
theorem stepNo_lt (a b : Nat) : stepNo a b < 3 := by
 unfold stepNo
 split
 . decide
 split <;> decide
def intsT (ns : List Int) : D := .tup (ns.map D.int)
def dist (a b : Nat) : Int := if ((a : Int) - (b : Int)) < 0 then -((a : Int) - (b : Int)) else (a : Int) - (b : Int)
def stepP (ls rs : List (List Str)) (prices : List Int) (ps : List (Str × Str)) : Int := prices.getD (stepNo ls.length rs.length) 0 + prices.getD 3 0 * dist ls.flatten.length rs.flatten.length + prices.getD 4 0 * (loneN ls.flatten rs.flatten ps : Nat)
def PrOk (ls rs : List (List Str)) (prices : List Int) (ps : List (Str × Str)) : Prop := tot ls <= 100 /\ tot rs <= 100 /\ prices.length = 5 /\ ps.length <= 900 /\ (ls.length, rs.length) ∈ stepsL
def gStepPrice (ds : List D) (d : D) : Prop := ∃ (ls rs : List (List Str)) (prices : List Int) (ps : List (Str × Str)), PrOk ls rs prices ps /\ ds = [rowsD ls, rowsD rs, intsT prices, .dct (.t (pairedK ps))] /\ d = .int (stepP ls rs prices ps)
theorem loneN_le (ls rs : List Str) (ps : List (Str × Str)) : loneN ls rs ps <= ls.length + rs.length := by
 have h1 := length_filter_le (fun w => !goL ps rs w) ls
 have h2 := length_filter_le (fun w => !goR ps ls w) rs
 unfold loneN
 omega
theorem dist_lt {a b : Nat} (ha : a <= 100) (hb : b <= 100) : -(2 ^ 64 : Int) < dist a b /\ dist a b < 2 ^ 64 := by
 unfold dist
 split <;> constructor <;> omega
theorem ints_get {ns : List Int} {n : Nat} (h : n < ns.length) : (ns.map D.int)[n]? = some (.int (ns.getD n 0)) := by simp [h]
theorem kd_steps {K : Frag} {P : Program} {w : World} {aS : Addr} {ep : Nat} {h1 : Int} {b1 : Addr} {t1 u1 v1 : Tok} {o1 : Option Addr} {n1 : Nat} {s1 : Array (Option Value)} {h2 : Int} {b2 : Addr} {t2 u2 v2 : Tok} {o2 : Option Addr} {n2 : Nat} {s2 : Array (Option Value)} {h3 : Int} {b3 : Addr} {t3 u3 v3 : Tok} {o3 : Option Addr} {n3 : Nat} {s3 : Array (Option Value)} {h4 : Int} {b4 : Addr} {t4 u4 v4 : Tok} {o4 : Option Addr} {n4 : Nat} {s4 : Array (Option Value)} {h5 : Int} {b5 : Addr} {t5 u5 v5 : Tok} {o5 : Option Addr} {n5 : Nat} {s5 : Array (Option Value)}
 (sd : K.lookup aS = some ⟨.type "dict", none, .dict #[⟨h1, .ref b1, .int 0 t1⟩, ⟨h2, .ref b2, .int 1 t2⟩, ⟨h3, .ref b3, .int 1 t3⟩, ⟨h4, .ref b4, .int 2 t4⟩, ⟨h5, .ref b5, .int 2 t5⟩] ep, #[]⟩)
 (q1 : K.lookup b1 = some ⟨.type "tuple", o1, .seq #[.int 1 u1, .int 1 v1] n1, s1⟩) (e1 : h1 = tupleKeyHash (mixKind P w) [.inl 1, .inl 1])
 (q2 : K.lookup b2 = some ⟨.type "tuple", o2, .seq #[.int 1 u2, .int 2 v2] n2, s2⟩) (e2 : h2 = tupleKeyHash (mixKind P w) [.inl 1, .inl 2])
 (q3 : K.lookup b3 = some ⟨.type "tuple", o3, .seq #[.int 2 u3, .int 1 v3] n3, s3⟩) (e3 : h3 = tupleKeyHash (mixKind P w) [.inl 2, .inl 1])
 (q4 : K.lookup b4 = some ⟨.type "tuple", o4, .seq #[.int 1 u4, .int 0 v4] n4, s4⟩) (e4 : h4 = tupleKeyHash (mixKind P w) [.inl 1, .inl 0])
 (q5 : K.lookup b5 = some ⟨.type "tuple", o5, .seq #[.int 0 u5, .int 1 v5] n5, s5⟩) (e5 : h5 = tupleKeyHash (mixKind P w) [.inl 0, .inl 1]) : KD K P w aS stepsK := by
 subst e1 e2 e3 e4 e5
 refine ⟨_, _, [([.inl 1, .inl 1], b1, .int 0 t1), ([.inl 1, .inl 2], b2, .int 1 t2), ([.inl 2, .inl 1], b3, .int 1 t3), ([.inl 1, .inl 0], b4, .int 2 t4), ([.inl 0, .inl 1], b5, .int 2 t5)], sd, rfl, fun x hx => ?_, by simp, .cons ⟨rfl, _, rfl⟩ (.cons ⟨rfl, _, rfl⟩ (.cons ⟨rfl, _, rfl⟩ (.cons ⟨rfl, _, rfl⟩ (.cons ⟨rfl, _, rfl⟩ .nil))))⟩
 simp only [mem_cons, not_mem_nil, or_false] at hx
 rcases hx with rfl | rfl | rfl | rfl | rfl
 . exact ⟨_, _, _, q1, rfl, rfl, items_are (ks := [.inl 1, .inl 1]) (.cons ⟨_, rfl⟩ (.cons ⟨_, rfl⟩ .nil))⟩
 . exact ⟨_, _, _, q2, rfl, rfl, items_are (ks := [.inl 1, .inl 2]) (.cons ⟨_, rfl⟩ (.cons ⟨_, rfl⟩ .nil))⟩
 . exact ⟨_, _, _, q3, rfl, rfl, items_are (ks := [.inl 2, .inl 1]) (.cons ⟨_, rfl⟩ (.cons ⟨_, rfl⟩ .nil))⟩
 . exact ⟨_, _, _, q4, rfl, rfl, items_are (ks := [.inl 1, .inl 0]) (.cons ⟨_, rfl⟩ (.cons ⟨_, rfl⟩ .nil))⟩
 . exact ⟨_, _, _, q5, rfl, rfl, items_are (ks := [.inl 0, .inl 1]) (.cons ⟨_, rfl⟩ (.cons ⟨_, rfl⟩ .nil))⟩
theorem tot_take_le (R : List (List Str)) (n : Nat) : tot (R.take n) <= tot R := by
 have h := tot_append (R.take n) (R.drop n)
 rw [take_append_drop] at h
 omega
theorem tot_drop_le (R : List (List Str)) (n : Nat) : tot (R.drop n) <= tot R := by
 have h := tot_append (R.take n) (R.drop n)
 rw [take_append_drop] at h
 omega
def pairsL (ws vs : List Str) (c : Int) : List (Str × Str) := (List.range (part c 42 9).toNat).map fun k => (ws.getD (part c (43 + ((k : Nat) : Int)) 4).toNat "", vs.getD (part c (53 + ((k : Nat) : Int)) 4).toNat "")
theorem pairsL_len (ws vs : List Str) (c : Int) : (pairsL ws vs c).length <= 9 := by
 unfold pairsL
 rw [length_map, length_range]
 have := part_lt c 42 (show (0 : Int) < 9 by decide)
 omega
def gPairs (ds : List D) (d : D) : Prop := ∃ (ws vs : List Str) (c : Int), ws.length = 4 /\ vs.length = 4 /\ ds = [strsD ws, strsD vs, .int c] /\ d = prsD (pairsL ws vs c)
def pricesL (c : Int) : List Int := if 0 < part c 41 3 then (List.range 5).map fun k => part c (44 + ((k : Nat) : Int)) 6 else [c % (10 ^ 60 + 1), c % (10 ^ 60 + 1) / 3, c % (10 ^ 60 + 1) / 7, c % (10 ^ 60 + 1) / 11, c % (10 ^ 60 + 1) % 13]
theorem pricesL_len (c : Int) : (pricesL c).length = 5 := by
 unfold pricesL
 split
 . rw [length_map, length_range]
 . rfl
def gPrices (ds : List D) (d : D) : Prop := ∃ c : Int, ds = [.int c] /\ d = intsT (pricesL c)
section
variable {X : Cx}
theorem call_any : CallR X (.builtin "any") (fun xs H Q => X.A.handled = none /\ ∃ (l : Addr) (bs : List Bool), xs = [.ref l] /\ SqL X.K H l (bs.map V.bl) /\ Q (.bl (bs.any id)) H) := by
 intro pins s σ H xs us Q I r h
 obtain ⟨hh, l, bs, rfl, hl, q⟩ := h
 obtain ⟨u, rfl, ru⟩ := vals1 r
 cases ru
 obtain ⟨its, rv, pl, hz⟩ := I.list hl
 have hget : ∀ (i : Nat) (v : Value), its.toArray[i]? = some v -> v = Value.bool (bs.getD i false) := fun i v e => by
  have e' : its[i]? = some v := by simpa using e
  have hi : i < its.length := (List.getElem?_eq_some_iff.mp e').1
  have hlen := rv.length
  simp at hlen
  obtain ⟨w', h1, h2⟩ := rv.get (i := i) (x := .bl bs[i]) (by simp)
  rw [e'] at h1
  cases h1
  have h2 : v = .bool bs[i] := h2
  have hb : i < bs.length := by omega
  rw [h2]
  simp [hb]
 refine call_any_walk (wpAny_pyIter_list pl.isList ?_)
 obtain ⟨o, n, ho, hc, hd, hs⟩ := id pl
 refine ⟨s.heap.objs.size, _, _, _, _, _, fun i => bs.getD i false, rfl, Walks.list (A := X.A.in1) hh s.heap.objs.size l (Nat.ne_of_lt (lt_size ho)) its.toArray, ⟨⟨_, get?_push_size _ rfl, rfl, rfl⟩, ⟨o, get?_push_of_some _ ho, hc, n, hs⟩⟩, ?_, fun h' tk hk => ?_⟩
 . intro i v s' Q' E' hP hQ
   rw [hget i v hP]
   exact wpAny_truthy_bool hQ
 . refine ⟨.bl (bs.any id), H, I.kept (h' := h') (t' := tk) (fun b ob e => hk b ob (by simp; exact Nat.ne_of_lt (lt_size e)) (get?_push_of_some _ e)), ?_, q⟩
   show Value.bool _ = Value.bool _
   congr 1
   have hlen := rv.length
   simp at hlen
   rw [size_toArray, <- hlen]
   rw [Bool.eq_iff_iff, any_eq_true, any_eq_true]
   constructor
   . rintro ⟨i, hi, hq⟩
     have hi' : i < bs.length := by simpa using hi
     refine ⟨bs[i], getElem_mem hi', ?_⟩
     simpa [hi'] using hq
   . rintro ⟨b, hb, hq⟩
     obtain ⟨i, hi, e⟩ := List.mem_iff_getElem.mp hb
     refine ⟨i, by simpa using hi, ?_⟩
     simp [hi, e]
     exact hq
variable {ρ : List (Option D)} {m1 : Bool} {a : Expr} {p pos : Pos}
theorem e_any {bs : List Bool} (ha : E X m1 ρ a (.lst (bs.map D.bl))) (hh : X.A.handled = none) (hm : X.mg "any" = none) (hg : Gl X "any" := by rfl) (hs : starEach [a] X.env = [(false, eval a X.env)] := by rfl) : E X true ρ (.Call (.Name "any" p) [a] [] pos) (.bl (bs.any id)) :=
 PE.mono (pe_callB call_any hg hm boot_any (pa_cons ha pa_nil (by rw [hs]; rfl)) (by decide) (by decide) (by rw [hs]; rfl) rfl) fun σ H Q z0 => el13 z0 fun Z oz en k => ⟨Z, oz, en, fun x H1 s1 i1 => by
  obtain ⟨l, xs, rfl, at', j⟩ := in_lst.mp (i1.plain oz)
  rw [ins_bls_inv j] at at'
  exact ⟨hh, l, bs, rfl, at'.sq, k _ H1 s1 (in_bl.mpr rfl)⟩⟩
end
def WayIn (m o : Nat) : Nat -> Nat -> List (Nat × Nat) -> Prop
 | i, j, [] => i <= m /\ j <= o
 | i, j, s :: r => i + s.1 <= m /\ j + s.2 <= o /\ WayIn m o (i + s.1) (j + s.2) r
def sum1 (st : List (Nat × Nat)) : Nat := (st.map (·.1)).sum
def sum2 (st : List (Nat × Nat)) : Nat := (st.map (·.2)).sum
def natsR (i a : Nat) : List Nat := (List.range a).map fun t => i + t
def linksL : Nat -> Nat -> List (Nat × Nat) -> List (List Nat × List Nat)
 | _, _, [] => []
 | i, j, s :: r => (natsR i s.1, natsR j s.2) :: linksL (i + s.1) (j + s.2) r
def lkD (p : List Nat × List Nat) : D := .tup [natsD p.1, natsD p.2]
theorem linksL_snoc : ∀ (st : List (Nat × Nat)) (i j : Nat) (s : Nat × Nat), linksL i j (st ++ [s]) = linksL i j st ++ [(natsR (i + sum1 st) s.1, natsR (j + sum2 st) s.2)]
 | [], i, j, s => by simp [linksL, sum1, sum2]
 | t :: st, i, j, s => by
  have := linksL_snoc st (i + t.1) (j + t.2) s
  simp only [cons_append, linksL, this]
  simp [sum1, sum2, Nat.add_assoc]
theorem linksL_len : ∀ (st : List (Nat × Nat)) (i j : Nat), (linksL i j st).length = st.length
 | [], _, _ => rfl
 | t :: st, i, j => by simp [linksL, linksL_len st]
def trD (t : Nat × Nat × Nat) : D := .tup [.int (t.1 : Nat), .int (t.2.1 : Nat), .int (t.2.2 : Nat)]
def trsD (ts : List (Nat × Nat × Nat)) : D := .lst (ts.map trD)
def besS (ls rs : List (List Str)) (one other : List (List Pt)) (i j : Nat) (s : Nat × Nat) : List (Nat × Nat × Nat) :=
 if (natsR j s.2).any (fun r => decide (spansL (rs.getD r []) other ≠ [])) then (natsR i s.1).flatMap fun l => (spansL (ls.getD l []) one).map fun p => (l, p.1, p.2) else []
def besL (ls rs : List (List Str)) (one other : List (List Pt)) : Nat -> Nat -> List (Nat × Nat) -> List (Nat × Nat × Nat)
 | _, _, [] => []
 | i, j, s :: r => besS ls rs one other i j s ++ besL ls rs one other (i + s.1) (j + s.2) r
theorem besL_snoc (ls rs : List (List Str)) (one other : List (List Pt)) : ∀ (st : List (Nat × Nat)) (i j : Nat) (s : Nat × Nat), besL ls rs one other i j (st ++ [s]) = besL ls rs one other i j st ++ besS ls rs one other (i + sum1 st) (j + sum2 st) s
 | [], i, j, s => by simp [besL, sum1, sum2]
 | t :: st, i, j, s => by
  have := besL_snoc ls rs one other st (i + t.1) (j + t.2) s
  simp only [cons_append, besL, this, List.append_assoc]
  simp [sum1, sum2, Nat.add_assoc]
section
variable {X : Cx}
theorem call_range2 : CallR X (.type "range") (fun xs H Q => ∃ i j, xs = [.int i, .int j] /\ ∀ r, H r = none -> Q (.ref r) (upd H r (.rng i j))) := by
 intro pins s σ H xs us Q I r h
 obtain ⟨i, j, rfl, q⟩ := h
 cases r with
 | cons r rr =>
  cases rr with
  | cons r' rr =>
   cases rr
   obtain ⟨t, rfl⟩ := r
   obtain ⟨t', rfl⟩ := r'
   refine call_range_2 ⟨.ref s.heap.objs.size, _, I.laid (o := .rng i j) (fun b o e => get?_push_of_some _ e) (Nat.le_refl _) ⟨_, _, _, get?_push_size _ rfl⟩, rfl, q _ (I.hok.fresh (Nat.le_refl _))⟩
theorem vals_of_items {lo : Int} {n : Nat} {acc : Array Value} (h : ItemsOf (fun i v => ∃ t, v = .int (lo + i * 1) t) acc n) : Vals ((List.range n).map fun k => V.int (lo + ((k : Nat) : Int))) acc.toList := by
 refine paired_of (by rw [length_map, length_range, Array.length_toList]; exact h.1.symm) fun i x v e1 e2 => ?_
 rw [getElem?_map] at e1
 cases q : (List.range n)[i]? with
 | none => rw [q] at e1; cases e1
 | some k =>
  rw [q] at e1
  cases e1
  obtain ⟨hi, e⟩ := List.getElem?_eq_some_iff.mp q
  rw [List.getElem_range] at e
  subst e
  obtain ⟨t, rfl⟩ := h.2 i v (by simpa using e2)
  exact ⟨t, by rw [Int.mul_one]⟩
theorem call_list_rng : CallR X (.type "list") (fun xs H Q => X.A.handled = none /\ ∃ r lo hi, xs = [.ref r] /\ H r = some (.rng lo hi) /\ -(2 ^ 62) <= lo /\ lo < 2 ^ 62 /\ -(2 ^ 62) <= hi /\ hi < 2 ^ 62 /\ (hi - lo).toNat <= 1000 /\ ∀ l, H l = none -> Q (.ref l) (upd H l (.lst ((List.range (hi - lo).toNat).map fun k => V.int (lo + ((k : Nat) : Int)))))) := by
 intro pins s σ H xs us Q I r h
 obtain ⟨hh, p, lo, hi, rfl, hp, h1, h2, h3, h4, hn, q⟩ := h
 obtain ⟨u, rfl, rx⟩ := vals1 r
 cases rx
 obtain ⟨t, u, v, e⟩ := (show ∃ t u v, s.heap.get? p = some { cls := .type "range", data := .fields #[.int lo t, .int hi u, .int 1 v] } from I.hok p _ hp)
 refine call_list_range (n := (hi - lo).toNat) hh e (small_one h1 h2 h3 h4) (by rw [rangeSize_one]; split <;> omega) (Nat.le_trans hn (by decide)) fun h' tk acc c' hk hl hi' => ?_
 have rv := vals_of_items hi'
 refine ⟨.ref s.heap.objs.size, _, I.laid hk (Nat.le_refl _) (show ObjOk X.prog X.w _ h' _ (.lst _) from ⟨?_, acc.toList, c', rv, ?_⟩), rfl, q _ (I.hok.fresh (Nat.le_refl _))⟩
 . rw [length_map, length_range]
   exact Nat.le_of_lt (small1000 hn)
 . rw [hl]
variable {ρ : List (Option D)} {m1 m2 : Bool} {a b : Expr} {p p2 pos pos2 : Pos}
theorem e_listR {lo hi : Int} (ha : E X m1 ρ a (.int lo)) (hb : E X m2 ρ b (.int hi)) (hh : X.A.handled = none) (q1 : -(2 ^ 62) <= lo) (q2 : lo < 2 ^ 62) (q3 : -(2 ^ 62) <= hi) (q4 : hi < 2 ^ 62) (qn : (hi - lo).toNat <= 1000) (hmL : X.mg "list" = none) (hmR : X.mg "range" = none) (hgL : Gl X "list" := by rfl) (hgR : Gl X "range" := by rfl)
 (hs : starEach [a, b] X.env = [(false, eval a X.env), (false, eval b X.env)] := by rfl) (hs2 : starEach [b] X.env = [(false, eval b X.env)] := by rfl) (hs3 : starEach [.Call (.Name "range" p2) [a, b] [] pos2] X.env = [(false, eval (.Call (.Name "range" p2) [a, b] [] pos2) X.env)] := by rfl) :
 E X true ρ (.Call (.Name "list" p) [.Call (.Name "range" p2) [a, b] [] pos2] [] pos) (.lst (rangeD lo (hi - lo).toNat)) :=
 PE.mono (pe_callTy call_list_rng hgL hmL boot_list (pa_cons (pe_callTy call_range2 hgR hmR boot_range (pa_cons ha (pa_cons hb pa_nil (by rw [hs2]; rfl)) (by rw [hs, hs2])) (by decide) (by decide) (by rw [hs, hs2]) (by rw [hs2]; rfl)) pa_nil (by rw [hs3]; rfl)) (by decide) (by decide) (by rw [hs3]; rfl) rfl) fun σ H Q z0 => el13 z0 fun Z oz en k => ⟨Z, oz, en, fun x H1 s1 i1 => ⟨Z, oz.same s1, en.same s1, fun y H2 s2 i2 => by
  refine ⟨lo, hi, by rw [in_int.mp (i1.plain oz), in_int.mp (i2.plain (oz.same s1))], fun r hr => ⟨hh, r, lo, hi, rfl, upd_same, q1, q2, q3, q4, qn, fun l hl => ?_⟩⟩
  have sr : Same H2 (upd H2 r (.rng lo hi)) := same_new hr
  have s3 := ((s1.trans s2).trans sr)
  refine k (.ref l) _ (s3.trans (same_new hl)) (in_lst.mpr ⟨l, _, rfl, .inl ⟨upd_same, s3.free hl⟩, ?_⟩)
  unfold rangeD
  refine Ins.of_get (by simp) fun i d v e1 e2 => ?_
  rw [getElem?_map] at e1 e2
  cases q : (List.range (hi - lo).toNat)[i]? with
  | none => rw [q] at e1; cases e1
  | some k' =>
   rw [q] at e1 e2
   cases e1
   cases e2
   exact in_int.mpr rfl⟩⟩
end
def RwOk (rows : List (List Str)) : Prop := rows.length <= 5 /\ tot rows <= 13 /\ ∀ r ∈ rows, ∀ z ∈ r, z.length <= 1000
def QsOk (q : List (List Pt)) : Prop := qOk q 9 /\ qSm q
structure BsOk (ls rs : List (List Str)) (st : List (Nat × Nat)) (one other : List (List Pt)) : Prop where
 l : RwOk ls
 r : RwOk rs
 w : WayIn ls.length rs.length 0 0 st
 n : st.length <= 20
 a : QsOk one
 b : QsOk other
theorem wayIn_at (m o : Nat) : ∀ (st : List (Nat × Nat)) (i j n : Nat) (s : Nat × Nat), WayIn m o i j st -> st[n]? = some s -> i + sum1 (st.take n) + s.1 <= m /\ j + sum2 (st.take n) + s.2 <= o
 | [], _, _, _, _, _, h => by simp at h
 | t :: st, i, j, 0, s, h, e => by
  simp at e
  subst e
  simp [sum1, sum2]
  exact ⟨h.1, h.2.1⟩
 | t :: st, i, j, n + 1, s, h, e => by
  have := wayIn_at m o st _ _ n s h.2.2 (by simpa using e)
  simp [sum1, sum2] at this ⊢
  omega
theorem wayIn_sum (m o : Nat) : ∀ (st : List (Nat × Nat)) (i j : Nat), WayIn m o i j st -> i + sum1 st <= m /\ j + sum2 st <= o
 | [], i, j, h => by
  have h' : i <= m /\ j <= o := h
  simpa [sum1, sum2] using h'
 | t :: st, i, j, h => by
  have := wayIn_sum m o st _ _ h.2.2
  simp [sum1, sum2] at this ⊢
  omega
theorem sum1_snoc (st : List (Nat × Nat)) (s : Nat × Nat) : sum1 (st ++ [s]) = sum1 st + s.1 := by simp [sum1]
theorem sum2_snoc (st : List (Nat × Nat)) (s : Nat × Nat) : sum2 (st ++ [s]) = sum2 st + s.2 := by simp [sum2]
theorem natsR_D (i a : Nat) : D.lst (rangeD ((i : Nat) : Int) a) = natsD (natsR i a) := by
 unfold rangeD natsD natsR
 rw [map_map]
 simp [Function.comp_def]
theorem linksL_get : ∀ (st : List (Nat × Nat)) (i j n : Nat) (s : Nat × Nat), st[n]? = some s -> (linksL i j st)[n]? = some (natsR (i + sum1 (st.take n)) s.1, natsR (j + sum2 (st.take n)) s.2)
 | [], _, _, _, _, h => by simp at h
 | t :: st, i, j, 0, s, e => by
  simp at e
  subst e
  simp [linksL, sum1, sum2]
 | t :: st, i, j, n + 1, s, e => by
  have := linksL_get st (i + t.1) (j + t.2) n s (by simpa using e)
  simp only [linksL, List.getElem?_cons_succ, this]
  simp [sum1, sum2, Nat.add_assoc]
theorem natsR_mem {i a n : Nat} (h : n ∈ natsR i a) : i <= n /\ n < i + a := by
 obtain ⟨t, ht, rfl⟩ := mem_map.mp h
 have := List.mem_range.mp ht
 omega
theorem row_len {rows : List (List Str)} (h : RwOk rows) {n : Nat} (hn : n < rows.length) : (rows.getD n []).length <= 13 /\ ∀ z ∈ rows.getD n [], z.length <= 1000 := by
 have hm : rows.getD n [] ∈ rows := getD_mem hn
 have := row_le_tot hm
 exact ⟨by have := h.2.1; omega, h.2.2 _ hm⟩
theorem dep_trs (ts : List (Nat × Nat × Nat)) : (trsD ts).dep <= 2 := dep_lst fun d hd => by obtain ⟨i, _, rfl⟩ := mem_map.mp hd; simp [trD, D.dep, deps]
theorem besS_len {ls rs : List (List Str)} {one other : List (List Pt)} {i j : Nat} {s : Nat × Nat} (h : RwOk ls) (hs : i + s.1 <= ls.length) : (besS ls rs one other i j s).length <= s.1 * 196 := by
 unfold besS
 split
 . rw [List.length_flatMap]
   have : ∀ l ∈ natsR i s.1, ((spansL (ls.getD l []) one).map fun p => (l, p.1, p.2)).length <= 196 := fun l hl => by
    have hm := natsR_mem hl
    have h13 := (row_len h (show l < ls.length by omega)).1
    rw [length_map]
    exact Nat.le_trans (spansL_len _ _) (Nat.mul_le_mul (by omega) (by omega) : _ <= 14 * 14)
   have hsum : ∀ (L : List Nat), (∀ l ∈ L, ((spansL (ls.getD l []) one).map fun p => (l, p.1, p.2)).length <= 196) -> (L.map fun l => ((spansL (ls.getD l []) one).map fun p => (l, p.1, p.2)).length).sum <= L.length * 196 := fun L => by
    induction L with
    | nil => intro _; simp
    | cons x L ih =>
     intro hL
     have h1 := hL x (by simp)
     have h2 := ih fun l hl => hL l (by simp [hl])
     rw [map_cons, List.sum_cons, length_cons, Nat.succ_mul]
     omega
   have := hsum _ this
   rw [show (natsR i s.1).length = s.1 by simp [natsR]] at this
   exact this
 . simp
theorem besL_len {ls rs : List (List Str)} {one other : List (List Pt)} (h : RwOk ls) (m o : Nat) (hm : m <= ls.length) : ∀ (st : List (Nat × Nat)) (i j : Nat), WayIn m o i j st -> (besL ls rs one other i j st).length <= sum1 st * 196
 | [], _, _, _ => by simp [besL]
 | s :: st, i, j, hw => by
  have h1 := besS_len (rs := rs) (one := one) (other := other) (j := j) h (show i + s.1 <= ls.length by have := hw.1; omega)
  have h2 := besL_len (rs := rs) (one := one) (other := other) h m o hm st _ _ hw.2.2
  have e : sum1 (s :: st) = s.1 + sum1 st := by simp [sum1]
  simp only [besL, List.length_append]
  rw [e, Nat.add_mul]
  omega
theorem sum1_take_le (st : List (Nat × Nat)) (n : Nat) : sum1 (st.take n) <= sum1 st := by
 have h : sum1 (st.take n ++ st.drop n) = sum1 (st.take n) + sum1 (st.drop n) := by simp only [sum1, map_append, List.sum_append]
 rw [take_append_drop] at h
 omega
theorem sum2_take_le (st : List (Nat × Nat)) (n : Nat) : sum2 (st.take n) <= sum2 st := by
 have h : sum2 (st.take n ++ st.drop n) = sum2 (st.take n) + sum2 (st.drop n) := by simp only [sum2, map_append, List.sum_append]
 rw [take_append_drop] at h
 omega
theorem wayIn_take (m o : Nat) : ∀ (st : List (Nat × Nat)) (i j n : Nat), WayIn m o i j st -> WayIn m o i j (st.take n)
 | [], i, j, n, h => by simpa using h
 | t :: st, i, j, 0, h => by
  have h1 := h.1
  have h2 := h.2.1
  exact (⟨by omega, by omega⟩ : i <= m /\ j <= o)
 | t :: st, i, j, n + 1, h => ⟨h.1, h.2.1, wayIn_take m o st _ _ n h.2.2⟩
def tripL (ls : List (List Str)) (one : List (List Pt)) (L : List Nat) : List (Nat × Nat × Nat) := L.flatMap fun l => (spansL (ls.getD l []) one).map fun p => (l, p.1, p.2)
theorem tripL_snoc (ls : List (List Str)) (one : List (List Pt)) (L : List Nat) (l : Nat) : tripL ls one (L ++ [l]) = tripL ls one L ++ (spansL (ls.getD l []) one).map fun p => (l, p.1, p.2) := by
 unfold tripL
 rw [List.flatMap_append]
 simp
theorem natsR_succ (i m : Nat) : natsR i (m + 1) = natsR i m ++ [i + m] := by
 unfold natsR
 rw [range_succ, map_append]
 rfl
theorem tripL_len {ls : List (List Str)} {one : List (List Pt)} (h : RwOk ls) {i m : Nat} (hm : i + m <= ls.length) : (tripL ls one (natsR i m)).length <= m * 196 := by
 induction m with
 | zero => simp [natsR, tripL]
 | succ m ih =>
  have h1 := ih (by omega)
  have h13 := (row_len h (show i + m < ls.length by omega)).1
  have h2 : (spansL (ls.getD (i + m) []) one).length <= 14 * 14 := Nat.le_trans (spansL_len _ _) (Nat.mul_le_mul (by omega) (by omega))
  rw [natsR_succ, tripL_snoc, List.length_append, length_map, Nat.succ_mul]
  omega
end Y
namespace Y
open PySem PySem.Spec PyProof.Rows L2
open AutoSeq1 in
theorem key_next (it d : Addr) (es : Array DictEntry) (i ep : Nat) (dd de : Option Addr) (sl sm : Array (Option Value)) (hi : i < es.size) :
 Meets (Builtin.«dict_keyiterator.__next__» ⟨[.ref it], []⟩) (fun _ R s => s.heap.get? it = some ⟨.type "dict_keyiterator", dd, .fields #[.ref d, .int i 0, .int es.size 0, .int ep 0], sl⟩ /\ s.heap.get? d = some ⟨.type "dict", de, .dict es ep, sm⟩ /\
  R (.ok (.ret es[i].key)) { s with heap := s.heap.update it (Obj.mapFields (·.setIfInBounds 1 (rawInt ((i : Int) + 1)))) }) :=
 .of_wp fun prog w A R s h => by
  obtain ⟨hp, g, dm, tk, os⟩ := s
  obtain ⟨hl, hb, h⟩ := h
  wp_walk using wpAny_loadPart' hl, wpAny_loadPart' hb
  have at_i : (if (i : Int) < 0 then none else es[(i : Int).toNat]?) = some es[i] := by
   rw [if_neg (Int.not_lt.mpr (Int.natCast_nonneg i)), Int.toNat_natCast, Array.getElem?_eq_getElem hi]
  rw [at_i]
  have one : Builtin.Dict_items.ownsTuple ((Manifest.find? "dict_keyiterator").elim "dict_keyiterator" fun x => x.tpName) = false := by kernel_rfl
  have new := Heap.get?_update_self (Obj.mapFields (·.setIfInBounds 1 (rawInt ((i : Int) + 1)))) hl rfl
  wp_walk using wpAny_loadPart' hl
  simp only [one]
  wp_walk using wpAny_setField hl rfl (by decide), wpAny_loadPart' new
  exact ⟨_, rfl, h⟩
open AutoSeq1 in
theorem key_end (it d : Addr) (es : Array DictEntry) (i ep : Nat) (dd de : Option Addr) (sl sm : Array (Option Value)) (hi : es.size <= i) :
 Meets (Builtin.«dict_keyiterator.__next__» ⟨[.ref it], []⟩) (fun A R s => A.handled = none /\ s.heap.get? it = some ⟨.type "dict_keyiterator", dd, .fields #[.ref d, .int i 0, .int es.size 0, .int ep 0], sl⟩ /\ s.heap.get? d = some ⟨.type "dict", de, .dict es ep, sm⟩ /\
  ∀ h' e, Heap.ExtBut it s.heap h' -> (∃ o, h'.get? e = some o /\ o.cls = .type "StopIteration") -> R (.error (.ref e)) { s with heap := h' }) :=
 .of_wp fun prog w A R s h => by
  obtain ⟨hp, g, dm, tk, os⟩ := s
  obtain ⟨hh, hl, hb, h⟩ := h
  wp_walk using wpAny_loadPart' hl, wpAny_loadPart' hb
  have at_i : (if (i : Int) < 0 then none else es[(i : Int).toNat]?) = none := by
   rw [if_neg (Int.not_lt.mpr (Int.natCast_nonneg i)), Int.toNat_natCast, Array.getElem?_eq_none hi]
  have one : Builtin.Dict_items.ownsTuple ((Manifest.find? "dict_keyiterator").elim "dict_keyiterator" fun x => x.tpName) = false := by kernel_rfl
  rw [at_i]
  wp_walk using wpAny_loadPart' hl, wpAny_setField hl rfl
  . rw [one]; exact Nat.zero_lt_succ _
  unfold newExc newTuple raiseNew
  have hh1 : A.in1.handled = none := hh
  wp_walk using wpAny_newObj_type
  . exact h _ _ (((Heap.SameBut.update ..).extBut.push _).push _) ⟨_, get?_push_size _ rfl, rfl⟩
  all_goals size_fits
open AutoSeq1 in
theorem key_iter (d : Addr) (es : Array DictEntry) (ep : Nat) (de : Option Addr) (sm : Array (Option Value)) (hn : (d == sysModules) = false) :
 Meets (Builtin.«dict.__iter__» ⟨[.ref d], []⟩) (fun A R s => s.heap.get? d = some ⟨.type "dict", de, .dict es ep, sm⟩ /\
  R (.ok (.ret (.ref s.heap.objs.size))) { s with heap := s.heap.push { cls := .type "dict_keyiterator", data := .fields #[.ref d, .int 0 0, .int es.size 0, .int ep 0] } }) :=
 .of_wp fun prog w A R s h => by
  obtain ⟨hp, g, dm, tk, os⟩ := s
  obtain ⟨hl, h⟩ := h
  wp_walk using wpAny_loadPart' hl
  exact ⟨_, rfl, h⟩
section
variable {prog : Program} {w : World} {A : Around} {E : Value -> Shared -> Prop} {s : Shared} {it d : Addr} {i ep : Nat} {es : Array DictEntry}
theorem keys_iter {Q : Value -> Shared -> Prop} (hn : (d == sysModules) = false) (ho : s.heap.get? d = some ⟨.type "dict", none, .dict es ep, #[]⟩)
 (q : Q (.ref s.heap.objs.size) { s with heap := s.heap.push { cls := .type "dict_keyiterator", data := .fields #[.ref d, .int 0 0, .int es.size 0, .int ep 0] } }) : wpAny (model prog w) A (pyIter (.ref d)) Q E s :=
 have t : s.TypeIs (.ref d) "dict" := ⟨_, ho, rfl⟩
 wpAny_pyIter_slot t F.slot_dict_iter (call_meets F.slot_dict_iter t F.entry_dict_iter (F.args_dict_iter_1 _) (key_iter d es ep none #[] hn) ⟨ho, "dict_keyiterator", _, ⟨_, get?_push_size _ rfl, rfl⟩, F.slot_dict_keyiterator_next.lookup, q⟩)
theorem keys_item {Q : Option Value -> Shared -> Prop} (st : s.heap.IsKeyIter it d i es.size ep) (ho : s.heap.get? d = some ⟨.type "dict", none, .dict es ep, #[]⟩) (hi : i < es.size)
 (q : ∀ h', h'.IsKeyIter it d (i + 1) es.size ep -> Heap.SameBut it s.heap h' -> Q (some es[i].key) { s with heap := h' }) : wpAny (model prog w) A (pyNext (.ref it)) Q E s := by
 have T := st.typeIs
 obtain ⟨⟨c, dd, dt, sl⟩, hl, hc, hd⟩ := st
 obtain rfl : c = _ := hc
 obtain rfl : dt = _ := hd
 have run := call_meets (E := fun _ _ => False) (Q := fun v s' => v = es[i].key /\ ∃ h', h'.IsKeyIter it d (i + 1) es.size ep /\ Heap.SameBut it s.heap h' /\ s' = { s with heap := h' }) (prog := prog) (w := w) (A := A) F.slot_dict_keyiterator_next T F.entry_dict_keyiterator_next (F.args_dict_keyiterator_next_1 _) (key_next it d es i ep dd none sl #[] hi)
  ⟨hl, ho, rfl, _, ⟨_, Heap.get?_update_self _ hl rfl, rfl, by simp [Obj.mapFields, rawInt]⟩, Heap.SameBut.update .., rfl⟩
 unfold pyNext
 exact wpAny_bind (wpAny_attempt (wpAny_callSpecial?_slot T F.slot_dict_keyiterator_next (wpAny_mono run (fun v s' ⟨e, h', k1, k2, e'⟩ => by subst e e'; exact wpAny_pure (q h' k1 k2)) fun _ _ f => f.elim)))
theorem keys_end {Q : Option Value -> Shared -> Prop} (hh : A.handled = none) (st : s.heap.IsKeyIter it d i es.size ep) (ho : s.heap.get? d = some ⟨.type "dict", none, .dict es ep, #[]⟩) (hi : es.size <= i)
 (q : ∀ h', Heap.ExtBut it s.heap h' -> Q none { s with heap := h' }) : wpAny (model prog w) A (pyNext (.ref it)) Q E s := by
 have T := st.typeIs
 obtain ⟨⟨c, dd, dt, sl⟩, hl, hc, hd⟩ := st
 obtain rfl : c = _ := hc
 obtain rfl : dt = _ := hd
 have run := call_meets (Q := fun _ _ => False) (E := fun x s' => ∃ h' e, x = .ref e /\ Heap.ExtBut it s.heap h' /\ (∃ o, h'.get? e = some o /\ o.cls = .type "StopIteration") /\ s' = { s with heap := h' }) (prog := prog) (w := w) (A := A) F.slot_dict_keyiterator_next T F.entry_dict_keyiterator_next (F.args_dict_keyiterator_next_1 _) (key_end it d es i ep dd none sl #[] hi)
  ⟨hh, hl, ho, fun h' e k1 k2 => ⟨h', e, rfl, k1, k2, rfl⟩⟩
 unfold pyNext
 refine wpAny_bind (wpAny_attempt (wpAny_callSpecial?_slot T F.slot_dict_keyiterator_next (wpAny_mono run (fun _ _ f => f.elim) fun x s' ⟨h', e, ex, k1, ⟨o, k2, k3⟩, es'⟩ => ?_)))
 subst ex es'
 exact wpAny_bind (wpAny_isInstance (b := true) ⟨o, k2, k3⟩ isSubtype_stop (wpAny_pure (q h' k1)))
end
end Y
namespace Y
open PySem PySem.Spec PyProof.Rows L2
variable [Tabs]
structure KI (K : Frag) (a : Addr) (kss : List (List Key)) : Prop where
 ns : (a == sysModules) = false
 ex : ∃ (es : Array DictEntry) (ep : Nat) (bs : List Addr), K.lookup a = some ⟨.type "dict", none, .dict es ep, #[]⟩ /\ es.toList.map (·.key) = bs.map Value.ref /\ Paired (fun ks b => KTup K b ks) kss bs
def Itk (bs : List Addr) : It := ⟨fun i _ => i < bs.length, fun i H x H' => H' = H /\ ∃ b, bs[i]? = some b /\ x = .ref b, fun i _ => bs.length <= i⟩
theorem turn_keys {P : Program} {w : World} {K : Frag} {tg : Expr} (it d : Addr) {es : Array DictEntry} {ep : Nat} {bs : List Addr} (hk : K.lookup d = some ⟨.type "dict", none, .dict es ep, #[]⟩) (he : es.toList.map (·.key) = bs.map Value.ref) :
 Turn P w K tg (Itk bs) [it] it (fun i h => h.IsKeyIter it d i es.size ep) where
 mem := by simp
 obj := fun i h ⟨o, e, c, dt⟩ b hb => by
  obtain rfl : b = it := by simpa using hb
  exact ⟨o, e, fun v z => by rw [dt] at z; cases z⟩
 keep := fun i h h' ⟨o, ho, r⟩ k => ⟨o, k it (by simp) o ho, r⟩
 item := by
  intro X hP hw hK hc i pins s σ H E I hf st hg
  subst hP hw hK
  obtain ⟨f0, f1, f2, f3, f4, f5⟩ := hf it (by simp)
  have hg : i < bs.length := hg
  have hz : es.size = bs.length := by simpa using congrArg List.length he
  have hi : i < es.size := by omega
  have key : es[i].key = .ref bs[i] := by
   have q := congrArg (fun l => l[i]?) he
   simpa [hi, hg] using q
  refine keys_item st (I.kIn d _ hk) hi fun h' st' sb => ?_
  rw [key]
  have I1 : Inv X pins σ H { s with heap := h' } := I.turned (t' := s.toks) (fun b o hb e => (sb.2 b hb).trans e) f0 f1 f3 f4 f5
  obtain ⟨o, e, c, dt⟩ := id st'
  exact ⟨_, rfl, go_of (s := { s with heap := h' }) e c dt (by decide) ⟨.ref bs[i], H, I1, rfl, ⟨rfl, bs[i], by simp [hg], rfl⟩, st', fun b hb => (hf b hb).1⟩⟩
 done := by
  intro X hP hw hK hc i pins s σ H E I hf st hg
  subst hP hw hK
  obtain ⟨f0, f1, f2, f3, f4, f5⟩ := hf it (by simp)
  have hg : bs.length <= i := hg
  have hz : es.size = bs.length := by simpa using congrArg List.length he
  exact keys_end (I.ok.hd hc) st (I.kIn d _ hk) (by omega) fun h' eb => ⟨rfl, I.turned (t' := s.toks) (fun b o hb e => eb b o hb e) f0 f1 f3 f4 f5⟩
 self := fun _ _ _ _ _ st h => wpAny_pyIter_keyiter st h
section
variable {X : Cx} {ρ : List (Option D)} {m m1 : Bool} {e i : Expr} {tg : Expr} {p pos : Pos} {x : Str} {a : Addr} {kss : List (List Key)}
theorem it_keys (hm : X.mg x = some (.ref a)) (ki : KI X.K a kss) (hg : Gl X x := by rfl) (hd : (x == ("__debug__" : Str)) = false := by decide) : IT X tg m ρ (.Name x p) (kss.map D.ktup) := by
 intro pins s σ H R I ⟨Z, oz, en, k⟩
 refine thn (pe_glob (X := X) (v := .ref a) hg hm rfl hd pins s σ H (fun x H1 => x = .ref a /\ H1 = H) I ⟨rfl, rfl⟩) fun u s1 ⟨x, H1, I1, rx, ex, eh⟩ => ?_
 subst ex eh
 obtain rfl : u = Value.ref a := rx
 obtain ⟨es, ep, bs, ho, ek, pr⟩ := ki.ex
 have fp : ∀ b ∈ [s1.heap.objs.size], FpOk X pins H1 b := fun b hb => by
  obtain rfl : b = s1.heap.objs.size := by simpa using hb
  exact I1.fpOk (Nat.le_refl _) (I1.hok.fresh (Nat.le_refl _))
 have len := pr.length
 refine keys_iter ki.ns (I1.kIn a _ ho) ⟨s1.heap.objs.size, [s1.heap.objs.size], _, Itk bs, H1, rfl, I1.kept (t' := s1.toks) fun b o e => get?_push_of_some _ e, turn_keys _ a ho ek, ⟨_, get?_push_size _ rfl, rfl, rfl⟩, fp, k _ H1 [] [] (Same.refl _) (ins_nil.mpr rfl) ⟨fun Z2 H2 o2 j2 i d e => ?_, fun Z2 H2 o2 j2 => ?_⟩⟩
 . obtain ⟨ks, hks, rfl⟩ : ∃ ks, kss[i]? = some ks /\ D.ktup ks = d := by simpa [getElem?_map] using e
   have hi : i < kss.length := (List.getElem?_eq_some_iff.mp hks).1
   refine ⟨show i < bs.length by omega, fun y H3 ⟨e1, b, e2, e3⟩ => ?_⟩
   subst e1 e3
   refine ⟨Same.refl _, in_ktup.mpr ⟨b, rfl, ?_⟩⟩
   clear e k len hi fp ek ki
   induction pr generalizing i with
   | nil => cases hks
   | cons r t ih =>
    cases i with
    | zero => cases hks; cases e2; exact r
    | succ i => exact ih i hks e2 ⟨rfl, b, e2, rfl⟩
 . show bs.length <= (kss.map D.ktup).length
   rw [length_map]; omega
variable {f : Expr} {m2 : Bool}
theorem kV_in {K : Frag} {H : Hp} {Z : Zone} (q : Key) : In K H Z (kD q) (kV q) := by
 cases q with
 | inl n => exact in_int.mpr rfl
 | inr y => exact in_str.mpr rfl
theorem e_ixK {ks : List Key} {q : Key} {n : Int} (ha : E X m ρ e (.ktup ks)) (hb : E X m1 ρ f (.int n)) (h : atI ks n = some q) (hs : PlainIx f := by intro _ _; rfl) : E X m2 ρ (.Subscript e f pos) (kD q) :=
 PE.mono (pe_ix ix_tup ha hb hs) fun σ H Q z0 => el13 z0 fun Z oz en k => ⟨Z, oz, en, fun x H1 s1 i1 => ⟨Z, oz.same s1, en.same s1, fun y H2 s2 i2 => by
  obtain ⟨b, rfl, t⟩ := in_ktup.mp i1
  have got : atI (ks.map kV) n = some (kV q) := by
   unfold L2.atI at h ⊢
   rw [length_map]
   cases w : ixN ks.length n with
   | none => rw [w] at h; cases h
   | some j =>
    rw [w] at h
    have h' : ks[j]? = some q := h
    show (ks.map kV)[j]? = _
    rw [getElem?_map, h']
    rfl
  exact ⟨b, _, n, _, rfl, in_int.mp (i2.plain (oz.same s1)), t.sq, got, k _ H2 (s1.trans s2) (kV_in q)⟩⟩⟩
end
end Y
namespace Y
open PySem PySem.Spec PyProof.Rows L2
def stepsP : List (Nat × Nat) := [(1, 1), (1, 2), (2, 1), (1, 0), (0, 1)]
def keyP (p : Nat × Nat) : List Key := [.inl (p.1 : Int), .inl (p.2 : Int)]
theorem ki_steps {K : Frag} {aS : Addr} {ep : Nat} {h1 h2 h3 h4 h5 : Int} {b1 b2 b3 b4 b5 : Addr} {t1 t2 t3 t4 t5 u1 u2 u3 u4 u5 v1 v2 v3 v4 v5 : Tok} {o1 o2 o3 o4 o5 : Option Addr} {n1 n2 n3 n4 n5 : Nat} {s1 s2 s3 s4 s5 : Array (Option Value)}
 (ns : (aS == sysModules) = false) (sd : K.lookup aS = some ⟨.type "dict", none, .dict #[⟨h1, .ref b1, .int 0 t1⟩, ⟨h2, .ref b2, .int 1 t2⟩, ⟨h3, .ref b3, .int 1 t3⟩, ⟨h4, .ref b4, .int 2 t4⟩, ⟨h5, .ref b5, .int 2 t5⟩] ep, #[]⟩)
 (q1 : K.lookup b1 = some ⟨.type "tuple", o1, .seq #[.int 1 u1, .int 1 v1] n1, s1⟩) (q2 : K.lookup b2 = some ⟨.type "tuple", o2, .seq #[.int 1 u2, .int 2 v2] n2, s2⟩) (q3 : K.lookup b3 = some ⟨.type "tuple", o3, .seq #[.int 2 u3, .int 1 v3] n3, s3⟩)
 (q4 : K.lookup b4 = some ⟨.type "tuple", o4, .seq #[.int 1 u4, .int 0 v4] n4, s4⟩) (q5 : K.lookup b5 = some ⟨.type "tuple", o5, .seq #[.int 0 u5, .int 1 v5] n5, s5⟩) : KI K aS (stepsP.map keyP) :=
 have two : ∀ {a b : Int} {u v : Tok}, (#[Value.int a u, Value.int b v] : Array Value).size <= sizeLine := by intros; show 2 <= sizeLine; unfold sizeLine; omega
 have pair : ∀ {b : Addr} {x y : Nat} {o : Option Addr} {u v : Tok} {n : Nat} {s : Array (Option Value)}, K.lookup b = some ⟨.type "tuple", o, .seq #[.int x u, .int y v] n, s⟩ -> KTup K b (keyP (x, y)) := fun q => ⟨_, _, _, q, rfl, rfl, two, .cons ⟨_, rfl⟩ (.cons ⟨_, rfl⟩ .nil)⟩
 ⟨ns, _, ep, [b1, b2, b3, b4, b5], sd, rfl, .cons (pair q1) (.cons (pair q2) (.cons (pair q3) (.cons (pair q4) (.cons (pair q5) .nil))))⟩
section
variable (price : Nat -> Nat -> Nat × Nat -> Int)
def mayEnd (l r : Nat) (p : Nat × Nat) : Bool := decide (p.1 <= l /\ p.2 <= r)
def endings (tab : Nat -> Nat -> Int × Int) (l r : Nat) : List ((Nat × Nat) × Int × Int) := (stepsP.filter (mayEnd l r)).map fun p => (p, (tab (l - p.1) (r - p.2)).1 + price l r p, (tab (l - p.1) (r - p.2)).2)
def leastI : List Int -> Int
 | [] => 0
 | [a] => a
 | a :: b :: r => min a (leastI (b :: r))
def entryM (tab : Nat -> Nat -> Int × Int) (l r : Nat) : Int × Int :=
 if l = 0 /\ r = 0 then (0, 1) else
  let f := endings price tab l r
  let m := leastI (f.map (·.2.1))
  (m, ((f.filter fun x => decide (x.2.1 = m)).map (·.2.2)).sum)
theorem endings_congr {t t' : Nat -> Nat -> Int × Int} {l r : Nat} (h : ∀ i j, i <= l -> j <= r -> i + j < l + r -> t i j = t' i j) : endings price t l r = endings price t' l r := by
 unfold endings
 refine map_congr_left fun p hp => ?_
 obtain ⟨hm, hf⟩ := mem_filter.mp hp
 have hle : p.1 <= l /\ p.2 <= r := of_decide_eq_true hf
 have hpos : 0 < p.1 + p.2 := by
  simp only [stepsP, mem_cons, not_mem_nil, or_false] at hm
  rcases hm with rfl | rfl | rfl | rfl | rfl <;> decide
 rw [h (l - p.1) (r - p.2) (by omega) (by omega) (by omega)]
theorem entry_congr {t t' : Nat -> Nat -> Int × Int} {l r : Nat} (h : ∀ i j, i <= l -> j <= r -> i + j < l + r -> t i j = t' i j) : entryM price t l r = entryM price t' l r := by
 unfold entryM
 rw [endings_congr price h]
end
end Y
namespace Y
open PySem PySem.Spec PyProof.Rows L2 PySem.SeqAt AutoSeq1 MeetsSeq MeetsSeq2 MeetsSeq3
end Y
namespace Y
open PySem PySem.Spec PyProof.Rows L2 PySem.SeqAt
variable [Tabs]
end Y
namespace Y
open PySem PySem.Spec PyProof.Rows L2
end Y
namespace Y
open PySem PySem.Spec PyProof.Rows L2 PySem.SeqAt
variable [Tabs]
def isInt (d : D) : Prop := ∃ i, d = .int i
section
variable {X : Cx} {pins : List (Addr × Obj)} {σ : St} {H : Hp} {s : Shared} {Z Z' : Zone}
def Tells (K : Frag) (H : Hp) (Z : Zone) (u : Value) (d : D) : Prop := ∃ v, RelV v u /\ In K H Z d v
end
section
variable {X : Cx}
variable {ρ : List (Option D)} {m m1 : Bool} {a : Expr} {ds : List D} {p pos : Pos} {P : D -> Prop} {kd : SortKind}
theorem flats_perm {ds es : List D} (p : es.Perm ds) (h : flats ds = true) : flats es = true := by
 have mem : ∀ {l : List D}, flats l = true ↔ ∀ d ∈ l, d.flat = true := by
  intro l
  induction l with
  | nil => simp [flats]
  | cons x l ih => simp [flats, ih]
 exact mem.mpr fun d hd => mem.mp h d (p.mem_iff.mp hd)
end
structure Keys (X : Cx) (A : Around) (σ : St) (fa : Addr) (f : D -> D) (P0 : D -> Prop) (Good : Hp -> Zone -> Prop) : Prop where
 zone : ∀ {H : Hp} {Z Z' : Zone}, (∀ a o, H a = some o -> Z.S a -> Z'.S a) -> (Z.m = false -> Z'.m = false) -> Good H Z -> Good H Z'
 same : ∀ {H H' : Hp} {Z : Zone}, Same H H' -> Good H Z -> Good H' Z
 write : ∀ {H : Hp} {Z : Zone} {l : Addr} {xs ys : List V}, H l = some (.lst xs) -> ¬ Z.S l -> Good H Z -> Good (upd H l (.lst ys)) Z
 run : ∀ (E : Value -> Shared -> Prop) (pins : List (Addr × Obj)) (s : Shared) (H : Hp) (Z : Zone) (u : Value) (d : D) (Q : Value -> Shared -> Prop), Inv X pins σ H s -> Z.Open H -> Good H Z -> Tells X.K H Z u d -> P0 d ->
  (∀ k H' s', Inv X pins σ H' s' -> Same H H' -> Tells X.K H' Z k (f d) -> Q k s') -> wpAny (model X.prog X.w) A (call (.ref fa) [u]) Q E s
theorem among_app {pos : Pos} {a b : Int} {c cv : Value} (l : List Value) (h : TriplesOk l) (e : codeAmong pos (l ++ [rawInt a, rawInt b, c]) = some cv) : codeAmong pos l = some cv \/ cv = c := by
 fun_induction TriplesOk l with
 | case1 =>
  simp only [List.nil_append, codeAmong, rawInt] at e
  split at e
  . exact .inr (Option.some.inj e).symm
  . cases e
 | case2 a' t b' u x rest ih =>
  simp only [cons_append, codeAmong] at e ⊢
  split at e
  . rename_i hc; rw [if_pos hc]; exact .inl e
  . rename_i hc; rw [if_neg hc]; exact ih h e
 | case3 l h1 h2 => exact h.elim
section
variable {X : Cx} {pins : List (Addr × Obj)} {σ : St} {H : Hp} {s : Shared} {P c f : Addr} {ps more : Array Value} {h' : Heap} {t' : Nat}
theorem inv_lam (I : Inv X pins σ H s) (hP : H P = some (.tbl ps)) (k : ∀ b o, b ≠ P -> s.heap.get? b = some o -> h'.get? b = some o) (htb : h'.get? P = some { cls := .none, data := .fields (ps ++ more) }) {u v : HO} (hc : s.heap.objs.size <= c) (hf : s.heap.objs.size <= f) (cf : c ≠ f)
 (oc : ObjOk X.prog X.w (upd (upd (upd H P (.tbl (ps ++ more))) c u) f v) h' c u) (of : ObjOk X.prog X.w (upd (upd (upd H P (.tbl (ps ++ more))) c u) f v) h' f v) :
 Inv X pins σ (upd (upd (upd H P (.tbl (ps ++ more))) c u) f v) { s with heap := h', toks := t' } := by
 have Hc : H c = none := I.hok.fresh hc
 have Hf : H f = none := I.hok.fresh hf
 have Pc : P ≠ c := ne_of_none hP Hc
 have Pf : P ≠ f := ne_of_none hP Hf
 have get : ∀ {b : Addr} {o : HO}, H b = some o -> b ≠ P -> upd (upd (upd H P (.tbl (ps ++ more))) c u) f v b = some o := fun {b o} e n => by
  rw [upd_ne (ne_of_none e Hf), upd_ne (ne_of_none e Hc), upd_ne n]; exact e
 have getP : upd (upd (upd H P (.tbl (ps ++ more))) c u) f v P = some (.tbl (ps ++ more)) := by rw [upd_ne Pf, upd_ne Pc, upd_same]
 refine I.un ⟨fun b o e n hb _ => ?_, fun b o e n hb _ => ?_, fun b o e n _ => ?_, fun b o e _ => ?_, fun b xs e => ?_, fun b o u' e => ?_, fun b qs e => ?_⟩ fun b o e => ?_
 . exact k b o (fun z => by rw [z, hP] at n; cases n) e
 . exact ⟨o.slots, k b o (fun z => by rw [z, hP] at n; cases n) e⟩
 . have lb := lt_size e
   have n1 : b ≠ P := fun z => by rw [z, hP] at n; cases n
   rw [upd_ne (Nat.ne_of_lt (Nat.lt_of_lt_of_le lb hf)), upd_ne (Nat.ne_of_lt (Nat.lt_of_lt_of_le lb hc)), upd_ne n1]; exact n
 . by_cases z : b = P
   . exact ⟨_, by rw [z]; exact htb⟩
   . exact ⟨o, k b o z e⟩
 . exact get e (ne_of e hP (by intro z; cases z))
 . exact get e (ne_of e hP (by intro z; cases z))
 . by_cases z : b = P
   . rw [z, hP] at e
     cases e
     exact ⟨more, by rw [z]; exact getP⟩
   . exact ⟨#[], by rw [get e z]; simp⟩
 . by_cases z1 : b = f
   . subst z1; rw [upd_same] at e; cases e; exact of
   . rw [upd_ne z1] at e
     by_cases z2 : b = c
     . subst z2; rw [upd_same] at e; cases e; exact oc
     . rw [upd_ne z2] at e
       by_cases z3 : b = P
       . subst z3; rw [upd_same] at e; cases e; exact htb
       . rw [upd_ne z3] at e
         refine (I.hok b o e).stay (fun b' v' hb' q => k b' v' ?_ q) (fun b' q => get q (ne_of q hP (by intro z; cases z))) fun b' xs q => get q (ne_of q hP (by intro z; cases z))
         rcases hb' with z | z
         . rw [z]; exact z3
         . exact ne_of z hP (by intro z; cases z)
theorem tabs_lam {qn : Str} {pos : Pos} {v : HO} (t : TabsOk H) (hT : (P, qn) ∈ Tabs.T) (one : ∀ q ∈ Tabs.T, q.1 = P -> q.2 = qn) (hP : H P = some (.tbl ps)) (hn : codeAmong pos ps.toList = none) (Hc : H c = none) (Hf : H f = none) (cf : c ≠ f) :
 TabsOk (upd (upd (upd H P (.tbl (ps ++ #[rawInt pos.line, rawInt pos.col, .ref c]))) c (recO c qn)) f v) := fun Q hQ => by
 obtain ⟨qs, e, tr, kq⟩ := t Q hQ
 have ne : ∀ {b : Addr} {o : HO}, H b = some o -> b ≠ P -> upd (upd (upd H P (.tbl (ps ++ #[rawInt pos.line, rawInt pos.col, .ref c]))) c (recO c qn)) f v b = some o := fun {b o} e n => by
  rw [upd_ne (ne_of_none e Hf), upd_ne (ne_of_none e Hc), upd_ne n]; exact e
 by_cases z : Q.1 = P
 . have qe := one Q hQ z
   rw [z, hP] at e
   cases e
   refine ⟨ps ++ #[rawInt pos.line, rawInt pos.col, .ref c], by rw [z, upd_ne (ne_of_none hP Hf), upd_ne (ne_of_none hP Hc), upd_same], ?_, fun pos' cv q => ?_⟩
   . rw [Array.toList_append]; exact TriplesOk_snoc _ _ _ _ tr
   . rw [Array.toList_append] at q
     rcases among_app _ tr q with q | q
     . obtain ⟨c', rfl, hc'⟩ := kq pos' cv q
       exact ⟨c', rfl, ne hc' (ne_of hc' hP (by intro z; cases z))⟩
     . exact ⟨c, q, by rw [upd_ne cf, upd_same, qe]⟩
 . refine ⟨qs, ne e z, tr, fun pos' cv q => ?_⟩
   obtain ⟨c', rfl, hc'⟩ := kq pos' cv q
   exact ⟨c', rfl, ne hc' (ne_of hc' hP (by intro z; cases z))⟩
def BmB (mg : Str -> Option Value) (base : Heap) : Prop := ∃ bm o, mg "__builtins__" = some (.ref bm) /\ base.get? bm = some o /\ bm ≠ builtinsNs /\ bm ≠ mainGlobals /\ o.cls = .type "module" /\ o.dict = some builtinsNs /\ o.data = .plain
structure LamCx (X : Cx) (c P : Addr) (qn : Str) : Prop where
 code : X.env.code = .ref c
 hd : codeHdIn X.K c P = true
 tab : (P, qn) ∈ Tabs.T
 one : ∀ q ∈ Tabs.T, q.1 = P -> q.2 = qn
 qual : X.env.qual ++ ("<lambda>" : Str) = qn
 bm : BmB X.mg X.base
 gP : mainGlobals ≠ P
variable {A : Around} {E : Value -> Shared -> Prop} {params : Arguments} {body : Expr} {scope : Scope} {lpos : Pos} {clos : List (Str × Addr)} {qn : Str}
abbrev lamO (f : Addr) (qn : Str) (params : Arguments) (body : Expr) (scope : Scope) (clos : List (Str × Addr)) (pm : Value) (c : Addr) (ctv : Value) : HO := .ext fun h => h.get? f = some (kla_obj "<lambda>" qn params body scope clos pm c ctv)
theorem lam_eval (LC : LamCx X c P qn) (I : Inv X pins σ H s) (t : TabsOk H) (hdef : defaultsOf params X.env = ([], [])) (hcl : closureFor scope X.env = pure clos) {Q : Value -> Shared -> Prop}
 (h : ∀ f c' pm ctv H' s', Inv X pins σ H' s' -> Same H H' -> H f = none -> H' f = some (lamO f qn params body scope clos pm c' ctv) -> H' c' = some (recO c' qn) -> Q (.ref f) s') :
 wpAny (model X.prog X.w) A (eval (.Lambda params body scope lpos) X.env) Q E s := by
 obtain ⟨ps, hP, tr, kq⟩ := t _ LC.tab
 dsimp only at hP kq
 have hPo : s.heap.get? P = some { cls := .none, data := .fields ps } := I.hok P _ hP
 have hg : s.heap.Ns mainGlobals X.mg := I.ok.mod.glob.keeps I.bk
 have C : PySem.W.CodeHd s.heap c P := PySem.W.codeHd_of_K I.kIn LC.hd
 obtain ⟨bm, ob, b1, b2, b3, b4, b6, b7, b8⟩ := LC.bm
 have b5 : bm ≠ P := fun z => by
  have e := I.bk _ _ b2
  rw [z, hPo] at e
  cases e
  cases b6
 have hB : s.heap.BuiltinsAt X.mg P := ⟨bm, ob, b1, b3, b4, b5, I.bk _ _ b2, b6, b7, b8⟩
 refine PySem.W.kla_eval hdef ?_
 rw [LC.qual]
 cases hq : codeAmong lpos ps.toList with
 | none =>
  refine PySem.W.kla_makeFunction hcl I.ok.glob hg LC.code C hPo tr hq LC.gP hB fun c' ctv h' tk hx hge hlt hrec htb => ?_
  have hle : s.heap.objs.size <= h'.objs.size := Nat.le_trans hge (Nat.le_of_lt hlt)
  have cf : c' ≠ h'.objs.size := Nat.ne_of_lt hlt
  have Hc : H c' = none := I.hok.fresh hge
  have Hf : H h'.objs.size = none := I.hok.fresh hle
  have Pc : P ≠ c' := ne_of_none hP Hc
  have Pf : P ≠ h'.objs.size := ne_of_none hP Hf
  obtain ⟨c2, oc, vs, tq, e2, hoc, hdc⟩ := id hrec
  cases e2
  have I2 := inv_lam (t' := tk) (u := recO c' qn) (v := lamO h'.objs.size qn params body scope clos ((X.mg "__name__").getD .none) c' ctv) (h' := h'.push (kla_obj "<lambda>" qn params body scope clos ((X.mg "__name__").getD .none) c' ctv)) (f := h'.objs.size) I hP
   (fun b o nb e => get?_push_of_some _ (hx b o nb e)) (get?_push_of_some _ htb) hge hle cf
   ⟨hrec.push _, ⟨_, get?_push_of_some _ hoc⟩, fun g1 g2 z k => by
    obtain ⟨c3, o3, vs3, t3, e3, h3, r3⟩ := z
    cases e3
    exact ⟨c', o3, vs3, t3, rfl, k _ h3, r3⟩⟩
   ⟨get?_push_size _ rfl, ⟨_, get?_push_size _ rfl⟩, fun g1 g2 z k => k _ z⟩
  refine h h'.objs.size c' _ ctv _ _ I2 ⟨fun b o e n => ?_, fun b qs e => ?_, fun t => tabs_lam t LC.tab LC.one hP hq Hc Hf cf⟩ Hf upd_same (by rw [upd_ne cf, upd_same])
  . have nP : b ≠ P := fun z => by rw [z, hP] at e; cases e; cases n
    rw [upd_ne (ne_of_none e Hf), upd_ne (ne_of_none e Hc), upd_ne nP]; exact e
  . by_cases z : b = P
    . exact ⟨_, by rw [z, upd_ne Pf, upd_ne Pc, upd_same]⟩
    . exact ⟨qs, by rw [upd_ne (ne_of_none e Hf), upd_ne (ne_of_none e Hc), upd_ne z]; exact e⟩
 | some cv =>
  obtain ⟨c', rfl, hc'⟩ := kq lpos cv hq
  refine PySem.W.kla_makeFunctionHit hcl I.ok.glob hg LC.code C hPo tr hq hB fun ctv h' tk hk hsz => ?_
  have Hf : H h'.objs.size = none := I.hok.fresh hsz
  have I2 : Inv X pins σ (upd H h'.objs.size (lamO h'.objs.size qn params body scope clos ((X.mg "__name__").getD .none) c' ctv)) { s with heap := h'.push (kla_obj "<lambda>" qn params body scope clos ((X.mg "__name__").getD .none) c' ctv), toks := tk } :=
   I.laid (fun b o e => get?_push_of_some _ (hk b o e)) hsz ⟨get?_push_size _ rfl, ⟨_, get?_push_size _ rfl⟩, fun g1 g2 z k => k _ z⟩
  exact h h'.objs.size c' _ ctv _ _ I2 (same_new Hf) Hf upd_same ((same_new Hf).at hc')
end
def cxLam (X : Cx) (A : Around) (N : List Str) (qn : Str) (scope : Scope) (clos : List (Str × Addr)) (f c : Addr) (s : Shared) (H : Hp) (R : Result -> Shared -> Prop) : Cx where
 prog := X.prog
 w := X.w
 K := X.K
 mg := X.mg
 base := X.base
 A := A.deeper (envX qn scope s.heap.objs.size f (.ref c) clos)
 N := N
 s₀ := s
 H₀ := H
 env := envX qn scope s.heap.objs.size f (.ref c) clos
 outer := X.stack
 stack := envX qn scope s.heap.objs.size f (.ref c) clos :: X.stack
 ex := []
 calm := true
 fn := fun _ => false
 pn := []
 xe := fun e s' => wpAny (model X.prog X.w) (A.deeper (envX qn scope s.heap.objs.size f (.ref c) clos)) (leaving (envX qn scope s.heap.objs.size f (.ref c) clos) e) (fun _ s'' => R (.error e) s'') (fun e' s'' => R (.error e') s'') s'
structure LamOk (X : Cx) (scope : Scope) (clos : List (Str × Addr)) (p : Str) (caps : List (Str × Nat)) : Prop where
 kind : scope.kind = .function
 co : scope.isCoroutine = false
 gen : scope.isGenerator = false
 nocell : ∀ x ∈ scope.names, x.2 ≠ .cell
 par : scope.names.lookup p = some .local
 cap : ∀ q ∈ caps, X.N[q.2]? = some q.1 /\ X.env.kindOf q.1 = some .cell /\ clos.lookup q.1 = X.env.cells.lookup q.1 /\ scope.names.lookup q.1 = some .free
 sub : ∀ x c, clos.lookup x = some c -> X.env.cells.lookup x = some c
 has : ∀ x, scope.names.lookup x = some .free -> ∃ c, clos.lookup x = some c
section
variable {X : Cx} {pins : List (Addr × Obj)} {σ : St} {H : Hp} {s : Shared} {f c : Addr} {A : Around} {scope : Scope} {clos : List (Str × Addr)} {p qn : Str} {caps : List (Str × Nat)}
theorem inv_lamStart (I : Inv X pins σ H s) (L : LamOk X scope clos p caps) (hd : A.handled = none) (e0 : Env0 X.prog X.w X.K X.mg X.base A X.stack s H) {u : Value} {v : V} (r : RelV v u) {h1 : Heap} {tk : Nat} {R : Result -> Shared -> Prop}
 (hns : h1.Ns s.heap.objs.size fun x => [(p, u)].reverse.lookup x) (hk : ∀ b o, s.heap.get? b = some o -> h1.get? b = some o) :
 Inv (cxLam X A (p :: caps.map (·.1)) qn scope clos f c s H R) [] ([some v] ++ capsOf (caps.map (·.2)) σ) H { s with heap := h1, toks := tk } := by
 have noA : ∀ b : Addr, b ∉ (cxLam X A (p :: caps.map (·.1)) qn scope clos f c s H R).ex := fun b z => absurd (show b ∈ ([] : List Addr) from z) (by simp)
 refine ⟨⟨e0.mod, L.kind, rfl, rfl, Nat.le_refl _, fun y z c' h1 h2 => ?_, fun y hy => ?_, fun y c' z _ => ?_, fun _ => hd, Around.frames_deeper e0.frames, .inr ⟨rfl, rfl⟩, fun b z => absurd z (noA b), e0.bs, e0.bsz, fun b _ _ => noA b, fun b z => absurd z (noA b), e0.funs, e0.frf⟩,
  rfl, e0.bare, Un.kept hk, ⟨_, hns, fun i y v' h1 h2 h3 => ?_⟩, fun y c' h => ?_, e0.hok.fresh (Nat.le_refl _), fun y c' h => ?_, fun p hp => absurd (show p ∈ ([] : List (Addr × Obj)) from hp) (by simp), e0.hok.kept hk, ?_⟩
 . exact I.ok.inj y z c' (L.sub y c' h1) (L.sub z c' h2)
 . have hy : scope.names.lookup y = some .cell \/ scope.names.lookup y = some .free := hy
   rcases hy with hy | hy
   . exact absurd rfl (L.nocell _ (PySem.mem_of_lookup hy))
   . exact L.has y hy
 . exact absurd (show false = true from z) (by simp)
 . cases i with
   | zero =>
    have e1 : p = y := by simpa [cxLam] using h1
    have e2 : v = v' := by simpa using h2
    subst e1 e2
    exact ⟨u, r, .inl ⟨L.par, by simp⟩⟩
   | succ i =>
    have e1 : (caps.map (·.1))[i]? = some y := by simpa [cxLam] using h1
    have e2 : (capsOf (caps.map (·.2)) σ)[i]? = some (some v') := by simpa using h2
    rw [getElem?_map] at e1
    cases eq : caps[i]? with
    | none => rw [eq] at e1; cases e1
    | some q =>
     rw [eq] at e1
     have e3 : q.1 = y := by simpa using e1
     subst e3
     obtain ⟨c1, c2, c3, c4⟩ := L.cap q (mem_of_getElem? eq)
     unfold capsOf at e2
     rw [getElem?_map, getElem?_map, eq] at e2
     have e4 : (σ[q.2]?).join = some v' := by simpa using e2
     have e5 : σ[q.2]? = some (some v') := by
      cases z : σ[q.2]? with
      | none => rw [z] at e4; cases e4
      | some w => rw [z] at e4; exact congrArg some e4
     obtain ⟨m0, hn0, hl0⟩ := I.loc
     obtain ⟨u', r', lk⟩ := hl0 q.2 q.1 v' c1 e5 (.inr (.inl c2))
     refine ⟨u', r', .inr ⟨.inr c4, ?_⟩⟩
     rcases lk with ⟨k1, _⟩ | ⟨_, c', lc, o, ho, hdo⟩
     . rw [c2] at k1; cases k1
     . exact ⟨c', c3.trans lc, o, hk _ _ ho, hdo⟩
 . obtain ⟨v, o, ho, hd⟩ := I.cell y c' (L.sub y c' h)
   exact ⟨v, o, hk _ _ ho, hd⟩
 . exact I.freeC y c' (L.sub y c' h)
 . simp [capsOf, cxLam]
def LamIn (K : Frag) (σ : St) (ρ : List (Option D)) (f c : Addr) (qn : Str) (params : Arguments) (body : Expr) (scope : Scope) (clos : List (Str × Addr)) (pm ctv : Value) (H : Hp) (Z : Zone) : Prop :=
 H f = some (lamO f qn params body scope clos pm c ctv) /\ H c = some (recO c qn) /\ EnvIn K H Z σ ρ
variable {ρ : List (Option D)} {params : Arguments} {body : Expr} {pm ctv : Value} {g : D -> D} {P0 : D -> Prop} {m : Bool}
theorem lam_keys (L : LamOk X scope clos p caps) (hd : A.handled = none) (hA : A.frames = X.A.frames) (hroom : A.depth < recursionLimit)
 (hb : ∀ u, bindArgs (PySem.W.kla_fn "<lambda>" qn params body scope clos pm (.ref c) ctv) ⟨[u], []⟩ = pure [(p, u)])
 (hbody : ∀ (s : Shared) (H : Hp) (R : Result -> Shared -> Prop) (d : D), P0 d -> E (cxLam X A (p :: caps.map (·.1)) qn scope clos f c s H R) m ([some d] ++ capD (caps.map (·.2)) ρ) body (g d)) :
 Keys X A σ f g P0 (LamIn X.K σ ρ f c qn params body scope clos pm ctv) where
 zone := fun {H Z Z'} hS hm ⟨a, b, en⟩ => ⟨a, b, fun i d e => let ⟨v, x, y⟩ := en i d e; ⟨v, x, y.carry (.of (Same.refl H) (fun a xs e z => hS a _ e z) hm)⟩⟩
 same := fun {H H' Z} sm ⟨a, b, en⟩ => ⟨sm.at a, sm.at b, en.same sm⟩
 write := fun {H Z l xs ys} hl n ⟨a, b, en⟩ => ⟨by rw [upd_ne (ne_of a hl (by intro z; cases z))]; exact a, by rw [upd_ne (ne_of b hl (by intro z; cases z))]; exact b, fun i d e => let ⟨v, x, y⟩ := en i d e; ⟨v, x, y.carry (.write hl n)⟩⟩
 run := fun E' pins s H Z u d Q I oz ⟨ga, gb, en⟩ ⟨v, r, iv⟩ p0 k => by
  have hfo : s.heap.get? f = some (kla_obj "<lambda>" qn params body scope clos pm c ctv) := (I.hok f _ ga).1
  have hrec : s.heap.CodeRec (.ref c) qn := (I.hok c _ gb).1
  have e0 : Env0 X.prog X.w X.K X.mg X.base A X.stack s H := ⟨hA.trans I.env0.frames, I.env0.mod, I.env0.bs, I.env0.bsz, I.env0.funs, I.env0.frf, I.env0.hok, I.env0.bare⟩
  refine wpAny_call (PySem.W.kla_callFunE hroom hfo rfl L.co L.gen rfl hrec ?_)
  rw [hb u]
  refine wpAny_pure (wpAny_newFunctionEnv L.nocell (fun x hx => ?_) (fun h1 hns hsb => ⟨I.nolimit.fresh _ hsb, ?_⟩) L.kind)
  . have : x = (p, u) := by simpa using hx
    rw [this]; exact L.par
  . show codeAny _ _ (.expr body (envX qn scope s.heap.objs.size f (.ref c) clos)) _ _
    have hk1 : ∀ b o, s.heap.get? b = some o -> h1.get? b = some o := fun b o e => hsb.extBut b o (Nat.ne_of_lt (lt_size e)) (get?_push_of_some _ e)
    refine PySem.W.kla_codeExpr ?_
    have J := inv_lamStart (f := f) (c := c) (qn := qn) (R := fun r s' => match r with | .ok (.ret v) => Q v s' | .ok _ => False | .error e => E' e s') (tk := s.toks + 1) I L hd e0 r hns hk1
    have en2 : EnvIn X.K H Z ([some v] ++ capsOf (caps.map (·.2)) σ) ([some d] ++ capD (caps.map (·.2)) ρ) := envIn_caps en rfl fun i d' e => by
     match i, e with
     | 0, e => cases e; exact ⟨v, rfl, iv⟩
    have run := hbody s H (fun r s' => match r with | .ok (.ret v) => Q v s' | .ok _ => False | .error e => E' e s') d p0 [] _ _ H (fun v' H' => Same H H' /\ In X.K H' (out m Z H) (g d) v') J ⟨Z, oz, en2, fun v' H' sm i => ⟨sm, i⟩⟩
    refine wpAny_mono run (fun w s' ⟨v', H', J', rw', sm, iw⟩ => ?_) fun _ _ z => z
    obtain ⟨v2, H2, I2, r2, sm2, iw2⟩ := I.after (Q := fun v' H' => Same H H' /\ In X.K H' (out m Z H) (g d) v') (u := w) (s' := s') ⟨v', H', J'.os, J'.bare, J'.base, J'.hok, rw', sm, iw⟩
    exact k w H2 s' I2 sm2 ⟨v2, r2, iw2.plain oz⟩
end
end Y
namespace Y
open PySem PySem.Spec PyProof.Rows L2
variable [Tabs]
theorem law_callT {P : Program} {w : World} {K : Frag} {mg mb : Str -> Option Value} {k : Nat} {fa a : Addr} {fd : FuncData} {x : Str} {s₁ : Shared} {vs : List Value} {ns : List Int}
 (KX : K.In s₁.heap) (hns : s₁.heap.Ns mainGlobals mg) (hb : s₁.heap.Ns builtinsNs mb) (hbb : ∀ x : Str, x ≠ "__name__" -> mb x = bootBuiltins x) (hlim : s₁.heap.NoLimit) (hg : s₁.gens = #[])
 (ha : s₁.heap.get? a = some { cls := .type "list", data := .seq vs.toArray }) (hi : IntsAre vs ns) (hl : ns.length <= 63) (hr : Room k callerA)
 (hT : ∀ q ∈ Tabs.T, s₁.heap.get? q.1 = some (PySem.W.tabObj #[]) /\ K.lookup q.1 = none /\ PySem.isCodeTable s₁.heap q.1)
 (hbm : BmB mg s₁.heap) (F : ∀ base : Heap, K.In base -> base.Ns mainGlobals mg -> BmB mg base -> FnOk P w K mg base CX0 k fa fd [x] (spLaw K)) (hbind : ∀ (s : Shared) (u : Value), BindsTo s fd ⟨[u], []⟩ [(x, u)]) :
 codeAny (model P w) callerA (.call (.ref fa) ⟨[.ref a], []⟩) (fun r s' => r = .ok (.ret (.bool true)) /\ OldK s₁.heap s'.heap /\ s'.os = s₁.os /\ AllBare s'.gens) s₁ := by
 have rv := vals_ints hi
 have lenV := hi.length
 have hz : ns.length <= sizeLine := Nat.le_trans hl (by decide)
 have aT : ∀ q ∈ Tabs.T, q.1 ≠ a := fun q hq z => by
  have e := (hT q hq).1
  rw [z, ha] at e
  cases e
 have core : ∀ H0 : Hp, (∀ b, b ≠ a -> H0 b = none) -> (H0 a = none \/ ∃ o xs, H0 a = some (.frz o (.lst xs))) -> SqL K H0 a (ns.map V.int) -> HOk P w H0 s₁.heap -> (H0 a ≠ none -> K.lookup a = none) ->
  codeAny (model P w) callerA (.call (.ref fa) ⟨[.ref a], []⟩) (fun r s' => r = .ok (.ret (.bool true)) /\ OldK s₁.heap s'.heap /\ s'.os = s₁.os /\ AllBare s'.gens) s₁ := by
  intro H0 hO hO2 hS hok0 hK
  obtain ⟨H, hHt, hHn⟩ : ∃ H : Hp, (∀ b, (∃ q ∈ Tabs.T, q.1 = b) -> H b = some (.tbl #[])) /\ ∀ b, ¬ (∃ q ∈ Tabs.T, q.1 = b) -> H b = H0 b :=
   open Classical in ⟨fun b => if ∃ q ∈ Tabs.T, q.1 = b then some (.tbl #[]) else H0 b, fun b hb => if_pos hb, fun b hb => if_neg hb⟩
  have na : ¬ (∃ q ∈ Tabs.T, q.1 = a) := fun ⟨q, hq, z⟩ => aT q hq z
  have Ha := hHn a na
  have cs : ∀ b u, H b = some u -> (b = a /\ H0 a = some u) \/ (∃ q ∈ Tabs.T, q.1 = b) /\ u = .tbl #[] := fun b u e => by
   by_cases z : ∃ q ∈ Tabs.T, q.1 = b
   . rw [hHt b z] at e; cases e; exact .inr ⟨z, rfl⟩
   . rw [hHn b z] at e
     by_cases z2 : b = a
     . subst z2; exact .inl ⟨rfl, e⟩
     . rw [hO b z2] at e; cases e
  have hok : HOk P w H s₁.heap := fun b u e => by
   rcases cs b u e with ⟨rfl, e0⟩ | ⟨⟨q, hq, rfl⟩, rfl⟩
   . exact (hok0 _ _ e0).stay (fun b' v' hb' q => q) (fun b' q => by
      have : b' = b := by
       by_cases z : b' = b
       . exact z
       . rw [hO b' z] at q; cases q
      subst this
      rcases hO2 with z | ⟨_, _, z⟩
      . rw [z] at q; cases q
      . rw [z] at q; cases q) fun b' xs q => by
      have : b' = b := by
       by_cases z : b' = b
       . exact z
       . rw [hO b' z] at q; cases q
      subst this
      rcases hO2 with z | ⟨_, _, z⟩
      . rw [z] at q; cases q
      . rw [z] at q; cases q
   . exact (hT q hq).1
  have tabs : TabsOk H := fun q hq => ⟨#[], hHt q.1 ⟨q, hq, rfl⟩, trivial, fun pos cv z => by simp [codeAmong] at z⟩
  have hS' : SqL K H a (ns.map V.int) := by
   rcases hS with (h | ⟨o, h⟩) | h
   . exact .inl (.inl (by rw [Ha]; exact h))
   . exact .inl (.inr ⟨o, by rw [Ha]; exact h⟩)
   . exact .inr h
  have base_of : ∀ {b : Addr} {o : Obj}, s₁.heap.get? b = some o -> H b = none -> (hidT s₁.heap H).get? b = some o := fun e n => hidT_get e n
  have noA : ∀ {b : Addr} {o : Obj} {es : Array DictEntry} {ep : Nat}, s₁.heap.get? b = some o -> o.data = .dict es ep -> H b = none := fun {b o es ep} e d => by
   cases q : H b with
   | none => rfl
   | some u =>
    rcases cs b u q with ⟨rfl, _⟩ | ⟨⟨q', hq', rfl⟩, _⟩
    . rw [ha] at e; cases e; cases d
    . rw [(hT q' hq').1] at e; cases e; cases d
  have nsK : ∀ {b : Addr} {m : Str -> Option Value}, s₁.heap.Ns b m -> (hidT s₁.heap H).Ns b m := fun {b m} ⟨o, es, ep, e, d, r⟩ => ⟨o, es, ep, base_of e (noA e d), d, r⟩
  have hKb : K.In (hidT s₁.heap H) := fun b o e => base_of (KX b o e) (by
   cases q : H b with
   | none => rfl
   | some u =>
    rcases cs b u q with ⟨rfl, e0⟩ | ⟨⟨q', hq', rfl⟩, _⟩
    . rw [hK (by rw [e0]; simp)] at e; cases e
    . rw [(hT q' hq').2.1] at e; cases e)
  have hBm : BmB mg (hidT s₁.heap H) := by
   obtain ⟨bm, ob, b1, b2, b3, b4, b5, b6, b7⟩ := hbm
   refine ⟨bm, ob, b1, base_of b2 ?_, b3, b4, b5, b6, b7⟩
   cases q : H bm with
   | none => rfl
   | some u =>
    rcases cs bm u q with ⟨rfl, _⟩ | ⟨⟨q', hq', rfl⟩, _⟩
    . rw [ha] at b2; cases b2; injection b5 with b5; exact absurd b5 (by decide)
    . rw [(hT q' hq').1] at b2; cases b2; cases b5
  have hM : Mod K mg (hidT s₁.heap H) := ⟨hKb, nsK hns, ⟨mb, nsK hb, hbb⟩, let ⟨mc, h1, h2⟩ := hlim; ⟨mc, nsK h1, h2⟩⟩
  have e0 : Env0 P w K mg (hidT s₁.heap H) callerA [] s₁ H := ⟨rfl, hM, fun b o e => of_hidT e, Nat.le_of_eq (hidT_size _ _), trivial, fun b hb => absurd (show b ∈ ([] : List Addr) from hb) (by simp), hok, .of_eq hg⟩
  refine codeAny_mono ((F _ hKb (nsK hns) hBm).run callerA [] s₁ H ⟨[.ref a], []⟩ [.ref a] [.ref a] (fun v _ => v = .bl true) E0 hr e0 (hbind s₁ (.ref a)) (.cons rfl .nil) ⟨a, ns, rfl, hS', hl, tabs, fun _ => rfl⟩) fun r s' h => ?_
  cases r with
  | error e => exact False.elim h
  | ok fl =>
   cases fl with
   | next => exact False.elim h
   | brk => exact False.elim h
   | cont => exact False.elim h
   | ret u =>
    obtain ⟨v, H', os, bare, un, hok', r', q⟩ := h
    have q' : v = .bl true := q
    subst q'
    obtain rfl : u = Value.bool true := r'
    refine ⟨rfl, ⟨fun b o e => ?_, fun b o e => un.there b o e (by simp)⟩, os, bare⟩
    cases q : H b with
    | none => exact .inl (un.keep b o e q (by intro z; exact absurd (show b ∈ ([] : List Addr) from z) (by simp)) (by simp))
    | some u =>
     rcases cs b u q with ⟨rfl, e0'⟩ | ⟨⟨q', hq', rfl⟩, rfl⟩
     . rcases hO2 with z | ⟨ob, xs, z⟩
       . rw [z] at e0'; cases e0'
       . rw [z] at e0'
         cases e0'
         have z2 := un.frzs b ob _ q
         obtain ⟨e1, _⟩ := hok b _ q
         obtain ⟨e2, _⟩ := hok' b _ z2
         rw [e] at e1; cases e1
         exact .inl e2
     . obtain ⟨more, z⟩ := un.tbls q'.1 #[] q
       have e2 := hok' _ _ z
       rw [(hT q' hq').1] at e
       cases e
       exact .inr (.inl ⟨(hT q' hq').2.2, rfl, #[], more, rfl, e2⟩)
 cases hk : K.lookup a with
 | some o =>
  have e := KX a o hk
  rw [ha] at e
  cases e
  exact core (fun _ => none) (fun _ _ => rfl) (.inl rfl) (.inr ⟨_, vs.toArray, _, hk, rfl, rfl, rfl, by rw [size_toArray, lenV]; exact hz, by simpa using rv⟩) (fun b u z => nomatch z) fun z => absurd rfl z
 | none =>
  refine core (fun b => if b = a then some (.frz { cls := .type "list", data := .seq vs.toArray } (.lst (ns.map V.int))) else none) (fun b hb => if_neg hb) (.inr ⟨_, _, if_pos rfl⟩) (.inl (.inr ⟨{ cls := .type "list", data := .seq vs.toArray }, if_pos rfl⟩)) (fun b u z => ?_) fun _ => hk
  by_cases hb : b = a
  . have z' := (if_pos hb).symm.trans z
    cases z'
    subst hb
    exact ⟨ha, by rw [length_map]; exact hz, vs, _, rv, ha⟩
  . have z' := (if_neg hb).symm.trans z
    cases z'
theorem walkT {l : PySem.W.OpenLaw} {q : Program} {loose : List Str} {XP : (Str -> Option Value) -> Heap -> Prop} {YP : World -> Heap -> Prop} {d : DefRec} {K : Params -> Frag} {x : Str} {k : Nat} (hn : l.most = some 63) (hdf : d.params.defaults = []) (hr : Room k callerA)
 (hY : ∀ (w : World) (h : Heap), YP w h -> (K w.params).In h)
 (hT : ∀ (w : World) (h : Heap), YP w h -> ∀ q ∈ Tabs.T, h.get? q.1 = some (PySem.W.tabObj #[]) /\ (K w.params).lookup q.1 = none /\ PySem.isCodeTable h q.1)
 (F : ∀ (w : World) (mg : Str -> Option Value) (fa : Addr) (h : Heap), (K w.params).In h -> h.Ns mainGlobals mg -> mg d.name = some (.ref fa) ->
  ∃ fd : FuncData, (∀ (s : Shared) (u : Value), BindsTo s fd ⟨[u], []⟩ [(x, u)]) /\ ∀ base : Heap, (K w.params).In base -> base.Ns mainGlobals mg -> BmB mg base -> FnOk l.prog w (K w.params) mg base CX0 k fa fd [x] (spLaw (K w.params))) :
 PySem.W.WalkO q loose XP YP l.row.toRowW d [] (fun f vs => PySem.call f vs) := by
 refine Att.attach_call hn hdf fun w s₀ s₁ mg mb fa o pm cd doc a vs ns G Y ho hd hcd hmg hobj hints hlen hg => ?_
 have KX := hY w _ Y
 obtain ⟨fd, hb, hF⟩ := F w mg fa _ KX G.T.g hmg
 have hbm : BmB mg s₁.heap := by
  obtain ⟨bm, ob, b1, b2, b3, b4, b5, b6⟩ := G.T.bmain
  refine ⟨bm, ob, b1, b3, b2, fun z => ?_, b4, b5, b6⟩
  obtain ⟨o, es, ep, e, hd, _⟩ := G.T.g
  rw [z, e] at b3; cases b3; rw [hd] at b6; cases b6
 exact law_callT KX G.T.g G.T.b G.T.builtins G.T.nolimit hg hobj hints hlen hr (hT w _ Y) hbm hF hb
structure FunC (K : Frag) (x qual : Str) (st : Stmt) (f : Addr) (fd : FuncData) (c : Addr) : Prop where
 ex : ∃ (oc : Value) (od : Option Addr) (kV doc pm : Value) (an : Option Addr) (ct : Value) (osl : Array (Option Value)),
  fd = PySem.W.fnOf x qual (defArgs st) (defBody st) (defScope st) .none kV doc pm an (.ref c) ct /\ K.lookup f = some ⟨oc, od, .func fd, osl⟩ /\ PySem.W.codeIn K (.ref c) qual = true
 kp : keepIn K (.ref f) = true
theorem tabs_ok {K : Params -> Frag} {as : List Addr} {e : ∀ P, as = (K P).map (·.1)} {ts : List Addr} {w : World} {h : Heap} (Yk : (PySem.W.kmHook K as e ts).says w h) {c P : Addr} (hm : P ∈ ts) (hl : (K w.params).lookup P = none) (hc : codeHdIn (K w.params) c P = true) :
 h.get? P = some (PySem.W.tabObj #[]) /\ (K w.params).lookup P = none /\ PySem.isCodeTable h P := by
 obtain ⟨o, vs, _, _, _, _, _, _, _, e1, e2, e3, e4, _⟩ := PySem.W.codeHd_of_K (PySem.W.km_in_of Yk) hc
 exact ⟨PySem.W.km_tabs_of Yk P hm, hl, c, o, vs, e1, e2, e3, e4⟩
theorem FunC.fn {K : Frag} {x qual : Str} {st : Stmt} {f c : Addr} {fd : FuncData} (F : FunC K x qual st f fd c) : Fun K x qual st f fd := by
 obtain ⟨oc, od, kV, doc, pm, an, ct, osl, e, lk, hcd⟩ := F.ex
 exact ⟨⟨oc, od, kV, doc, pm, an, .ref c, ct, osl, e, lk, hcd⟩, F.kp⟩
theorem funC_mk {K : Frag} {x qual : Str} {st : Stmt} {f c : Addr} {oc kV doc pm ct : Value} {od an : Option Addr} {osl : Array (Option Value)}
 (l : K.lookup f = some ⟨oc, od, .func (PySem.W.fnOf x qual (defArgs st) (defBody st) (defScope st) .none kV doc pm an (.ref c) ct), osl⟩) (hc : PySem.W.codeIn K (.ref c) qual = true) (k : keepIn K (.ref f) = true) :
 FunC K x qual st f (PySem.W.fnOf x qual (defArgs st) (defBody st) (defScope st) .none kV doc pm an (.ref c) ct) c := ⟨⟨oc, od, kV, doc, pm, an, ct, osl, rfl, l, hc⟩, k⟩
section
variable {P : Program} {w : World} {K : Frag} {mg : Str -> Option Value} {base : Heap}
theorem def_ofC {x qual : Str} {st : Stmt} {f c : Addr} {fd : FuncData} {N ps : List Str} {k : Nat} {m : Bool} {G : List D -> D -> Prop} (Fx : FunC K x qual st f fd c) (S : FnScope N ps (defScope st)) (hmg : mg x = some (.ref f)) (hb : Binds K fd ps [])
 (hlen : ∀ ds d, G ds d -> ds.length = ps.length)
 (body : ∀ (A : Around) (outer : List Env) (s : Shared) (H : Hp) (E : XK) (Z : Zone) (ds : List D) (d : D), Room k (A.deeper (envOfC qual (defScope st) s.heap.objs.size f (.ref c))) -> G ds d ->
  SD (cxOf CX0 P w K mg base N qual (defScope st) f (.ref c) A outer s H E).nox ⟨m, Z, H⟩ (defBody st) (startD N ds) { nx := fun _ => d = .non, rt := fun d' => d' = d }) : Def P w K mg base (k + 1) x m G := by
 refine ⟨f, fd, ps, ?_, hmg, Fx.kp, hb⟩
 obtain ⟨oc, od, kV, doc, pm, an, ct, osl, rfl, lk, hcd⟩ := Fx.ex
 refine fn_of lk hcd S (fun vs H Q E ⟨Z, ds, d, oz, i, g, kk⟩ => ?_) fun A outer s H vs Q E hr ⟨Z, ds, d, oz, i, g, kk⟩ => ?_
 . rw [<- i.length]; exact hlen ds d g
 . refine ⟨_, PSs.nox (body A outer s H E Z ds d hr g), [], [], fun _ => [], ?_, start_in oz i, ⟨rfl, fun σ H' ⟨r, A', hl, S', e⟩ => ?_, fun σ H' ⟨r, A', hl, S', e⟩ => e.elim, fun σ H' ⟨r, A', hl, S', e⟩ => e.elim, fun v d' H' s' i' e => ?_, fun _ _ _ _ _ _ _ _ e => e.elim, fun _ _ _ _ _ _ _ _ _ _ _ _ _ e => e.elim⟩⟩
   . have := i.length
     simp [L2.start, startD]; omega
   . subst e
     exact kk .non H' S'.same (in_non.mpr rfl)
   . subst e
     exact kk v H' s' i'
end
structure LamK (K : Frag) (mg : Str -> Option Value) (base : Heap) (c P : Addr) (qn : Str) : Prop where
 hd : codeHdIn K c P = true
 tab : (P, qn) ∈ Tabs.T
 one : ∀ q ∈ Tabs.T, q.1 = P -> q.2 = qn
 bm : BmB mg base
 gP : mainGlobals ≠ P
theorem LamK.cx {X : Cx} {c P : Addr} {qn : Str} (L : LamK X.K X.mg X.base c P qn) (h1 : X.env.code = .ref c) (h2 : X.env.qual ++ ("<lambda>" : Str) = qn) : LamCx X c P qn := ⟨h1, L.hd, L.tab, L.one, h2, L.bm, L.gP⟩
theorem ints_of : ∀ {ns : List Int} {us : List Value}, Vals (ns.map V.int) us -> IntsAre us ns
 | [], _, r => by cases r; exact .nil
 | n :: ns, _, r => by
  cases r with
  | cons a r => obtain ⟨t, rfl⟩ := a; exact .cons n t (ints_of r)
section
variable {X : Cx}
theorem call_sum : CallR X (.builtin "sum") (fun xs H Q => X.A.handled = none /\ ∃ (l : Addr) (ns : List Int), xs = [.ref l] /\ SqL X.K H l (ns.map V.int) /\ Q (.int ns.sum) H) := by
 intro pins s σ H xs us Q I r h
 obtain ⟨hh, l, ns, rfl, hq, q⟩ := h
 obtain ⟨u, rfl, rx⟩ := vals1 r
 cases rx
 obtain ⟨its, rv, pl, hz⟩ := I.list hq
 have hi := ints_of rv
 obtain ⟨xs, e⟩ := hi.allInts.items
 have hl := pl.isList
 rw [e] at hl
 have hs : preSum (numAt xs) xs.size = ns.sum := by
  have h1 := hi.numsOf
  have h2 : its = (intItems xs).toList := by rw [<- e]
  rw [h2, nums_intItems] at h1
  rw [preSum_eq, List.take_of_length_le (by simp), h1]
 refine PySem.sum_intListG hh hl fun h' tk t' hk => ?_
 rw [hs]
 exact ⟨.int ns.sum, H, I.kept hk, ⟨t', rfl⟩, q⟩
variable {ρ : List (Option D)} {m1 : Bool} {a : Expr} {p pos : Pos}
theorem e_sum {ns : List Int} (ha : E X m1 ρ a (.lst (ns.map D.int))) (hh : X.A.handled = none) (hm : X.mg "sum" = none) (hg : Gl X "sum" := by rfl) (hs : starEach [a] X.env = [(false, eval a X.env)] := by rfl) : E X true ρ (.Call (.Name "sum" p) [a] [] pos) (.int ns.sum) :=
 PE.mono (pe_callB call_sum hg hm boot_sum (pa_cons ha pa_nil (by rw [hs]; rfl)) (by decide) (by decide) (by rw [hs]; rfl) rfl) fun σ H Q z0 => el13 z0 fun Z oz en k => ⟨Z, oz, en, fun x H1 s1 i1 => by
  obtain ⟨l, xs, rfl, at', j⟩ := in_lst.mp (i1.plain oz)
  rw [ins_ints_inv j] at at'
  exact ⟨hh, l, ns, rfl, at'.sq, k _ H1 s1 (in_int.mpr rfl)⟩⟩
end
end Y
namespace Y
open PySem PySem.Spec PyProof.Rows L2
theorem leastI_mem : ∀ {ns : List Int}, ns ≠ [] -> leastI ns ∈ ns
 | [a], _ => by simp [leastI]
 | a :: b :: r, _ => by
  have ih := leastI_mem (ns := b :: r) (by simp)
  unfold leastI
  by_cases h : a <= leastI (b :: r)
  . rw [Int.min_eq_left h]; simp
  . rw [Int.min_eq_right (by omega)]; exact mem_cons_of_mem _ ih
theorem leastI_le : ∀ {ns : List Int} {x : Int}, x ∈ ns -> leastI ns <= x
 | [a], x, h => by simp at h; subst h; exact Int.le_refl _
 | a :: b :: r, x, h => by
  unfold leastI
  rcases mem_cons.mp h with rfl | h
  . exact Int.min_le_left ..
  . exact Int.le_trans (Int.min_le_right ..) (leastI_le h)
theorem leastI_is {ns : List Int} {m : Int} (hm : m ∈ ns) (hl : ∀ x ∈ ns, m <= x) : leastI ns = m :=
 Int.le_antisymm (leastI_le hm) (hl _ (leastI_mem (List.ne_nil_of_mem hm)))
section
variable [Tabs] {X : Cx}
theorem call_min : CallR X (.builtin "min") (fun xs H Q => X.A.handled = none /\ ∃ (l : Addr) (ns : List Int), xs = [.ref l] /\ SqL X.K H l (ns.map V.int) /\ ns ≠ [] /\ Q (.int (leastI ns)) H) := by
 intro pins s σ H xs us Q I r h
 obtain ⟨hh, l, ns, rfl, hq, hne, q⟩ := h
 obtain ⟨u, rfl, rx⟩ := vals1 r
 cases rx
 obtain ⟨its, rv, pl, hz⟩ := I.list hq
 have hi := ints_of rv
 obtain ⟨xs, e⟩ := hi.allInts.items
 have hl := pl.isList
 rw [e] at hl
 have en : xs.toList.map (·.1) = ns := by
  have h1 := hi.numsOf
  have h2 : its = (intItems xs).toList := by rw [<- e]
  rw [h2, nums_intItems] at h1
  exact h1
 have len : xs.size = ns.length := by rw [<- en]; simp
 have num : ∀ i (hi : i < ns.length), numAt xs i = ns[i] := fun i hi => by
  have hx : i < xs.size := by omega
  have : ns[i]? = some xs[i].1 := by rw [<- en]; simp [hx]
  rw [List.getElem?_eq_getElem hi] at this
  unfold numAt
  simp [hx, Option.some.inj this]
 have pos : 0 < ns.length := List.length_pos_iff.mpr hne
 obtain ⟨b1, b2⟩ := argBest_lt (numAt xs) (xs.size - 1)
 refine PySem.min_intList hh hl (by omega) fun v h' tk hv hk => ?_
 obtain ⟨t, rfl⟩ := intItems_at hv
 have hb : argBest (fun i j => decide (numAt xs i < numAt xs j)) (xs.size - 1) < ns.length := by omega
 have val : leastI ns = numAt xs (argBest (fun i j => decide (numAt xs i < numAt xs j)) (xs.size - 1)) := leastI_is (by rw [num _ hb]; exact getElem_mem hb) fun x hx => by
  obtain ⟨j, hj, rfl⟩ := List.getElem_of_mem hx
  rw [<- num j hj]
  exact b2 j (by omega)
 exact ⟨.int (leastI ns), H, I.kept hk, ⟨t, by rw [val]⟩, q⟩
variable {ρ : List (Option D)} {m1 : Bool} {a : Expr} {p pos : Pos}
theorem e_min {ns : List Int} (ha : E X m1 ρ a (.lst (ns.map D.int))) (hne : ns ≠ []) (hh : X.A.handled = none) (hm : X.mg "min" = none) (hg : Gl X "min" := by rfl) (hs : starEach [a] X.env = [(false, eval a X.env)] := by rfl) : E X true ρ (.Call (.Name "min" p) [a] [] pos) (.int (leastI ns)) :=
 PE.mono (pe_callB call_min hg hm boot_min (pa_cons ha pa_nil (by rw [hs]; rfl)) (by decide) (by decide) (by rw [hs]; rfl) rfl) fun σ H Q z0 => el13 z0 fun Z oz en k => ⟨Z, oz, en, fun x H1 s1 i1 => by
  obtain ⟨l, xs, rfl, at', j⟩ := in_lst.mp (i1.plain oz)
  rw [ins_ints_inv j] at at'
  exact ⟨hh, l, ns, rfl, at'.sq, hne, k _ H1 s1 (in_int.mpr rfl)⟩⟩
end
end Y
namespace Y
open PySem PySem.Spec PyProof.Rows L2
variable [Tabs]
def up3 {α : Type} (z : α) (p : D -> D -> D -> α) : D -> α
 | .tup [a, b, c] => p a b c
 | _ => z
section
variable {X : Cx} {ρ : List (Option D)} {m m1 : Bool} {ds : List D} {pos : Pos}
def tcD3 (K : Frag) (js : List Nat) (ρ : List (Option D)) (ds : List D) (p : D -> D -> D -> Bool) (i : Nat) : TT := fun σ H Q => ∃ a b c, ds[i]? = some (.tup [a, b, c]) /\ tB' K ([some a, some b, some c] ++ capD js ρ) (p a b c) σ H Q
def teD3 (K : Frag) (js : List Nat) (ρ : List (Option D)) (ds : List D) (p : D -> D -> D -> Bool) (f : D -> D -> D -> D) (me : Bool) (i : Nat) : TE := fun σ H Q => ∃ a b c, ds[i]? = some (.tup [a, b, c]) /\ p a b c = true /\ tE K me ([some a, some b, some c] ++ capD js ρ) (f a b c) σ H Q
theorem comp_reads3 {js : List Nat} {me : Bool} (p : D -> D -> D -> Bool) (f : D -> D -> D -> D) (hpair : ∀ d ∈ ds, ∃ a b c, d = .tup [a, b, c]) (hz : ds.length <= sizeLine) (hm : m = true -> me = true \/ ∀ d ∈ ds, (up3 .non f d).flat = true) (σ : St) (H : Hp) (Q : VK) (h : tE X.K m ρ (.lst ((ds.filter (up3 false p)).map (up3 .non f))) σ H Q) :
 tComp (tIT X.K m1 ρ ds) 3 js (gTup X.K 3 (gCons (gName 0) (gCons (gName 1) (gCons (gName 2) gNil)))) (tcD3 X.K js ρ ds p) (teD3 X.K js ρ ds p f me) σ H Q := by
 obtain ⟨Z, oz, en, k⟩ := h
 refine ⟨Z, oz, en, fun J H1 vs srcs s1 i1 Y l hl => ?_⟩
 have hlH : H l = none := s1.free hl
 have noL : ∀ {ds : List D} {vs : List V} {Z' : Zone} {Ha Hb : Hp}, Ha l = none -> Same Ha Hb -> Ins X.K Ha Z' ds vs -> Ins X.K Hb ⟨Z'.m, fun a => Z'.S a /\ a ≠ l⟩ ds vs := fun {ds vs Z' Ha Hb} ha sa h => Ins.carry (Z' := ⟨Z'.m, fun a => Z'.S a /\ a ≠ l⟩) (Carry.of sa (fun a zs e z => ⟨z, ne_of_none e ha⟩) fun m => m) h
 have noL1 : ∀ {d : D} {v : V} {Z' : Zone} {Ha Hb : Hp}, Ha l = none -> Same Ha Hb -> In X.K Ha Z' d v -> In X.K Hb ⟨Z'.m, fun a => Z'.S a /\ a ≠ l⟩ d v := fun {d v Z' Ha Hb} ha sa h => In.carry (Z' := ⟨Z'.m, fun a => Z'.S a /\ a ≠ l⟩) (Carry.of sa (fun a zs e z => ⟨z, ne_of_none e ha⟩) fun m => m) h
 refine ⟨fun i n xs H' => n = ds.length - i /\ i <= ds.length /\ Same H1 H' /\ H' l = some (.lst xs) /\ xs.length <= i /\ Ins X.K H' ⟨(out m Z H).m, fun a => (out m Z H).S a /\ a ≠ l⟩ (((ds.take i).filter (up3 false p)).map (up3 .non f)) xs, ⟨ds.length, by simp, Nat.zero_le _, same_new hl, upd_same, Nat.zero_le _, by simp; exact ins_nil.mpr rfl⟩, ?_⟩
 rintro i n xs H' ow how ⟨rfl, hi', s1', hl', hxi, jx⟩
 refine ⟨hl', ?_⟩
 have srcsZ : Ins X.K H1 Z srcs vs := by
  cases m1
  . exact i1
  . exact i1.up oz
 let Zl : Zone := ⟨Z.m, fun a => Z.S a /\ a ≠ l⟩
 have opl : ∀ {Ha : Hp} {o : HO}, Same H Ha -> Ha l = some o -> Zl.Open Ha := fun sa e => ⟨fun a ha => ⟨oz.op a (sa.free ha), by rintro rfl; rw [e] at ha; cases ha⟩, sa.tabs oz.tb⟩
 by_cases hlt : i < ds.length
 . have hd0 : ds[i]? = some ds[i] := by simp [hlt]
   obtain ⟨da, db, dc, hab⟩ := hpair ds[i] (getElem_mem hlt)
   have hd : ds[i]? = some (.tup [da, db, dc]) := by rw [hd0, hab]
   obtain ⟨go, yl⟩ := Y.go Zl H' (opl (s1.trans s1') hl') (noL hl s1' srcsZ) i _ hd
   refine .inr ⟨go, fun y H2 hy => ?_⟩
   obtain ⟨s2, iy⟩ := yl y H2 hy
   have hl2 : H2 l = some (.lst xs) := s2.at hl'
   have sH2 : Same H H2 := (s1.trans s1').trans s2
   obtain ⟨w1, w2, w3, rfl⟩ : ∃ w1 w2 w3, ow = [w1, w2, w3] := by
    match ow, how with
    | [w1, w2, w3], _ => exact ⟨w1, w2, w3, rfl⟩
   obtain ⟨ta, txs, rfl, tt, tj⟩ := in_tupS iy
   obtain ⟨v1, r1, rfl, iv1, tj1⟩ := ins_cons.mp tj
   obtain ⟨v2, r2, rfl, iv2, tj2⟩ := ins_cons.mp tj1
   obtain ⟨v3, r3, rfl, iv3, tj3⟩ := ins_cons.mp tj2
   cases ins_nil.mp tj3
   have en2 : EnvIn X.K H2 Zl ([some v1, some v2, some v3] ++ capsOf js σ) ([some da, some db, some dc] ++ capD js ρ) := envIn_caps (fun i d e => let ⟨v, a, b⟩ := en i d e; ⟨v, a, noL1 hlH sH2 b⟩) rfl fun i d e => by
    match i, e with
    | 0, e => cases e; exact ⟨v1, rfl, iv1⟩
    | 1, e => cases e; exact ⟨v2, rfl, iv2⟩
    | 2, e => cases e; exact ⟨v3, rfl, iv3⟩
   refine ⟨ta, _, rfl, tt, rfl, v1, _, rfl, v2, _, rfl, v3, _, rfl, rfl, ⟨[some v1, some v2, some v3], rfl, rfl⟩, da, db, dc, hd, Zl, opl sH2 hl2, en2, fun H3 s3 => ?_⟩
   have hl3 : H3 l = some (.lst xs) := s3.at hl2
   have st : (ds.take (i + 1)).filter (up3 false p) = (ds.take i).filter (up3 false p) ++ (if p da db dc then [D.tup [da, db, dc]] else []) := take_succ_filter (up3 false p) ds i _ hd
   cases hp : p da db dc with
   | false =>
    refine iteF ?_
    refine ⟨ds.length - (i + 1), by omega, rfl, hlt, (s1'.trans s2).trans s3, hl3, by omega, ?_⟩
    rw [st, hp]
    simp only [Bool.false_eq_true, if_false, append_nil]
    exact jx.same (s2.trans s3)
   | true =>
    refine iteT ?_
    refine ⟨da, db, dc, hd, hp, Zl, opl (sH2.trans s3) hl3, en2.same s3, fun v H4 s4 iv => ?_⟩
    have hl4 : H4 l = some (.lst xs) := s4.at hl3
    refine ⟨hl4, by omega, ds.length - (i + 1), by omega, rfl, hlt, ((s1'.trans s2).trans (s3.trans s4)).write hl hl4, upd_same, by rw [List.length_append]; simp; omega, ?_⟩
    . rw [st, hp]
      simp only [if_true, map_append, map_cons, map_nil]
      have n : ¬ (⟨(out m Z H).m, fun a => (out m Z H).S a /\ a ≠ l⟩ : Zone).S l := fun z => z.2 rfl
      refine Ins.append ((jx.same (s2.trans (s3.trans s4))).carry (.write hl4 n)) (Ins.one ?_)
      refine In.carry (.write hl4 n) ?_
      show In X.K H4 _ (f da db dc) v
      cases m with
      | false => exact iv.plain (opl (sH2.trans s3) hl3)
      | true =>
       rcases hm rfl with h | h
       . subst h
         exact In.carry (Z := nw H3) (Z' := ⟨true, fun a => H a = none /\ a ≠ l⟩) ⟨fun a zs e z => ⟨e, (sH2.trans s3).free z, by rintro rfl; have z : H3 a = none := z; rw [hl3] at z; cases z⟩, fun m => nwF m, fun _ _ e => e⟩ iv
       . have := h _ (mem_of_getElem? hd)
         exact iv.flat' this
 . have e : i = ds.length := by omega
   subst e
   refine .inl ⟨Y.stop Zl H' (opl (s1.trans s1') hl') (noL hl s1' srcsZ), k (.ref l) H' (s1.trans s1') (in_lst.mpr ⟨l, xs, rfl, .inl ⟨hl', ?_⟩, ?_⟩)⟩
   . cases m
     . exact oz l hlH
     . exact hlH
   . rw [take_length] at jx
     exact Ins.carry (Z := ⟨(out m Z H).m, fun a => (out m Z H).S a /\ a ≠ l⟩) (Z' := out m Z H) (Carry.of (Same.refl H') (fun a zs e z => And.left z) fun m => m) jx
theorem ec_comp3 {elt iter : Expr} {x y z : Str} {px py pz pt : Pos} {kt : Nat} {ifs : List Expr} {scope : Scope} {me : Bool} (caps : List Str) (js : List Nat) (p : D -> D -> D -> Bool) (f : D -> D -> D -> D) (hi : IT X (.Tuple [.Name x px, .Name y py, .Name z pz] kt pt) m1 ρ iter ds)
 (hpair : ∀ d ∈ ds, ∃ a b c, d = .tup [a, b, c])
 (ht : ∀ C s H fp a b c, D.tup [a, b, c] ∈ ds -> TS' (blk X ([x, y, z] ++ caps) scope C s H fp) ([some a, some b, some c] ++ capD js ρ) ifs (p a b c)) (he : ∀ C s H fp a b c, D.tup [a, b, c] ∈ ds -> p a b c = true -> E (blk X ([x, y, z] ++ caps) scope C s H fp) me ([some a, some b, some c] ++ capD js ρ) elt (f a b c))
 (hz : ds.length <= sizeLine) (hm : m = true -> me = true \/ ∀ d ∈ ds, (up3 .non f d).flat = true := by intro h; first | exact .inl h | cases h) (hc : X.calm = true := by rfl)
 (B : BlkScope X scope [x, y, z] caps js := by exact ⟨rfl, by decide, by decide, by decide, by decide, by decide, by repeat (first | exact trivial | refine ⟨⟨rfl, by first | exact .inl rfl | exact .inr rfl⟩, ?_⟩), by decide⟩)
 (hs : ∀ x, foldedSetIterable iter X.env x = pure x := by intro _; rfl) (hes : ∀ env : Env, (assignEach [.Name x px, .Name y py, .Name z pz] env).map (·.2) = [assign (.Name x px) env, assign (.Name y py) env, assign (.Name z pz) env] := by intro _; rfl) (hes2 : ∀ env : Env, (assignEach [.Name y py, .Name z pz] env).map (·.2) = [assign (.Name y py) env, assign (.Name z pz) env] := by intro _; rfl) (hes3 : ∀ env : Env, (assignEach [.Name z pz] env).map (·.2) = [assign (.Name z pz) env] := by intro _; rfl)
 (hen : ∀ env : Env, (assignEach [.Name x px, .Name y py, .Name z pz] env).length = 3 := by intro _; rfl) (hst : ∀ env : Env, (assignEach [.Name x px, .Name y py, .Name z pz] env).findIdx? (·.1) = none := by intro _; rfl) : EC X m ρ (.ListComp elt [⟨.Tuple [.Name x px, .Name y py, .Name z pz] kt pt, iter, ifs, 0⟩] scope pos) (.lst ((ds.filter (up3 false p)).map (up3 .non f))) := by
 have hg1 : ∀ C s H fp, PG (blk X ([x, y, z] ++ caps) scope C s H fp) (.Name x px) (gName 0) := fun C s H fp => pg_name (i := 0) B.nd rfl (.inl (lookup_relabel_local (B.own x (by simp)))) (.inr (lookup_relabel_local (B.own x (by simp))))
 have hg2 : ∀ C s H fp, PG (blk X ([x, y, z] ++ caps) scope C s H fp) (.Name y py) (gName 1) := fun C s H fp => pg_name (i := 1) B.nd rfl (.inl (lookup_relabel_local (B.own y (by simp)))) (.inr (lookup_relabel_local (B.own y (by simp))))
 have hg3 : ∀ C s H fp, PG (blk X ([x, y, z] ++ caps) scope C s H fp) (.Name z pz) (gName 2) := fun C s H fp => pg_name (i := 2) B.nd rfl (.inl (lookup_relabel_local (B.own z (by simp)))) (.inr (lookup_relabel_local (B.own z (by simp))))
 have hg : ∀ C s H fp, PG (blk X ([x, y, z] ++ caps) scope C s H fp) (.Tuple [.Name x px, .Name y py, .Name z pz] kt pt) (gTup X.K 3 (gCons (gName 0) (gCons (gName 1) (gCons (gName 2) gNil)))) := fun C s H fp =>
  pg_tup (X := blk X ([x, y, z] ++ caps) scope C s H fp) hc (pgs_cons (hg1 C s H fp) (pgs_cons (hg2 C s H fp) (pgs_cons (hg3 C s H fp) pgs_nil (by rw [hes3]; rfl)) (by rw [hes2, hes3])) (by rw [hes, hes2])) (hen _) (hst _)
 have ht' : ∀ C s H fp i, PTs (blk X ([x, y, z] ++ caps) scope C s H fp) ifs (tcD3 X.K js ρ ds p i) := fun C s H fp i pins s' σ H' Q I h => by
  obtain ⟨a, b, c, hd, h⟩ := h
  exact ht C s H fp a b c (mem_of_getElem? hd) pins s' σ H' Q I h
 have he' : ∀ C s H fp i, PE (blk X ([x, y, z] ++ caps) scope C s H fp) elt (teD3 X.K js ρ ds p f me i) := fun C s H fp i pins s' σ H' Q I h => by
  obtain ⟨a, b, c, hd, hp, h⟩ := h
  exact he C s H fp a b c (mem_of_getElem? hd) hp pins s' σ H' Q I h
 refine ⟨PE.mono (pe_comp (own := [x, y, z]) (caps := caps) hc B hi hg ht' he' hs) fun σ H Q h => comp_reads3 p f hpair hz hm σ H Q h, fun y' k spos py' hN hk hy hsw hf => ?_⟩
 exact PS.mono' (ps_comp (own := [x, y, z]) (caps := caps) hN hk hy hc B hi hg ht' he' hsw hf hs) fun Q σ H h => comp_reads3 p f hpair hz hm σ H _ h
theorem filter_up3 {ds : List D} (hpair : ∀ d ∈ ds, ∃ a b c, d = .tup [a, b, c]) : ds.filter (up3 false fun _ _ _ => true) = ds := List.filter_eq_self.mpr fun d hd => by
 obtain ⟨a, b, c, rfl⟩ := hpair d hd
 rfl
end
end Y
namespace Y
open PySem PySem.Spec PyProof.Rows L2
def entD (x : Int × Int) : D := .tup [.int x.1, .int x.2]
def tabD (T : List (List (Int × Int))) : D := .lst (T.map fun r => .lst (r.map entD))
def endD (x : (Nat × Nat) × Int × Int) : D := .tup [.ktup (keyP x.1), .int x.2.1, .int x.2.2]
def priceE (ls rs : List (List Str)) (prices : List Int) (ps : List (Str × Str)) : Nat -> Nat -> Nat × Nat -> Int := fun l r p => stepP ((ls.take l).drop (l - p.1)) ((rs.take r).drop (r - p.2)) prices ps
structure PaOk (ls rs : List (List Str)) (prices : List Int) (ps : List (Str × Str)) : Prop where
 tl : tot ls <= 100
 tr : tot rs <= 100
 pr : prices.length = 5
 pp : ps.length <= 900
def TabHas (T : List (List (Int × Int))) (tab : Nat -> Nat -> Int × Int) (l r : Nat) : Prop := ∀ i j, i <= l -> j <= r -> i + j < l + r -> ∃ row, T[i]? = some row /\ row[j]? = some (tab i j)
def gLast (ds : List D) (d : D) : Prop := ∃ (ls rs : List (List Str)) (prices : List Int) (ps : List (Str × Str)) (T : List (List (Int × Int))) (tab : Nat -> Nat -> Int × Int), PaOk ls rs prices ps /\ TabHas T tab ls.length rs.length /\
 ds = [rowsD ls, rowsD rs, intsT prices, .dct (.t (pairedK ps)), tabD T] /\ d = .lst ((endings (priceE ls rs prices ps) tab ls.length rs.length).map endD)
def gEntry (ds : List D) (d : D) : Prop := ∃ (ls rs : List (List Str)) (prices : List Int) (ps : List (Str × Str)) (T : List (List (Int × Int))) (tab : Nat -> Nat -> Int × Int), PaOk ls rs prices ps /\ TabHas T tab ls.length rs.length /\
 ds = [rowsD ls, rowsD rs, intsT prices, .dct (.t (pairedK ps)), tabD T] /\ d = entD (entryM (priceE ls rs prices ps) tab ls.length rs.length)
theorem tot_drop [Tabs] (ls : List (List Str)) (n : Nat) : tot (ls.drop n) <= tot ls := by
 have h := flatten_len (ls.drop n)
 have h2 := flatten_len ls
 have h3 : (ls.drop n).flatten.length <= ls.flatten.length := by
  conv => rhs; rw [<- take_append_drop n ls, flatten_append, List.length_append]
  omega
 first | omega | (unfold tot at *; omega)
theorem stepsP_L {p : Nat × Nat} (h : p ∈ stepsP) : p ∈ stepsL := by
 simp only [stepsP, mem_cons, not_mem_nil, or_false] at h
 rcases h with rfl | rfl | rfl | rfl | rfl <;> decide
theorem stepsP_pos {p : Nat × Nat} (h : p ∈ stepsP) : 0 < p.1 + p.2 := by
 simp only [stepsP, mem_cons, not_mem_nil, or_false] at h
 rcases h with rfl | rfl | rfl | rfl | rfl <;> decide
theorem endings_ne (price : Nat -> Nat -> Nat × Nat -> Int) (tab : Nat -> Nat -> Int × Int) {l r : Nat} (h : ¬ (l = 0 /\ r = 0)) : endings price tab l r ≠ [] := by
 unfold endings
 intro e
 have e := List.map_eq_nil_iff.mp e
 have no := List.filter_eq_nil_iff.mp e
 by_cases hl : l = 0
 . exact no (0, 1) (by decide) (decide_eq_true ⟨by omega, by show 1 <= r; omega⟩)
 . exact no (1, 0) (by decide) (decide_eq_true ⟨by show 1 <= l; omega, by omega⟩)
theorem endings_le (price : Nat -> Nat -> Nat × Nat -> Int) (tab : Nat -> Nat -> Int × Int) (l r : Nat) : (endings price tab l r).length <= 5 := by
 unfold endings
 rw [length_map]
 exact length_filter_le ..
def isTot (m : Int) : D -> Bool
 | .int x => decide (x = m)
 | _ => false
theorem totals_map [Tabs] (xs : List ((Nat × Nat) × Int × Int)) : ((xs.map endD).filter (up3 false fun _ _ _ => true)).map (up3 .non fun _ t _ => t) = (xs.map (·.2.1)).map D.int := by
 rw [filter_up3 (fun d hd => by obtain ⟨x, _, rfl⟩ := mem_map.mp hd; exact ⟨_, _, _, rfl⟩), map_map, map_map]
 rfl
theorem manys_map [Tabs] (m : Int) (xs : List ((Nat × Nat) × Int × Int)) : ((xs.map endD).filter (up3 false fun _ t _ => isTot m t)).map (up3 .non fun _ _ n => n) = ((xs.filter fun x => decide (x.2.1 = m)).map (·.2.2)).map D.int := by
 rw [filter_map, map_map, map_map]
 rfl
end Y
namespace Y
open PySem PySem.Spec PyProof.Rows L2
section
variable (price : Nat -> Nat -> Nat × Nat -> Int)
def tabN : Nat -> Nat -> Nat -> Int × Int
 | 0, _, _ => (0, 0)
 | k + 1, l, r => entryM price (tabN k) l r
def tabM (l r : Nat) : Int × Int := tabN price (l + r + 1) l r
theorem tabN_same : ∀ {k k' l r : Nat}, l + r < k -> l + r < k' -> tabN price k l r = tabN price k' l r
 | 0, _, _, _, h, _ => by omega
 | _ + 1, 0, _, _, _, h => by omega
 | k + 1, k' + 1, l, r, h, h' => entry_congr price fun i j hi hj hs => tabN_same (by omega) (by omega)
theorem tabM_eq (l r : Nat) : tabM price l r = entryM price (tabM price) l r :=
 entry_congr price fun i j hi hj hs => tabN_same price (by omega) (by omega)
theorem entry_price {price' : Nat -> Nat -> Nat × Nat -> Int} {tab : Nat -> Nat -> Int × Int} {l r : Nat} (h : ∀ p, price l r p = price' l r p) : entryM price tab l r = entryM price' tab l r := by
 have e : endings price tab l r = endings price' tab l r := by
  unfold endings
  exact map_congr_left fun p _ => by rw [h p]
 unfold entryM
 rw [e]
def rowsT (R n : Nat) : List (List (Int × Int)) := (List.range n).map fun i => (List.range (R + 1)).map (tabM price i)
theorem rowsT_succ (R n : Nat) : rowsT price R (n + 1) = rowsT price R n ++ [(List.range (R + 1)).map (tabM price n)] := by
 unfold rowsT
 rw [range_succ (n := n), map_append]
 rfl
theorem rowsT_has {R n m : Nat} (hm : m <= R) : TabHas (rowsT price R n ++ [(List.range m).map (tabM price n)]) (tabM price) n m := fun i j hi hj hs => by
 have len : (rowsT price R n).length = n := by simp [rowsT]
 by_cases h : i < n
 . refine ⟨(List.range (R + 1)).map (tabM price i), ?_, ?_⟩
   . rw [getElem?_append_left (by omega)]
     simp [rowsT, h]
   . have : j < R + 1 := by omega
     simp [this]
 . obtain rfl : i = n := by omega
   refine ⟨(List.range m).map (tabM price i), ?_, ?_⟩
   . rw [getElem?_append_right (by omega), len]
     simp
   . have : j < m := by omega
     simp [this]
end
def gPaper (ds : List D) (d : D) : Prop := ∃ (ls rs : List (List Str)) (prices : List Int) (ps : List (Str × Str)), PaOk ls rs prices ps /\ ls.length <= 20 /\ rs.length <= 20 /\ ds = [rowsD ls, rowsD rs, intsT prices, prsD ps] /\ d = tabD (rowsT (priceE ls rs prices ps) rs.length (ls.length + 1))
theorem entry_at {ls rs : List (List Str)} {prices : List Int} {ps : List (Str × Str)} {n m : Nat} (hn : n <= ls.length) (hm : m <= rs.length) :
 entryM (priceE (ls.take n) (rs.take m) prices ps) (tabM (priceE ls rs prices ps)) (ls.take n).length (rs.take m).length = tabM (priceE ls rs prices ps) n m := by
 have e1 : (ls.take n).length = n := by rw [length_take]; omega
 have e2 : (rs.take m).length = m := by rw [length_take]; omega
 rw [e1, e2, tabM_eq]
 refine entry_price _ fun p => ?_
 unfold priceE
 rw [List.take_take, List.take_take, Nat.min_self, Nat.min_self]
end Y
namespace Y
open PySem PySem.Spec PyProof.Rows L2
end Y
namespace Y
open PySem PySem.Spec PyProof.Rows L2
end Y
namespace Y
open PySem PySem.Spec PyProof.Rows L2
theorem rowsT_get (price : Nat -> Nat -> Nat × Nat -> Int) {R n i : Nat} (h : i < n) : (rowsT price R n)[i]? = some ((List.range (R + 1)).map (tabM price i)) := by simp [rowsT, h]
theorem rowT_get (price : Nat -> Nat -> Nat × Nat -> Int) {R i j : Nat} (h : j < R + 1) : ((List.range (R + 1)).map (tabM price i))[j]? = some (tabM price i j) := by simp [h]
theorem rowsT_full (price : Nat -> Nat -> Nat × Nat -> Int) {R n i j : Nat} (hi : i < n) (hj : j < R + 1) : TabHas (rowsT price R n) (tabM price) i j := fun a b ha hb _ => ⟨_, rowsT_get price (by omega), rowT_get price (by omega)⟩
end Y
namespace Y
open PySem PySem.Spec PyProof.Rows L2
variable [Tabs]
def Lst1 (kf : Nat -> Int) (n b : Nat) : Prop := b < n /\ ∀ j, j < n -> kf b <= kf j /\ (j < b -> kf b < kf j)
theorem Lst1.one (kf : Nat -> Int) : Lst1 kf 1 0 := ⟨by omega, fun j hj => by
 obtain rfl : j = 0 := by omega
 exact ⟨Int.le_refl _, fun z => absurd z (Nat.lt_irrefl _)⟩⟩
theorem Lst1.take {kf : Nat -> Int} {n b : Nat} (h : Lst1 kf n b) (q : kf n < kf b) : Lst1 kf (n + 1) n := ⟨by omega, fun j hj => by
 by_cases e : j = n
 . subst e
   exact ⟨Int.le_refl _, fun z => absurd z (Nat.lt_irrefl _)⟩
 . have := (h.2 j (by omega)).1
   exact ⟨by omega, fun _ => by omega⟩⟩
theorem Lst1.keep {kf : Nat -> Int} {n b : Nat} (h : Lst1 kf n b) (q : ¬ kf n < kf b) : Lst1 kf (n + 1) b := ⟨by have := h.1; omega, fun j hj => by
 by_cases e : j = n
 . subst e
   exact ⟨by omega, fun z => by have := h.1; omega⟩
 . exact h.2 j (by omega)⟩
section
variable {X : Cx} {pins : List (Addr × Obj)} {σ : St} {H : Hp} {Z : Zone} {A : Around} {P0 : D -> Prop} {f : D -> D} {fa l It S : Addr} {Good : Hp -> Zone -> Prop} {ds : List D} {xs : List V} {kf : Nat -> Int} {R : Result -> Shared -> Prop}
structure MinAt (X : Cx) (pins : List (Addr × Obj)) (σ : St) (H : Hp) (Z : Zone) (Good : Hp -> Zone -> Prop) (l It S : Addr) (st : Shared) (H' : Hp) (i : Nat) (best : List V) : Prop where
 inv : Inv X pins σ H' st
 same : Same H H'
 atS : H' S = some (.lst best)
 good : Good H' ⟨Z.m, fun b => Z.S b /\ b ≠ S⟩
 fp : FpOk X pins H' It
 it : st.heap.IsListIter It l i
def BestIs (kf : Nat -> Int) (xs : List V) (i : Nat) (best : List V) : Prop := (i = 0 /\ best = []) \/ ∃ b v, Lst1 kf i b /\ xs[b]? = some v /\ best = [v, .int (kf b)]
theorem fp_heap {H' H2 : Hp} {b : Addr} (h : FpOk X pins H' b) (e : H2 b = none) : FpOk X pins H2 b := ⟨e, h.2⟩
theorem min_loop (kk : Keys X A.in1 σ fa f P0 Good) (hh : A.handled = none) (oz : Z.Open H) (hS0 : H S = none) (hlI : l ≠ It) (hSI : S ≠ It) (hP : ∀ d ∈ ds, P0 d) (hkf : ∀ i d, ds[i]? = some d -> f d = .int (kf i)) (ix : Ins X.K H Z ds xs) (hq : SqL X.K H l xs) (hpos : 0 < ds.length)
 (fin : ∀ H' st b v u, Inv X pins σ H' st -> Same H H' -> Lst1 kf ds.length b -> xs[b]? = some v -> RelV v u -> R (.ok (.ret u)) st) :
 ∀ (r i : Nat) (st : Shared) (H' : Hp) (best : List V), ds.length - i = r -> i <= ds.length -> MinAt X pins σ H Z Good l It S st H' i best -> BestIs kf xs i best -> codeAny (model X.prog X.w) A (.builtin "min.loop" ⟨[.ref It, .ref fa, .ref S], []⟩) R st := by
 have hname : (toString "min" ++ toString ".loop" : String) = "min.loop" := by decide
 have zx := ix.length
 intro r
 induction r with
 | zero =>
  intro i st H' best hr hi M B
  obtain rfl : i = ds.length := by omega
  obtain ⟨zl, its, n2, rv, ll, ho⟩ := M.inv.lstM M.atS
  obtain ⟨lis, rl, pl, hz⟩ := M.inv.list (M.same.seq hq)
  have z2 := rl.length
  rcases B with ⟨z, _⟩ | ⟨b, v, hb, hv, rfl⟩
  . omega
  have W := Walks.list (prog := X.prog) (w := X.w) (A := A.in1) hh It l hlI lis.toArray
  refine codeAny_builtin PySem.F.entry_min_loop ?_
  rw [Around.under_plainId PySem.F.plain_min_loop _]
  show wpAny _ A.in1 (seqItems? (.ref S) >>= _) _ _ _
  refine wpAny_bind (wpAny_seqItems ho rfl ?_)
  match its, rv with
  | [u, k], .cons ru (.cons rk .nil) =>
   refine wpAny_bind (wpAny_tryCatch (W.done _ _ _ ⟨by rw [size_toArray, <- z2, <- zx]; exact M.it, pl.isList⟩ fun h' tk' hk' => ?_))
   have I1 : Inv X pins σ H' { st with heap := h', toks := tk' } := M.inv.turned (it := It) (fun b o nb e => hk' b o (by simpa using nb) e) M.fp.1 M.fp.2.1 M.fp.2.2.2.1 M.fp.2.2.2.2.1 M.fp.2.2.2.2.2
   have ho1 := hk' S _ (by simpa using hSI) ho
   refine wpAny_bind (wpAny_updateSeq ho1 rfl (wpAny_bind (wpAny_letGo (wpAny_pure ?_))))
   exact fin _ _ b v u (I1.lset (t' := tk') (its' := []) (ys := []) (f := fun _ => #[]) M.atS ho1 rfl .nil (by simp)) (M.same.write hS0 M.atS) hb hv ru
 | succ r ih =>
  intro i st H' best hr hi M B
  have hlt : i < ds.length := by omega
  obtain ⟨zl, its, n2, rv, ll, ho⟩ := M.inv.lstM M.atS
  obtain ⟨lis, rl, pl, hz⟩ := M.inv.list (M.same.seq hq)
  have z2 := rl.length
  have W := Walks.list (prog := X.prog) (w := X.w) (A := A.in1) hh It l hlI lis.toArray
  obtain ⟨v, ev, iv⟩ := ix.get (i := i) (d := ds[i]) (by simp [hlt])
  obtain ⟨u, eu, ru⟩ := rl.get ev
  refine codeAny_builtin PySem.F.entry_min_loop ?_
  rw [Around.under_plainId PySem.F.plain_min_loop _]
  show wpAny _ A.in1 (seqItems? (.ref S) >>= _) _ _ _
  refine wpAny_bind (wpAny_seqItems ho rfl ?_)
  refine wpAny_bind (wpAny_tryCatch (W.item i _ _ _ (by rw [size_toArray]; omega) ⟨M.it, pl.isList⟩ fun x h' tk' hx hst' hk' => ?_))
  obtain rfl : x = u := by
   have hx : lis[i]? = some x := by simpa using hx
   rw [eu] at hx
   exact (Option.some.inj hx).symm
  have I1 : Inv X pins σ H' { st with heap := h', toks := tk' } := M.inv.turned (it := It) (fun b o nb e => hk' b o (by simpa using nb) e) M.fp.1 M.fp.2.1 M.fp.2.2.2.1 M.fp.2.2.2.2.1 M.fp.2.2.2.2.2
  obtain ⟨oI, hoI, hc, hd⟩ := id hst'.1
  have I1p : Inv X (pins ++ [(It, oI)]) σ H' { st with heap := h', toks := tk' } := I1.pins_of fun q hq => by
   rcases mem_append.mp hq with hq | hq
   . exact I1.pin q (mem_append_right _ hq)
   . obtain rfl : q = (It, oI) := by simpa using hq
     exact ⟨hoI, M.fp.1, M.fp.2.1, M.fp.2.2.1, fun w z => by rw [hd] at z; cases z⟩
  have openS : Zone.Open ⟨Z.m, fun b => Z.S b /\ b ≠ S⟩ H' := ⟨fun b e => ⟨oz.op b (M.same.free e), fun z => by rw [z, M.atS] at e; cases e⟩, M.same.tabs oz.tb⟩
  have iv' : In X.K H' ⟨Z.m, fun b => Z.S b /\ b ≠ S⟩ ds[i] v := In.carry (Z' := ⟨Z.m, fun b => Z.S b /\ b ≠ S⟩) (Carry.of M.same (fun b ys e z => ⟨z, fun w => by rw [w, hS0] at e; cases e⟩) fun z => z) iv
  refine wpAny_bind (wpAny_tryCatch (wpAny_holding (kk.run _ _ _ H' _ x ds[i] _ I1p openS M.good ⟨v, ru, iv'⟩ (hP _ (getElem_mem hlt)) fun k H2 s2 I2p sm ⟨kv, rk, ik⟩ => ?_)))
  rw [hkf i ds[i] (by simp [hlt])] at ik
  obtain rfl : kv = .int (kf i) := in_int.mp ik
  obtain ⟨t, rfl⟩ : ∃ t, k = Value.int (kf i) t := rk
  obtain ⟨p1, p2, _⟩ := I2p.pin (It, oI) (mem_append_right _ (mem_append_right _ (by simp)))
  have I2 := I2p.unpinned
  have hS2 : H2 S = some (.lst best) := sm.at M.atS
  obtain ⟨zl3, its3, n3, rv3, ll3, ho3⟩ := I2.lstM hS2
  have smA := M.same.trans sm
  have g2 := kk.same sm M.good
  -- the new best
  have put : ∀ (wv : V) (wk : V) (uv uk : Value), RelV wv uv -> RelV wk uk -> BestIs kf xs (i + 1) [wv, wk] -> codeAny (model X.prog X.w) A (.builtin "min.loop" ⟨[.ref It, .ref fa, .ref S], []⟩) R { s2 with heap := s2.heap.update S (Obj.mapSeq fun _ => #[uv, uk]) } := fun wv wk uv uk r1 r2 bb => by
   refine ih (i + 1) _ (upd H2 S (.lst [wv, wk])) [wv, wk] (by omega) hlt ⟨I2.lset (t' := s2.toks) (its' := [uv, uk]) (f := fun _ => #[uv, uk]) hS2 ho3 rfl (.cons r1 (.cons r2 .nil)) (by show 2 <= sizeLine; decide), smA.write hS0 hS2, upd_same, kk.write hS2 (fun z => z.2 rfl) g2, fp_heap M.fp (by rw [upd_ne (Ne.symm hSI)]; exact p2), oI, ?_, hc, hd⟩ bb
   exact (Heap.get?_update_other _ _ hSI).trans p1
  rcases B with ⟨rfl, rfl⟩ | ⟨b, vb, hb, hvb, rfl⟩
  . match its, rv with
    | [], .nil =>
     refine wpAny_bind (wpAny_updateSeq ho3 rfl ?_)
     rw [hname]
     refine wpAny_pure ⟨plainId_quiet PySem.F.plain_min_loop _, put v (.int (kf 0)) x (.int (kf 0) t) ru ⟨t, rfl⟩ (.inr ⟨0, v, Lst1.one kf, ev, rfl⟩)⟩
  . match its, rv with
    | [ub, kb], .cons rb (.cons rkb .nil) =>
     obtain ⟨tb, rfl⟩ : ∃ t, kb = Value.int (kf b) t := rkb
     refine wpAny_bind (wpAny_tryCatch (wpAny_holding (wpAny_bind (CmpOf.ints_lt (prog := X.prog) (w := X.w) (A := A.in1) (P := fun i v => ∃ t, v = .int (kf i) t) kf (fun i v h => h) i b _ _ _ _ _ ⟨t, rfl⟩ ⟨tb, rfl⟩ ?_))))
     refine wpAny_bind (wpAny_holding (wpAny_truthy_bool ?_))
     refine wpAny_bind (wpAny_letGo (wpAny_pure ?_))
     by_cases lt : kf i < kf b
     . simp only [lt, decide_true, if_true]
       refine wpAny_bind (wpAny_updateSeq ho3 rfl (wpAny_bind (wpAny_letGo ?_)))
       rw [hname]
       exact wpAny_pure ⟨plainId_quiet PySem.F.plain_min_loop _, put v (.int (kf i)) x (.int (kf i) t) ru ⟨t, rfl⟩ (.inr ⟨i, v, hb.take lt, ev, rfl⟩)⟩
     . simp only [lt, decide_false, Bool.false_eq_true, if_false]
       refine wpAny_bind (wpAny_letGo ?_)
       rw [hname]
       exact wpAny_pure ⟨plainId_quiet PySem.F.plain_min_loop _, ih (i + 1) _ H2 _ (by omega) hlt ⟨I2, smA, hS2, g2, fp_heap M.fp p2, oI, p1, hc, hd⟩ (.inr ⟨b, vb, hb.keep lt, hvb, rfl⟩)⟩
theorem call_minK {s : Shared} {E : Value -> Shared -> Prop} {Q : Value -> Shared -> Prop} (kk : Keys X A.in1 σ fa f P0 Good) (hh : A.handled = none) (I : Inv X pins σ H s) (oz : Z.Open H) (g : Good H Z) (hP : ∀ d ∈ ds, P0 d) (hkf : ∀ i d, ds[i]? = some d -> f d = .int (kf i)) (ix : Ins X.K H Z ds xs) (hq : SqL X.K H l xs) (hpos : 0 < ds.length)
 (fin : ∀ H' st b v u, Inv X pins σ H' st -> Same H H' -> Lst1 kf ds.length b -> xs[b]? = some v -> RelV v u -> Q u st) :
 wpAny (model X.prog X.w) A (call (.builtin "min") [.ref l] [(("key" : Str), .ref fa)]) Q E s := by
 obtain ⟨lis, rl, pl, hz⟩ := I.list hq
 have hl : l < s.heap.objs.size := by
  obtain ⟨o, ho, _⟩ := pl.isList
  exact lt_size ho
 refine kmk_tree PySem.F.kind_min PySem.F.plain_min PySem.F.entry_min (kmk_min_key _ _) ?_
 show wpAny _ A.in1 (Builtin.Builtins.bindParams "min" ["key", "default"] 0 ⟨[], [(("key" : Str), .ref fa)]⟩ >>= _) _ _ s
 refine wpAny_bind (wpAny_of_eq (a := [some (.ref fa), none]) rfl (wpAny_bind (wpAny_pure (wpAny_bind (wpAny_pyIter_list pl.isList (wpAny_bind (wpAny_newList ?_ (Nat.zero_le _))))))))
 have I1 := I.kept (t' := s.toks) fun b o e => get?_push_of_some { cls := .type "list_iterator", data := .fields #[.ref l, .int 0 0] } e
 have I2 := I1.lnew (ys := []) (its := []) (t' := s.toks) .nil (by simp)
 have hsz : (s.heap.push { cls := .type "list_iterator", data := .fields #[.ref l, .int 0 0] }).objs.size = s.heap.objs.size + 1 := size_push' ..
 have hS0 : H (s.heap.push { cls := .type "list_iterator", data := .fields #[.ref l, .int 0 0] }).objs.size = none := I.hok.fresh (by rw [hsz]; exact Nat.le_succ _)
 have hSI : (s.heap.push { cls := .type "list_iterator", data := .fields #[.ref l, .int 0 0] }).objs.size ≠ s.heap.objs.size := by rw [hsz]; exact Nat.succ_ne_self _
 have sm := same_new (o := .lst []) hS0
 refine wpAny_pure ⟨plainId_quiet PySem.F.plain_min_loop _, min_loop (Z := Z) (ds := ds) (xs := xs) (kf := kf) kk hh oz hS0 (Nat.ne_of_lt hl) hSI hP hkf ix hq hpos (fun H' st b v u a1 a2 a3 a4 a5 => fin H' st b v u a1 a2 a3 a4 a5) _ 0 _ _ [] rfl (Nat.zero_le _) ⟨I2, sm, upd_same, kk.same sm (kk.zone (Z := Z) (fun b o e z => ⟨z, fun w => by rw [w, hS0] at e; cases e⟩) (fun z => z) g), I.fpOk (Nat.le_refl _) (by rw [upd_ne (Ne.symm hSI)]; exact I.hok.fresh (Nat.le_refl _)), _, get?_push_of_some _ (get?_push_size _ rfl), rfl, rfl⟩ (.inl ⟨rfl, rfl⟩)⟩
end
section
variable {X : Cx} {ρ : List (Option D)} {m m1 mb : Bool} {a : Expr} {ds : List D} {p pos lpos kp : Pos} {P0 : D -> Prop} {c Pt : Addr} {qn pn : Str} {params : Arguments} {body : Expr} {scope : Scope} {clos : List (Str × Addr)} {caps : List (Str × Nat)} {g : D -> D} {kf : Nat -> Int}
theorem e_minK (d : D) (ha : E X m1 ρ a (.lst ds)) (LC : LamCx X c Pt qn) (LO : LamOk X scope clos pn caps) (hcl : closureFor scope X.env = pure clos)
 (hbody : ∀ (f c' : Addr) (s : Shared) (H : Hp) (R : Result -> Shared -> Prop) (d : D), P0 d -> E (cxLam X X.A.in1 (pn :: caps.map (·.1)) qn scope clos f c' s H R) mb ([some d] ++ capD (caps.map (·.2)) ρ) body (g d))
 (hb : ∀ (c' : Addr) (pm ctv u : Value), bindArgs (PySem.W.kla_fn "<lambda>" qn params body scope clos pm (.ref c') ctv) ⟨[u], []⟩ = pure [(pn, u)])
 (hP : ∀ d ∈ ds, P0 d) (hkf : ∀ i d, ds[i]? = some d -> g d = .int (kf i)) (hd : ∀ b, Lst1 kf ds.length b -> ds[b]? = some d) (hpos : 0 < ds.length) (hh : X.A.handled = none) (hroom : X.A.depth < recursionLimit) (hm : X.mg "min" = none)
 (hdef : defaultsOf params X.env = ([], []) := by rfl) (hg : Gl X "min" := by rfl) (hs : starEach [a] X.env = [(false, eval a X.env)] := by rfl) :
 E X m1 ρ (.Call (.Name "min" p) [a] [⟨some "key", .Lambda params body scope lpos, kp⟩] pos) d := by
 intro pins s σ H Q I ⟨Z, oz, en, k⟩
 refine wpAny_Call_Name_kw (ld_blt I hg hm boot_min ?_ (by decide) (by decide))
 have PAa := pa_cons ha pa_nil (by rw [hs]; rfl)
 refine callWith_kw (thn (PAa pos pins s σ H (fun vs H1 => Same H H1 /\ ∃ x, vs = [x] /\ In X.K H1 (out m1 Z H) (.lst ds) x) I ⟨Z, oz, en, fun x H1 s1 i1 => ⟨s1, x, rfl, i1⟩⟩) fun us s1 ⟨vs, H1, I1, r1, sm1, x, e, i1⟩ => ?_) (by rw [hs]; rfl) (by rw [hs]; rfl) rfl rfl
 subst e
 obtain ⟨l, xs, rfl, at', j⟩ := in_lst.mp i1
 obtain ⟨u, rfl, rx⟩ := vals1 r1
 cases rx
 refine kws_cons (lam_eval LC I1 (sm1.tabs oz.tb) hdef hcl fun f c' pm ctv H2 s2 I2 sm2 Hf hf hc' => kws_nil ?_)
 have sm12 := sm1.trans sm2
 have KK : Keys X X.A.in1 σ f g P0 (LamIn X.K σ ρ f c' qn params body scope clos pm ctv) := lam_keys LO hh rfl hroom (hb c' pm ctv) (hbody f c')
 have jz : Ins X.K H2 Z ds xs := by
  have j2 := j.same sm2
  cases m1
  . exact j2
  . exact j2.up oz
 refine call_minK (kf := kf) KK hh I2 (oz.same sm12) ⟨hf, hc', en.same sm12⟩ hP hkf jz (sm2.seq at'.sq) hpos fun H3 s3 b v w I3 sm3 hb1 hv rw' => ⟨v, H3, I3, rw', k v H3 (sm12.trans sm3) ?_⟩
 obtain ⟨v', ev, iv⟩ := j.get (hd b hb1)
 rw [hv] at ev
 cases ev
 exact (iv.same sm2).same sm3
end
end Y
namespace Y
open PySem PySem.Spec PyProof.Rows L2
def revO (l : Addr) (i : Int) : Obj := { cls := .type "list_reverseiterator", data := .fields #[.ref l, rawInt i] }
theorem sub_reversed : isSubtype (.type "reversed") (.type "reversed") = pure true := by rw [isSubtype_type]; kernel_rfl
open AutoSeq1 in
theorem rev_meth (l : Addr) (items : Array Value) (n : Nat) (dd : Option Addr) (sl : Array (Option Value)) : Meets (Builtin.«list.__reversed__» ⟨[.ref l], []⟩) (fun _ R s => s.heap.get? l = some ⟨.type "list", dd, .seq items n, sl⟩ /\ R (.ok (.ret (.ref s.heap.objs.size))) { s with heap := s.heap.push (revO l ((items.size : Int) - 1)) }) :=
 .of_wp fun prog w A R s h => by
  obtain ⟨hp, g, d, tk, os⟩ := s; obtain ⟨hl, h⟩ := h
  wp_walk using wpAny_loadPart' hl
  exact ⟨_, rfl, h⟩
theorem rev_method {prog : Program} {w : World} {A : Around} {E : Value -> Shared -> Prop} {s : Shared} {Q : Value -> Shared -> Prop} {l : Addr} {items : Array Value} {n : Nat} {dd : Option Addr} {sl : Array (Option Value)} (hl : s.heap.get? l = some ⟨.type "list", dd, .seq items n, sl⟩)
 (h : Q (.ref s.heap.objs.size) { s with heap := s.heap.push (revO l ((items.size : Int) - 1)) }) : wpAny (model prog w) A (call (.builtin "list.__reversed__") [.ref l]) Q E s :=
 call_meets PySem.F.slot_list_reversed ⟨_, hl, rfl⟩ PySem.F.entry_list_reversed (PySem.F.args_list_reversed_1 _) (rev_meth l items n dd sl) ⟨hl, h⟩
open AutoSeq1 in
theorem rev_new (l : Addr) (items : Array Value) (n : Nat) (dd : Option Addr) (sl : Array (Option Value)) :
 Meets (Builtin.«reversed.__new__» ⟨[.type "reversed", .ref l], []⟩) (fun _ R s => s.heap.get? l = some ⟨.type "list", dd, .seq items n, sl⟩ /\ R (.ok (.ret (.ref s.heap.objs.size))) { s with heap := s.heap.push (revO l ((items.size : Int) - 1)) }) :=
 .of_wp fun prog w A R s h => by
  obtain ⟨hp, g, d, tk, os⟩ := s
  obtain ⟨hl, h⟩ := h
  have hsub := sub_reversed
  have hlk := PySem.F.slot_list_reversed.lookup
  wp_walk using wpAny_loadPart' hl
  refine wpAny_of_eq (PySem.F.slot_list_reversed.bind (.ref l)) ?_
  show wpAny _ _ (rule "reversed.__new__.own-method" >>= fun _ => call (.builtin "list.__reversed__") [.ref l] >>= fun v => ret v) _ _ _
  exact wpAny_bind (wpAny_rule (wpAny_bind (rev_method hl (wpAny_pure ⟨_, rfl, h⟩))))
namespace Rv
theorem mro : mroOf (.type "reversed") = pure [.type "reversed", .type "object"] := by rw [mroOf_type]; kernel_rfl
theorem lookup_new : typeLookup (.type "reversed") "__new__" = pure (some (.builtin "reversed.__new__")) := by rw [typeLookup_type, builtinLookup_eq_fast]; kernel_rfl
theorem made : Bind.madeBy (.type "reversed") = pure (some "reversed.__new__") := madeBy_type mro lookup_new (by decide +kernel)
theorem entry_new : entryFor table "reversed.__new__" = some Builtin.«reversed.__new__» := entryFor_of_tree (by kernel_rfl)
theorem typeCall (a : Value) : checkTypeCall "reversed" ⟨[a], []⟩ = pure () := by kernel_rfl
theorem newCall (a : Value) : checkBuiltinCall "reversed.__new__" ⟨[.type "reversed", a], []⟩ = pure () := by kernel_rfl
theorem canCreate : ((Manifest.find? "reversed").bind (·.mro.findSome? fun t => (Manifest.find? t).bind fun b => if b.noNew then some true else if b.attrs.any (·.1 == "__new__") then some false else none)).getD false = false := by decide +kernel
theorem plain_new : plainId "reversed.__new__" = true := by decide +kernel
theorem other : isSubtype (.type "list_reverseiterator") (.type "reversed") = pure false := by rw [isSubtype_type]; kernel_rfl
end Rv
theorem call_reversed {prog : Program} {w : World} {A : Around} {E : Value -> Shared -> Prop} {s : Shared} {Q : Value -> Shared -> Prop} {l : Addr} {items : Array Value} {n : Nat} {dd : Option Addr} {sl : Array (Option Value)} (hl : s.heap.get? l = some ⟨.type "list", dd, .seq items n, sl⟩)
 (h : Q (.ref s.heap.objs.size) { s with heap := s.heap.push (revO l ((items.size : Int) - 1)) }) : wpAny (model prog w) A (call (.type "reversed") [.ref l]) Q E s := by
 have hmro := Rv.mro
 have hmade := Rv.made
 have hct := Rv.typeCall (.ref l)
 have h1 : (Value.type "reversed" == Value.type "type") = false := by decide
 have h2 := Rv.canCreate
 have hoth := Rv.other
 have quiet : (Code.builtin "type.__call__" ⟨[.type "reversed", .ref l], []⟩).quiet = true := Code.quiet_builtin _ (by decide +kernel)
 refine wpAny_call (codeAny_of_tree (show wpAny _ _ (callAny (.type "reversed") _) _ _ _ from wpAny_pure ⟨quiet, codeAny_builtin PySem.F.entry_type_call ?_⟩))
 rw [Around.under_plain (weight_type_call_type "reversed" [.ref l] []) (units_type_call_type "reversed" [.ref l] [])]
 repeat any_goals first | assumption | wp_step
 have new : codeAny (model prog w) A.in1 (.call (.builtin "reversed.__new__") ⟨[.type "reversed", .ref l], []⟩) (fun r s' => r = .ok (.ret (.ref s.heap.objs.size)) /\ s' = { s with heap := s.heap.push (revO l ((items.size : Int) - 1)) }) s :=
  codeAny_call_builtin Rv.plain_new Rv.entry_new (wpAny_of_eq (Rv.newCall (.ref l)) (rev_new l items n dd sl prog w A.in1 (fun r s' => r = .ok (.ret (.ref s.heap.objs.size)) /\ s' = { s with heap := s.heap.push (revO l ((items.size : Int) - 1)) }) s ⟨hl, rfl, rfl⟩))
 refine codeAny_mono new fun r s1 ⟨e1, e2⟩ => ?_
 subst e1 e2
 refine wpAny_bind (wpAny_isInstance (T := "list_reverseiterator") (b := false) (show Shared.TypeIs { s with heap := s.heap.push (revO l ((items.size : Int) - 1)) } (.ref s.heap.objs.size) "list_reverseiterator" from ⟨_, get?_push_size _ rfl, rfl⟩) Rv.other ?_)
 exact wpAny_bind (wpAny_rule (wpAny_pure h))
namespace Rv
theorem slot_next : PySem.Slot "list_reverseiterator" "__next__" "list_reverseiterator.__next__" :=
 by
  refine .of (owner := "list_reverseiterator") (n := "__next__") ?own ?_ ?_ ?_ ?_ ?self
  case own => rw [typeLookup_type, builtinLookup_eq_fast]; kernel_rfl
  case self => rw [isSubtype_type]; kernel_rfl
  all_goals first | decide +kernel | exact .inl (by decide +kernel) | exact .inr (by decide +kernel)
theorem entry_next : entryFor table "list_reverseiterator.__next__" = some Builtin.«list_reverseiterator.__next__» := entryFor_of_tree (by kernel_rfl)
theorem args_next (a : Value) : argsOk "list_reverseiterator.__next__" ⟨[a], []⟩ := by unfold argsOk; kernel_rfl
theorem slot_iter : PySem.Slot "list_reverseiterator" "__iter__" "list_reverseiterator.__iter__" :=
 by
  refine .of (owner := "list_reverseiterator") (n := "__iter__") ?own ?_ ?_ ?_ ?_ ?self
  case own => rw [typeLookup_type, builtinLookup_eq_fast]; kernel_rfl
  case self => rw [isSubtype_type]; kernel_rfl
  all_goals first | decide +kernel | exact .inl (by decide +kernel) | exact .inr (by decide +kernel)
theorem args_iter (a : Value) : argsOk "list_reverseiterator.__iter__" ⟨[a], []⟩ := by unfold argsOk; kernel_rfl
theorem no_len : typeLookup (.type "list_reverseiterator") "__len__" = pure none := by rw [typeLookup_type, builtinLookup_eq_fast]; kernel_rfl
theorem hint : typeLookup (.type "list_reverseiterator") "__length_hint__" = pure (some (.builtin "list_reverseiterator.__length_hint__")) := by rw [typeLookup_type, builtinLookup_eq_fast]; kernel_rfl
end Rv
end Y
namespace Y
open PySem PySem.Spec PyProof.Rows L2
theorem Rv.entry_iter : entryFor table "list_reverseiterator.__iter__" = some Builtin.«dict_keyiterator.__iter__» := entryFor_alias (id' := "dict_keyiterator.__iter__") (by kernel_rfl) (by first | rfl | decide +kernel | (unfold String.splitOn; simp +decide [String.splitOnAux])) (by decide +kernel) (by kernel_rfl)
def IsRev (h : Heap) (it l : Addr) (i : Int) : Prop := ∃ dd sl, h.get? it = some ⟨.type "list_reverseiterator", dd, .fields #[.ref l, rawInt i], sl⟩
theorem IsRev.ty {s : Shared} {it l : Addr} {i : Int} (h : IsRev s.heap it l i) : s.TypeIs (.ref it) "list_reverseiterator" := let ⟨_, _, e⟩ := h; ⟨_, e, rfl⟩
open AutoSeq1 in
theorem rev_next (it l : Addr) (items : Array Value) (n : Nat) (i : Nat) (dd de : Option Addr) (sl sm : Array (Option Value)) (hi : i < items.size) :
 Meets (Builtin.«list_reverseiterator.__next__» ⟨[.ref it], []⟩) (fun _ R s => s.heap.get? it = some ⟨.type "list_reverseiterator", dd, .fields #[.ref l, rawInt (i : Int)], sl⟩ /\ s.heap.get? l = some ⟨.type "list", de, .seq items n, sm⟩ /\
  R (.ok (.ret items[i])) { s with heap := s.heap.update it (Obj.mapFields (·.setIfInBounds 1 (rawInt ((i : Int) - 1)))) }) :=
 .of_wp fun prog w A R s h => by
  obtain ⟨hp, g, d, tk, os⟩ := s
  obtain ⟨hl, hb, h⟩ := h
  have nn : ¬ (i : Int) < 0 := Int.not_lt.mpr (Int.natCast_nonneg i)
  have at_i : items[(i : Int).toNat]? = some items[i] := by rw [Int.toNat_natCast, Array.getElem?_eq_getElem hi]
  unfold Builtin.«list_reverseiterator.__next__»
  wp_walk using wpAny_loadPart' hl, wpAny_loadPart' hb
  rw [at_i]
  exact wpAny_bind (wpAny_setField hl rfl (by show 1 < 2; decide) (wpAny_pure ⟨_, rfl, h⟩))
open AutoSeq1 in
theorem rev_end (it l : Addr) (dd : Option Addr) (sl : Array (Option Value)) :
 Meets (Builtin.«list_reverseiterator.__next__» ⟨[.ref it], []⟩) (fun A R s => A.handled = none /\ s.heap.get? it = some ⟨.type "list_reverseiterator", dd, .fields #[.ref l, rawInt (-1)], sl⟩ /\
  ∀ h' e, (∀ b o, s.heap.get? b = some o -> h'.get? b = some o) -> (∃ o, h'.get? e = some o /\ o.cls = .type "StopIteration") -> R (.error (.ref e)) { s with heap := h' }) :=
 .of_wp fun prog w A R s h => by
  obtain ⟨hp, g, d, tk, os⟩ := s
  obtain ⟨hh, hl, h⟩ := h
  have hh1 : A.in1.handled = none := hh
  unfold Builtin.«list_reverseiterator.__next__» Builtin.SmallTypes.stopIteration newExc newTuple raiseNew
  wp_walk using wpAny_loadPart' hl, wpAny_newObj_type
  . exact h _ _ (fun b o e => get?_push_of_some _ (get?_push_of_some _ e)) ⟨_, get?_push_size _ rfl, rfl⟩
  all_goals size_fits
section
variable {prog : Program} {w : World} {A : Around} {E : Value -> Shared -> Prop} {s : Shared} {it l : Addr} {items : Array Value}
theorem rev_item {Q : Option Value -> Shared -> Prop} {i : Nat} (st : IsRev s.heap it l (i : Int)) (hl : s.heap.IsList l items) (hi : i < items.size)
 (q : ∀ h', IsRev h' it l ((i : Int) - 1) -> Heap.SameBut it s.heap h' -> Q (some items[i]) { s with heap := h' }) : wpAny (model prog w) A (pyNext (.ref it)) Q E s := by
 have T := st.ty
 obtain ⟨dd, sl, ho⟩ := st
 obtain ⟨⟨c, de, dt, sm⟩, hb, hc, n, hd⟩ := hl
 obtain rfl : c = _ := hc
 obtain rfl : dt = _ := hd
 have run := call_meets (E := fun _ _ => False) (Q := fun v s' => v = items[i] /\ ∃ h', IsRev h' it l ((i : Int) - 1) /\ Heap.SameBut it s.heap h' /\ s' = { s with heap := h' }) (prog := prog) (w := w) (A := A) Rv.slot_next T Rv.entry_next (Rv.args_next _) (rev_next it l items n i dd de sl sm hi)
  ⟨ho, hb, rfl, _, ⟨dd, sl, Heap.get?_update_self _ ho rfl⟩, Heap.SameBut.update .., rfl⟩
 unfold pyNext
 exact wpAny_bind (wpAny_attempt (wpAny_callSpecial?_slot T Rv.slot_next (wpAny_mono run (fun v s' ⟨e, h', k1, k2, e'⟩ => by subst e e'; exact wpAny_pure (q h' k1 k2)) fun _ _ f => f.elim)))
theorem rev_over {Q : Option Value -> Shared -> Prop} (hh : A.handled = none) (st : IsRev s.heap it l (-1)) (q : ∀ h', (∀ b o, s.heap.get? b = some o -> h'.get? b = some o) -> Q none { s with heap := h' }) : wpAny (model prog w) A (pyNext (.ref it)) Q E s := by
 have T := st.ty
 obtain ⟨dd, sl, ho⟩ := st
 have run := call_meets (Q := fun _ _ => False) (E := fun x s' => ∃ h' e, x = .ref e /\ (∀ b o, s.heap.get? b = some o -> h'.get? b = some o) /\ (∃ o, h'.get? e = some o /\ o.cls = .type "StopIteration") /\ s' = { s with heap := h' }) (prog := prog) (w := w) (A := A) Rv.slot_next T Rv.entry_next (Rv.args_next _) (rev_end it l dd sl)
  ⟨hh, ho, fun h' e k1 k2 => ⟨h', e, rfl, k1, k2, rfl⟩⟩
 unfold pyNext
 refine wpAny_bind (wpAny_attempt (wpAny_callSpecial?_slot T Rv.slot_next (wpAny_mono run (fun _ _ f => f.elim) fun x s' ⟨h', e, ex, k1, ⟨o, k2, k3⟩, es'⟩ => ?_)))
 subst ex es'
 exact wpAny_bind (wpAny_isInstance (b := true) ⟨o, k2, k3⟩ isSubtype_stop (wpAny_pure (q h' k1)))
theorem rev_self {Q : Value -> Shared -> Prop} {i : Int} (st : IsRev s.heap it l i) (h : Q (.ref it) s) : wpAny (model prog w) A (pyIter (.ref it)) Q E s := by
 have T := st.ty
 refine wpAny_pyIter_slot T Rv.slot_iter (wpAny_call_entry Rv.slot_iter T Rv.entry_iter ?_ (Rv.args_iter _))
 show wpAny (model prog w) _ (ret (.ref it)) _ _ s
 exact wpAny_pure ⟨_, rfl, "list_reverseiterator", _, T, Rv.slot_next.lookup, h⟩
theorem rev_walk (hh : A.handled = none) (hne : l ≠ it) : WalksS prog w A it [it, l] [it] (fun a b => a = b) items.size (fun i v => items[items.size - 1 - i]? = some v) (fun i s => IsRev s.heap it l ((items.size : Int) - 1 - (i : Nat)) /\ s.heap.IsList l items) where
 sub := fun b hb => by simp at hb; simp [hb]
 grefl := fun _ => rfl
 gtrans := fun _ _ _ a b => a.trans b
 frame := fun i s h' tk ⟨⟨dd, sl, e⟩, o, e2, r⟩ _ k => ⟨⟨dd, sl, k it (by simp) _ e⟩, o, k l (by simp) _ e2, r⟩
 item := fun i s Q E hi ⟨st, hl⟩ hQ => by
  have e : (items.size : Int) - 1 - (i : Nat) = ((items.size - 1 - i : Nat) : Int) := by omega
  rw [e] at st
  refine rev_item st hl (by omega) fun h' st' sb => hQ _ _ (by simp) ⟨?_, hl.extBut sb.extBut hne⟩ ⟨fun b o hb x => sb.extBut b o (fun z => hb (by simp [z])) x, rfl, rfl, rfl, Nat.le_refl _⟩
  rw [<- e] at st'
  rw [show (items.size : Int) - 1 - ((i + 1 : Nat) : Int) = (items.size : Int) - 1 - (i : Nat) - 1 by omega]
  exact st'
 done := fun s Q E ⟨st, hl⟩ hQ => by
  rw [show (items.size : Int) - 1 - (items.size : Nat) = -1 by omega] at st
  exact rev_over hh st fun h' k => hQ _ ⟨fun b o _ e => k b o e, rfl, rfl, rfl, Nat.le_refl _⟩
 self := fun i s Q E ⟨st, _⟩ h => rev_self st h
end
end Y
namespace Y
open PySem PySem.Spec PyProof.Rows L2 PySem.SeqAt
section
variable {prog : Program} {w : World} {A : Around} {E : Value -> Shared -> Prop} {s : Shared} {it l S : Addr} {items : Array Value}
theorem rev_hint {Q : Bool -> Shared -> Prop} (T : s.TypeIs (.ref it) "list_reverseiterator") (h : Q false s) : wpAny (model prog w) A (Builtin.List.listLengthHint (.ref it)) Q E s := by
 have sub : isSubtype (.type "list_reverseiterator") (.type "list_reverseiterator") = pure true := by rw [isSubtype_type]; kernel_rfl
 unfold Builtin.List.listLengthHint
 refine wpAny_bind (wpAny_specialOf T Rv.no_len ?_)
 refine wpAny_bind (wpAny_specialOf T Rv.hint ?_)
 generalize hid : ("list_reverseiterator.__length_hint__" : String) = z
 wp_delta
 have sp : splitId z = some ("list_reverseiterator", "__length_hint__") := by subst hid; decide +kernel
 rw [sp]
 subst hid
 refine wpAny_bind (wpAny_isInstance (b := true) T sub ?_)
 exact wpAny_pure h
abbrev AftR (prog : Program) (w : World) (A : Around) (R : Result -> Shared -> Prop) : Fin -> Shared -> Prop := fun x st => match x with
 | .done f => R (.ok f) st
 | .again c => c.quiet = true /\ codeAny (model prog w) A c R st
theorem rev_extend {R : Result -> Shared -> Prop} {c0 : Nat} {res : Value} (hh : A.handled = none) (st : IsRev s.heap it l ((items.size : Int) - 1)) (hl : s.heap.IsList l items) (hne : l ≠ it) (hS : s.heap.get? S = some { cls := .type "list", data := .seq #[] c0 }) (hSi : S ≠ it) (hSl : S ≠ l) (hn : items.size <= sizeLine)
 (hR : ∀ s' acc c, (∀ b o, b ≠ S -> b ≠ it -> s.heap.get? b = some o -> s'.heap.get? b = some o) -> s'.gens = s.gens -> s'.drawn = s.drawn -> s'.os = s.os -> s'.heap.get? S = some { cls := .type "list", dict := none, data := .seq acc c, slots := #[] } -> ItemsOf (fun i v => items[items.size - 1 - i]? = some v) acc items.size -> R (.ok (.ret res)) s') :
 wpAny (model prog w) A.in1 (Builtin.List.listExtendWith (.ref S) (.ref it) res) (AftR prog w A R) (fun e s' => R (.error e) s') s := by
 have W := rev_walk (prog := prog) (w := w) (A := A.in1) (items := items) (l := l) (it := it) hh hne
 have same : Builtin.List.listSameRef (.ref S) (.ref it) = false := by simp [Builtin.List.listSameRef, hSi]
 have st0 : IsRev s.heap it l ((items.size : Int) - 1 - ((0 : Nat) : Int)) := by rw [show (items.size : Int) - 1 - ((0 : Nat) : Int) = (items.size : Int) - 1 by omega]; exact st
 unfold Builtin.List.listExtendWith
 refine wpAny_bind (wpAny_typeOf st.ty ?_)
 rw [if_neg (by rw [same]; decide)]
 refine wpAny_bind (rev_self st (wpAny_bind (wpAny_holding (rev_hint st.ty ?_))))
 rw [if_neg (by decide)]
 exact wpAny_pure ⟨plainId_quiet PySem.F.plain_extend_loop _, codeAny_extend_loopS W hn S (by simp [hSi, hSl]) res items.size 0 s #[] c0 rfl (Nat.zero_le _) ⟨st0, hl⟩ hS (ItemsOf.nil _) fun s' acc c m a b => hR s' acc c (fun x o h1 h2 e => m.heap x o (by simp [h1, h2]) e) m.gens.symm m.drawn m.os a b⟩
theorem call_list_rev {Q : Value -> Shared -> Prop} (hh : A.handled = none) (st : IsRev s.heap it l ((items.size : Int) - 1)) (hl : s.heap.IsList l items) (hne : l ≠ it) (hn : items.size <= sizeLine)
 (hQ : ∀ s' acc c, (∀ b o, b ≠ it -> s.heap.get? b = some o -> s'.heap.get? b = some o) -> s'.gens = s.gens -> s'.drawn = s.drawn -> s'.os = s.os -> s'.heap.get? s.heap.objs.size = some { cls := .type "list", dict := none, data := .seq acc c, slots := #[] } -> ItemsOf (fun i v => items[items.size - 1 - i]? = some v) acc items.size -> Q (.ref s.heap.objs.size) s') :
 wpAny (model prog w) A (call (.type "list") [.ref it]) Q E s := by
 let nw' : Shared := { s with heap := s.heap.push { cls := .type "list", data := .seq #[] } }
 have made := code_list_new (prog := prog) (w := w) (A := A.in1) (E := E) (s := s) (.ref it) (Q₁ := fun o st => (o, st) = (.ref s.heap.objs.size, nw')) rfl
 refine callType_codes PySem.F.called_list (PySem.F.typeCall_list_1 _) PySem.F.entry_list_init made fun obj s₁ e => ?_
 cases e
 obtain ⟨ol, hol, rl⟩ := id hl
 obtain ⟨dd, sl, hoi⟩ := id st
 have li := lt_size hoi
 have ll := lt_size hol
 have hS : (s.heap.push { cls := .type "list", data := .seq #[] }).get? s.heap.objs.size = some { cls := .type "list", data := .seq #[] } := get?_push_size _ rfl
 refine ⟨⟨_, hS, rfl⟩, PySem.F.args_list_init_2 _ _, ?_⟩
 show wpAny _ _ (Builtin.List.listItems (.ref s.heap.objs.size) >>= fun old => Builtin.List.listUpdate (.ref s.heap.objs.size) (fun _ => #[]) >>= fun _ => letGo old.toList.reverse >>= fun _ => Builtin.List.listExtendWith (.ref s.heap.objs.size) (.ref it) .none) _ _ _
 refine wpAny_bind (listItems_at hS rfl (wpAny_bind (listUpdate_at hS rfl (wpAny_bind (wpAny_letGo ?_)) (by simp) (by simp))))
 have hS2 := Heap.get?_update_self (Obj.mapSeq (fun _ => (#[] : Array Value))) hS rfl
 have oth : ∀ b o, b ≠ s.heap.objs.size -> s.heap.get? b = some o -> ((s.heap.push { cls := .type "list", data := .seq #[] }).update s.heap.objs.size (Obj.mapSeq (fun _ => (#[] : Array Value)))).get? b = some o := fun b o hb e => (Heap.get?_update_other _ _ (Ne.symm hb)).trans (get?_push_of_some _ e)
 refine rev_extend (A := A.in1) (items := items) hh ⟨dd, sl, oth it _ (Nat.ne_of_lt li) hoi⟩ ⟨ol, oth l _ (Nat.ne_of_lt ll) hol, rl⟩ hne hS2 (Nat.ne_of_gt li) (Nat.ne_of_gt ll) hn fun s' acc c k1 k2 k3 k4 k5 k6 => ⟨rfl, hQ s' acc c (fun b o hb e => k1 b o (Nat.ne_of_lt (lt_size e)) hb (oth b o (Nat.ne_of_lt (lt_size e)) e)) k2 k3 k4 k5 k6⟩
end
section
variable [Tabs] {X : Cx} {ρ : List (Option D)} {m m1 : Bool} {a : Expr} {ds : List D} {p p2 pos pos2 : Pos}
theorem rev_vals {xs : List V} {its : List Value} {acc : Array Value} (rv : Vals xs its) (h : ItemsOf (fun i v => its.toArray[its.toArray.size - 1 - i]? = some v) acc its.toArray.size) : Vals xs.reverse acc.toList := by
 have hl := rv.length
 have hz : its.toArray.size = its.length := size_toArray ..
 have h1 : acc.size = its.toArray.size := h.1
 have h2 : acc.toList.length = acc.size := Array.length_toList
 have h3 : xs.reverse.length = acc.toList.length := by rw [List.length_reverse]; omega
 refine paired_of h3 fun i x v e1 e2 => ?_
 have hi : i < xs.length := by have := (List.getElem?_eq_some_iff.mp e1).1; rwa [List.length_reverse] at this
 have q := h.2 i v (by simpa using e2)
 rw [List.getElem?_reverse hi] at e1
 obtain ⟨u, eu, ru⟩ := rv.get e1
 have q : its[its.toArray.size - 1 - i]? = some v := by simpa using q
 rw [hz, <- hl, eu] at q
 cases q
 exact ru
theorem ins_reverse {K : Frag} {H : Hp} {Z : Zone} : ∀ {ds : List D} {vs : List V}, Ins K H Z ds vs -> Ins K H Z ds.reverse vs.reverse
 | [], vs, h => by cases ins_nil.mp h; exact ins_nil.mpr rfl
 | d :: ds, vs, h => by
  obtain ⟨v, r, rfl, i, j⟩ := ins_cons.mp h
  rw [List.reverse_cons, List.reverse_cons]
  exact (ins_reverse j).append (Ins.one i)
theorem e_listRev (ha : E X m1 ρ a (.lst ds)) (hh : X.A.handled = none) (hmL : X.mg "list" = none) (hmR : X.mg "reversed" = none) (hmm : m = true -> m1 = true \/ flats ds = true := by intro h; first | exact .inl h | cases h)
 (hgL : Gl X "list" := by rfl) (hgR : Gl X "reversed" := by rfl) (hs : starEach [a] X.env = [(false, eval a X.env)] := by rfl) (hs2 : starEach [.Call (.Name "reversed" p2) [a] [] pos2] X.env = [(false, eval (.Call (.Name "reversed" p2) [a] [] pos2) X.env)] := by rfl) :
 E X m ρ (.Call (.Name "list" p) [.Call (.Name "reversed" p2) [a] [] pos2] [] pos) (.lst ds.reverse) := by
 intro pins s σ H Q I ⟨Z, oz, en, k⟩
 refine wpAny_Call_Name_kw (ld_blt I hgL hmL boot_list ?_ (by decide) (by decide))
 refine callWith_type1 ?_ (by rw [hs2]; rfl) (by rfl)
 rw [hs2]
 refine Calls.spliced_cons ?_
 refine wpAny_Call_Name_kw (ld_blt I hgR hmR boot_reversed ?_ (by decide) (by decide))
 refine callWith_type1 (thn (pa_cons ha pa_nil (by rw [hs]; rfl) pos2 pins s σ H (fun vs H1 => Same H H1 /\ ∃ x, vs = [x] /\ In X.K H1 (out m1 Z H) (.lst ds) x) I ⟨Z, oz, en, fun x H1 s1 i1 => ⟨s1, x, rfl, i1⟩⟩) fun us s1 ⟨vs, H1, I1, r1, sm1, x, e, i1⟩ => ?_) (by rw [hs]; rfl) (by rfl)
 subst e
 obtain ⟨l, xs, rfl, at', j⟩ := in_lst.mp i1
 obtain ⟨u, rfl, rx⟩ := vals1 r1
 cases rx
 obtain ⟨its, rv, pl, hz⟩ := I1.list at'.sq
 have zl := rv.length
 have hlist := pl.isList
 obtain ⟨⟨c, dd, dt, sl⟩, ho, hc, n, hd⟩ := id hlist
 obtain rfl : c = _ := hc
 obtain rfl : dt = _ := hd
 have ll := lt_size ho
 refine call_reversed ho (Calls.spliced_nil ?_)
 have I2 := I1.kept (t' := s1.toks) fun b o e => get?_push_of_some (revO l ((its.toArray.size : Int) - 1)) e
 have gr : (s1.heap.push (revO l ((its.toArray.size : Int) - 1))).get? s1.heap.objs.size = some (revO l ((its.toArray.size : Int) - 1)) := get?_push_size _ rfl
 have hsz : (s1.heap.push (revO l ((its.toArray.size : Int) - 1))).objs.size = s1.heap.objs.size + 1 := size_push' ..
 refine call_list_rev (s := { s1 with heap := s1.heap.push (revO l ((its.toArray.size : Int) - 1)) }) (items := its.toArray) hh ⟨_, _, gr⟩ ⟨_, get?_push_of_some _ ho, rfl, n, rfl⟩ (Nat.ne_of_lt ll) (by rw [size_toArray, <- zl]; exact hz) fun s' acc c k1 k2 k3 k4 k5 k6 => ?_
 have vv := rev_vals rv k6
 have hS0 : H1 (s1.heap.push (revO l ((its.toArray.size : Int) - 1))).objs.size = none := I1.hok.fresh (by rw [hsz]; exact Nat.le_succ _)
 have hr0 : H1 s1.heap.objs.size = none := I1.hok.fresh (Nat.le_refl _)
 have keep : ∀ {b : Addr} {o : HO}, H1 b = some o -> upd H1 (s1.heap.push (revO l ((its.toArray.size : Int) - 1))).objs.size (.lst xs.reverse) b = some o := fun {b o} e => by rw [upd_ne (ne_of_none e hS0)]; exact e
 obtain ⟨f0, f1, f2, f3, f4, f5⟩ := I1.fpOk (b := s1.heap.objs.size) (Nat.le_refl _) hr0
 have I3 : Inv X pins σ (upd H1 (s1.heap.push (revO l ((its.toArray.size : Int) - 1))).objs.size (.lst xs.reverse)) s' := by
  refine Inv.call' (ch := [s1.heap.objs.size]) I2 k4 ⟨fun b o q _ _ hx => k1 b o (by simpa using hx) q, fun b o q _ _ hx => ⟨o.slots, k1 b o (by simpa using hx) q⟩, fun b o q nn _ => ?_, fun b o q hx => ⟨o, k1 b o (by simpa using hx) q⟩, fun b ys q => keep q, fun b o u q => keep q, fun b ps q => ⟨#[], by rw [keep q]; simp⟩⟩ (fun b u e => ?_) (by rw [k2]; exact I2.bare) fun b hb => ?_
  . rw [upd_ne (Nat.ne_of_lt (lt_size q))]; exact nn
  . by_cases z : b = (s1.heap.push (revO l ((its.toArray.size : Int) - 1))).objs.size
    . subst z
      rw [upd_same] at e
      cases e
      exact ⟨by rw [List.length_reverse]; exact hz, acc.toList, c, vv, by simpa using k5⟩
    . rw [upd_ne z] at e
      refine (I2.hok b u e).stay (fun d v hv q => k1 d v (fun w => ?_) q) (fun d q => keep q) fun d ys q => keep q
      rcases hv with rfl | hv
      . rw [w, hr0] at e; cases e
      . rw [w, hr0] at hv; cases hv
  . obtain rfl : b = s1.heap.objs.size := by simpa using hb
    exact ⟨f3, f1, f4, f5⟩
 have sn := same_new (o := .lst xs.reverse) hS0
 refine ⟨.ref (s1.heap.push (revO l ((its.toArray.size : Int) - 1))).objs.size, _, I3, rfl, k _ _ (sm1.trans sn) (in_lst.mpr ⟨_, _, rfl, .inl ⟨upd_same, ?_⟩, ?_⟩)⟩
 . cases m
   . exact oz.op _ (sm1.free hS0)
   . exact sm1.free hS0
 . have jc := (ins_reverse j).same sn
   cases m
   . cases m1
     . exact jc
     . exact jc.up oz
   . rcases hmm rfl with h | h
     . subst h; exact jc
     . exact jc.flat' (flats_perm (List.reverse_perm ds) h)
end
end Y
namespace Y
open PySem PySem.Spec PyProof.Rows L2
variable [Tabs]
abbrev Ending := (Nat × Nat) × Int × Int
def bestE : List Ending -> Ending
 | [] => ((0, 0), 0, 0)
 | [a] => a
 | a :: b :: r => if a.2.1 <= (bestE (b :: r)).2.1 then a else bestE (b :: r)
theorem Lst1.uniq {kf : Nat -> Int} {n b c : Nat} (h : Lst1 kf n b) (k : Lst1 kf n c) : b = c := by
 obtain ⟨h1, h2⟩ := h
 obtain ⟨k1, k2⟩ := k
 have a := h2 c k1
 have b' := k2 b h1
 rcases Nat.lt_trichotomy b c with q | q | q
 . have := b'.2 q; omega
 . exact q
 . have := a.2 q; omega
def totE (es : List Ending) (i : Nat) : Int := (es.getD i ((0, 0), 0, 0)).2.1
theorem bestE_ix : ∀ {es : List Ending}, es ≠ [] -> ∃ b, Lst1 (totE es) es.length b /\ es[b]? = some (bestE es)
 | [], h => absurd rfl h
 | [a], _ => ⟨0, Lst1.one _, rfl⟩
 | a :: x :: r, _ => by
  obtain ⟨b, hb, e⟩ := bestE_ix (es := x :: r) (by simp)
  have shift : ∀ j, totE (a :: x :: r) (j + 1) = totE (x :: r) j := fun j => by simp [totE]
  have z : totE (a :: x :: r) 0 = a.2.1 := rfl
  have tb : totE (x :: r) b = (bestE (x :: r)).2.1 := by
   unfold totE
   rw [List.getD_eq_getElem?_getD, e]
   rfl
  unfold bestE
  by_cases q : a.2.1 <= (bestE (x :: r)).2.1
  . rw [if_pos q]
    refine ⟨0, ⟨by simp, fun j hj => ⟨?_, fun w => absurd w (Nat.not_lt_zero _)⟩⟩, rfl⟩
    cases j with
    | zero => exact Int.le_refl _
    | succ j =>
     rw [shift, z]
     have := (hb.2 j (by simpa using hj)).1
     omega
  . rw [if_neg q]
    refine ⟨b + 1, ⟨by have := hb.1; simp at this ⊢; omega, fun j hj => ?_⟩, by simpa using e⟩
    cases j with
    | zero => rw [shift, z]; exact ⟨by omega, fun _ => by omega⟩
    | succ j =>
     rw [shift, shift]
     have := hb.2 j (by simpa using hj)
     exact ⟨this.1, fun w => this.2 (by omega)⟩
theorem bestE_mem : ∀ {es : List Ending}, es ≠ [] -> bestE es ∈ es := fun h => by
 obtain ⟨b, _, e⟩ := bestE_ix h
 exact mem_of_getElem? e
theorem bestE_least {es : List Ending} (h : es ≠ []) : (bestE es).2.1 = leastI (es.map (·.2.1)) := by
 refine (leastI_is (ns := es.map (·.2.1)) (m := (bestE es).2.1) (mem_map.mpr ⟨bestE es, bestE_mem h, rfl⟩) fun x hx => ?_).symm
 obtain ⟨y, hy, rfl⟩ := mem_map.mp hx
 obtain ⟨b, hb, e⟩ := bestE_ix h
 obtain ⟨j, hj⟩ := List.getElem?_of_mem hy
 have := (hb.2 j (List.getElem?_eq_some_iff.mp hj).1).1
 unfold totE at this
 rw [List.getD_eq_getElem?_getD, List.getD_eq_getElem?_getD, e, hj] at this
 exact this
def stepK (p : Nat × Nat) : D := .ktup (keyP p)
def gLastStep (ds : List D) (d : D) : Prop := ∃ es : List Ending, es ≠ [] /\ es.length <= 5 /\ ds = [.lst (es.map endD)] /\ d = stepK (bestE es).1
def keyE : D -> D
 | .tup [_, t, _] => t
 | _ => .non
section
variable (price : Nat -> Nat -> Nat × Nat -> Int)
def bestP (i j : Nat) : Nat × Nat := (bestE (endings price (tabM price) i j)).1
def backM : Nat -> Nat -> Nat -> List (Nat × Nat)
 | 0, _, _ => []
 | k + 1, i, j => if i = 0 /\ j = 0 then [] else bestP price i j :: backM k (i - (bestP price i j).1) (j - (bestP price i j).2)
theorem bestP_ok {i j : Nat} (h : ¬ (i = 0 /\ j = 0)) : bestP price i j ∈ stepsP /\ (bestP price i j).1 <= i /\ (bestP price i j).2 <= j /\ (tabM price i j).1 = (tabM price (i - (bestP price i j).1) (j - (bestP price i j).2)).1 + price i j (bestP price i j) := by
 have hne := endings_ne price (tabM price) h
 have hm := bestE_mem hne
 have hl := bestE_least hne
 have he : (tabM price i j).1 = (bestE (endings price (tabM price) i j)).2.1 := by
  rw [tabM_eq]
  unfold entryM
  rw [if_neg h, hl]
 unfold bestP
 generalize bestE (endings price (tabM price) i j) = x at hm he
 unfold endings at hm
 obtain ⟨p, hp, rfl⟩ := mem_map.mp hm
 obtain ⟨h1, h2⟩ := mem_filter.mp hp
 have h2 := of_decide_eq_true h2
 exact ⟨h1, h2.1, h2.2, he⟩
def costP : Nat -> Nat -> List (Nat × Nat) -> Int
 | _, _, [] => 0
 | i, j, p :: r => price (i + p.1) (j + p.2) p + costP (i + p.1) (j + p.2) r
theorem costP_snoc : ∀ (st : List (Nat × Nat)) (i j : Nat) (p : Nat × Nat), costP price i j (st ++ [p]) = costP price i j st + price (i + sum1 st + p.1) (j + sum2 st + p.2) p
 | [], i, j, p => by simp [costP, sum1, sum2]
 | q :: st, i, j, p => by
  rw [cons_append, costP, costP_snoc st, costP]
  have e1 : i + sum1 (q :: st) = i + q.1 + sum1 st := by simp [sum1]; omega
  have e2 : j + sum2 (q :: st) = j + q.2 + sum2 st := by simp [sum2]; omega
  rw [e1, e2]
  omega
theorem back_ok : ∀ (k i j : Nat), i + j < k -> (∀ p ∈ backM price k i j, p ∈ stepsP) /\ sum1 (backM price k i j).reverse = i /\ sum2 (backM price k i j).reverse = j /\ costP price 0 0 (backM price k i j).reverse = (tabM price i j).1 /\ (backM price k i j).length <= i + j
 | 0, i, j, h => by omega
 | k + 1, i, j, h => by
  unfold backM
  by_cases z : i = 0 /\ j = 0
  . rw [if_pos z]
    obtain ⟨rfl, rfl⟩ := z
    refine ⟨by simp, rfl, rfl, ?_, by simp⟩
    show 0 = (tabM price 0 0).1
    rw [tabM_eq]
    rfl
  . rw [if_neg z]
    obtain ⟨b1, b2, b3, b4⟩ := bestP_ok price z
    have hp := stepsP_pos b1
    obtain ⟨r1, r2, r3, r4, r5⟩ := back_ok k (i - (bestP price i j).1) (j - (bestP price i j).2) (by omega)
    refine ⟨fun p hp => ?_, ?_, ?_, ?_, ?_⟩
    . rcases mem_cons.mp hp with rfl | hp
      . exact b1
      . exact r1 p hp
    . rw [List.reverse_cons, sum1_snoc, r2]; omega
    . rw [List.reverse_cons, sum2_snoc, r3]; omega
    . rw [List.reverse_cons, costP_snoc, r2, r3, r4, b4]
      simp only [Nat.zero_add]
      rw [Nat.sub_add_cancel b2, Nat.sub_add_cancel b3]
    . rw [length_cons]; omega
end
def cheapL (ls rs : List (List Str)) (prices : List Int) (ps : List (Str × Str)) : List (Nat × Nat) := (backM (priceE ls rs prices ps) (ls.length + rs.length + 1) ls.length rs.length).reverse
def gCheapest (ds : List D) (d : D) : Prop := ∃ (ls rs : List (List Str)) (prices : List Int) (ps : List (Str × Str)), PaOk ls rs prices ps /\ ls.length <= 20 /\ rs.length <= 20 /\ ds = [rowsD ls, rowsD rs, intsT prices, prsD ps] /\ d = .lst ((cheapL ls rs prices ps).map stepK)
structure IsWay (L R : Nat) (st : List (Nat × Nat)) : Prop where
 ok : ∀ p ∈ st, p ∈ stepsP
 s1 : sum1 st = L
 s2 : sum2 st = R
theorem cheap_way (ls rs : List (List Str)) (prices : List Int) (ps : List (Str × Str)) : IsWay ls.length rs.length (cheapL ls rs prices ps) /\ costP (priceE ls rs prices ps) 0 0 (cheapL ls rs prices ps) = (tabM (priceE ls rs prices ps) ls.length rs.length).1 /\ (cheapL ls rs prices ps).length <= ls.length + rs.length := by
 obtain ⟨h1, h2, h3, h4, h5⟩ := back_ok (priceE ls rs prices ps) (ls.length + rs.length + 1) ls.length rs.length (by omega)
 exact ⟨⟨fun p hp => h1 p (List.mem_reverse.mp hp), h2, h3⟩, h4, by unfold cheapL; rw [List.length_reverse]; exact h5⟩
theorem back_fuel (price : Nat -> Nat -> Nat × Nat -> Int) : ∀ (k k' i j : Nat), i + j < k -> i + j < k' -> backM price k i j = backM price k' i j
 | 0, _, _, _, h, _ => by omega
 | _ + 1, 0, _, _, _, h => by omega
 | k + 1, k' + 1, i, j, h, h' => by
  unfold backM
  by_cases z : i = 0 /\ j = 0
  . rw [if_pos z, if_pos z]
  . rw [if_neg z, if_neg z]
    obtain ⟨b1, b2, b3, _⟩ := bestP_ok price z
    have := stepsP_pos b1
    rw [back_fuel price k k' _ _ (by omega) (by omega)]
theorem back_step (price : Nat -> Nat -> Nat × Nat -> Int) {i j : Nat} (z : ¬ (i = 0 /\ j = 0)) : backM price (i + j + 1) i j = bestP price i j :: backM price (i - (bestP price i j).1 + (j - (bestP price i j).2) + 1) (i - (bestP price i j).1) (j - (bestP price i j).2) := by
 obtain ⟨b1, b2, b3, _⟩ := bestP_ok price z
 have := stepsP_pos b1
 show (if i = 0 /\ j = 0 then [] else _) = _
 rw [if_neg z, back_fuel price (i + j) (i - (bestP price i j).1 + (j - (bestP price i j).2) + 1) _ _ (by omega) (by omega)]
theorem endings_cut {ls rs : List (List Str)} {prices : List Int} {ps : List (Str × Str)} {tab : Nat -> Nat -> Int × Int} {n m : Nat} (hn : n <= ls.length) (hm : m <= rs.length) :
 endings (priceE (ls.take n) (rs.take m) prices ps) tab (ls.take n).length (rs.take m).length = endings (priceE ls rs prices ps) tab n m := by
 have e1 : (ls.take n).length = n := by rw [length_take]; omega
 have e2 : (rs.take m).length = m := by rw [length_take]; omega
 rw [e1, e2]
 unfold endings
 refine map_congr_left fun p _ => ?_
 unfold priceE
 rw [List.take_take, List.take_take, Nat.min_self, Nat.min_self]
theorem flats_stepK (W : List (Nat × Nat)) : flats (W.map stepK) = true := by
 induction W with
 | nil => rfl
 | cons x W ih =>
  simp only [map_cons, flats, Bool.and_eq_true]
  exact ⟨rfl, ih⟩
def slN (r : Rho) (k : Nat) : Nat := match r[k]? with
 | some (some (.pl _ (.int n))) => n.toNat
 | _ => 0
section
variable {X : Cx} {ρ : List (Option D)} {m1 : Bool} {e : Expr} {p pos : Pos} {x : Str} {a : Addr} {kvs : List (List Key × Int)}
theorem ktup_key {pins : List (Addr × Obj)} {σ : St} {H : Hp} {s : Shared} {ks : List Key} {b : Addr} (I : Inv X pins σ H s) (h : KTup X.K b ks) : (tupleKind (mixKind X.prog X.w)).is s.heap ks b := by
 obtain ⟨o, its, n, h1, h2, h3, _, h5⟩ := h
 exact ⟨o, its, n, I.kIn b o h1, h2, h3, items_are h5⟩
theorem e_inKD {ks : List Key} {v : Int} (hm : X.mg x = some (.ref a)) (kd : KD X.K X.prog X.w a kvs) (ns : (a == sysModules) = false) (ha : E X m1 ρ e (.ktup ks)) (hv : valI kvs ks = some v) (hu : X.A.units + 1 < cLine) (hg : Gl X x := by rfl) (hd : (x == ("__debug__" : Str)) = false := by decide) (hb : behindInMarks .In (.Name x p) = false := by rfl) :
 E X true ρ (.Compare e [.In] [.Name x p] pos) (.bl true) := by
 intro pins s σ H Q I ⟨Z, oz, en, k⟩
 refine wpAny_Compare1 (thn (ha pins s σ H (fun y H1 => Same H H1 /\ In X.K H1 Z (.ktup ks) y) I ⟨Z, oz, en, fun y H1 s1 i1 => ⟨s1, i1.plain oz⟩⟩) fun u s1 ⟨y, H1, I1, ry, sm, iy⟩ => ?_) hb
 obtain ⟨b, rfl, kt⟩ := in_ktup.mp iy
 obtain rfl : u = .ref b := ry
 refine thn (pe_glob (X := X) (v := .ref a) hg hm rfl hd pins s1 σ H1 (fun x H2 => x = .ref a /\ H2 = H1) I1 ⟨rfl, rfl⟩) fun u2 s2 ⟨x, H2, I2, rx, ex, eh⟩ => ?_
 subst ex eh
 obtain rfl : u2 = Value.ref a := rx
 obtain ⟨xs, dd, q⟩ := kd.at I2
 obtain ⟨pr, t, g1, g2⟩ := kd_find q hv
 refine wpAny_in_heap (tupleKind_room_in1 hu) (ktup_key I2 kt) ns dd ?_
 rw [g1]
 exact ⟨.bl true, H2, I2.tok _, rfl, k _ H2 sm (in_bl.mpr rfl)⟩
end
section
variable {X : Cx} {F : Fn} {ρ : Rho} {Q : EndD} {rest body : List Stmt} {pos : Pos}
def g2 : D -> Int × Int
 | .tup [.int a, .int b] => (a, b)
 | .ktup [.inl a, .inl b] => (a, b)
 | _ => (0, 0)
end
theorem stepsK_at {p : Nat × Nat} (h : p ∈ stepsP) : valI stepsK (keyP p) = some ((stepNo p.1 p.2 : Nat) : Int) := stepsK_val (stepsP_L h)
def gIsWay (ds : List D) (d : D) : Prop := ∃ (ls rs : List (List Str)) (st : List (Nat × Nat)), IsWay ls.length rs.length st /\ st.length <= 900 /\ ds = [rowsD ls, rowsD rs, .lst (st.map stepK)] /\ d = .bl true
def gWayPrice (ds : List D) (d : D) : Prop := ∃ (ls rs : List (List Str)) (prices : List Int) (ps : List (Str × Str)) (st : List (Nat × Nat)), PaOk ls rs prices ps /\ IsWay ls.length rs.length st /\ st.length <= 900 /\ ds = [rowsD ls, rowsD rs, intsT prices, prsD ps, .lst (st.map stepK)] /\ d = .int (costP (priceE ls rs prices ps) 0 0 st)
theorem sum1_take (st : List (Nat × Nat)) (n : Nat) : sum1 (st.take n) <= sum1 st := by
 conv => rhs; rw [<- take_append_drop n st]
 unfold sum1
 rw [map_append, List.sum_append]
 omega
theorem sum2_take (st : List (Nat × Nat)) (n : Nat) : sum2 (st.take n) <= sum2 st := by
 conv => rhs; rw [<- take_append_drop n st]
 unfold sum2
 rw [map_append, List.sum_append]
 omega
theorem price_from {ls rs : List (List Str)} {prices : List Int} {ps : List (Str × Str)} {i j : Nat} {p : Nat × Nat} : priceE ls rs prices ps (i + p.1) (j + p.2) p = stepP ((ls.drop i).take p.1) ((rs.drop j).take p.2) prices ps := by
 unfold priceE
 rw [Nat.add_sub_cancel, Nat.add_sub_cancel, List.drop_take, List.drop_take, Nat.add_sub_cancel_left, Nat.add_sub_cancel_left]
theorem step_ok {ls rs : List (List Str)} {prices : List Int} {ps : List (Str × Str)} {i j : Nat} {p : Nat × Nat} (ok : PaOk ls rs prices ps) (hp : p ∈ stepsP) (h1 : i + p.1 <= ls.length) (h2 : j + p.2 <= rs.length) : PrOk ((ls.drop i).take p.1) ((rs.drop j).take p.2) prices ps := by
 refine ⟨Nat.le_trans (tot_take_le _ _) (Nat.le_trans (tot_drop_le _ _) ok.tl), Nat.le_trans (tot_take_le _ _) (Nat.le_trans (tot_drop_le _ _) ok.tr), ok.pr, ok.pp, ?_⟩
 have e1 : ((ls.drop i).take p.1).length = p.1 := by rw [length_take, length_drop]; omega
 have e2 : ((rs.drop j).take p.2).length = p.2 := by rw [length_take, length_drop]; omega
 rw [e1, e2]
 exact stepsP_L hp
theorem way_at {L R : Nat} {st : List (Nat × Nat)} (h : IsWay L R st) {n : Nat} {p : Nat × Nat} (e : st[n]? = some p) : p ∈ stepsP /\ sum1 (st.take n) + p.1 <= L /\ sum2 (st.take n) + p.2 <= R /\ st.take (n + 1) = st.take n ++ [p] := by
 have ht : st.take (n + 1) = st.take n ++ [p] := by rw [take_add_one, e]; rfl
 have h1 := sum1_take st (n + 1)
 have h2 := sum2_take st (n + 1)
 rw [ht, sum1_snoc, h.s1] at h1
 rw [ht, sum2_snoc, h.s2] at h2
 exact ⟨h.ok p (mem_of_getElem? e), h1, h2, ht⟩
theorem sumN_cast (f : Nat × Nat -> Nat) (st : List (Nat × Nat)) : (st.map fun p => ((f p : Nat) : Int)).sum = (((st.map f).sum : Nat) : Int) := by
 induction st with
 | nil => rfl
 | cons x st ih => rw [map_cons, List.sum_cons, ih, map_cons, List.sum_cons]; omega
section
variable {X : Cx} {ρ : List (Option D)} {m1 m2 : Bool} {e f : Expr} {d : D} {pos : Pos}
theorem e_inD {ds : List D} (ha : E X m1 ρ e d) (hb : E X m2 ρ f (.lst ds)) (hu : X.A.units + 1 + deps ds < cLine) (hm : behindInMarks .In f = false := by rfl) : E X true ρ (.Compare e [.In] [f] pos) (.bl (ds.any fun e => deq e d)) :=
 e_cmp op_inD ha hb (fun x y H Z Q _ i1 i2 k => ⟨_, _, _, _, i1, i2, hu, k _ _ (Same.refl H) (in_bl.mpr rfl)⟩) hm
end
section
variable {X : Cx} {pins : List (Addr × Obj)} {σ : St} {H : Hp} {A : Around} {l It S : Addr} {R : Result -> Shared -> Prop}
theorem cat_at {s : Shared} {a b : Addr} {xs zs : List V} {E : Value -> Shared -> Prop} {Q : Value -> Shared -> Prop} (I : Inv X pins σ H s) (ha : SqL X.K H a xs) (hb : SqL X.K H b zs) (hz : xs.length + zs.length <= sizeLine)
 (k : ∀ its : List Value, Vals (xs ++ zs) its -> Q (.ref s.heap.objs.size) { s with heap := s.heap.push { cls := .type "list", data := .seq its.toArray } }) : wpAny (model X.prog X.w) A (binaryOp .Add (.ref a) (.ref b)) Q E s := by
 obtain ⟨us, n, sl, r, e, z⟩ := Inv.listX I ha
 obtain ⟨us2, n2, sl2, r2, e2, z2⟩ := Inv.listX I hb
 have h1 := r.length
 have h2 := r2.length
 refine concat_meets ⟨_, e, rfl⟩ ⟨_, e2, rfl⟩ PySem.noFill_list_add PySem.seq_list_add F.slot_list_add F.entry_list_add (F.args_list_add_2 _ _) (list_addW a b us.toArray us2.toArray n n2 none none sl sl2 (by rw [size_toArray, size_toArray]; omega)) ⟨e, e2, ?_⟩
 have ea : us.toArray ++ us2.toArray = (us ++ us2).toArray := by simp
 rw [ea]
 exact k _ (r.append r2)
structure SumAt (X : Cx) (pins : List (Addr × Obj)) (σ : St) (H : Hp) (l It S : Addr) (nss : List (List Int)) (st : Shared) (H' : Hp) (i : Nat) (r : Addr) : Prop where
 inv : Inv X pins σ H' st
 same : Same H H'
 atS : H' S = some (.lst [.ref r])
 atR : H' r = some (.lst ((nss.take i).flatten.map V.int))
 new : H r = none
 fp : FpOk X pins H' It
 it : st.heap.IsListIter It l i
theorem sum_loop {nss : List (List Int)} {xs : List V} (hh : A.handled = none) (hS0 : H S = none) (hlI : l ≠ It) (hSI : S ≠ It) (hq : SqL X.K H l xs) (hlen : xs.length = nss.length) (hx : ∀ (i : Nat) (ns : List Int), nss[i]? = some ns -> ∃ p, xs[i]? = some (.ref p) /\ SqL X.K H p (ns.map V.int)) (hz : nss.flatten.length <= 1000)
 (fin : ∀ H' st r, Inv X pins σ H' st -> Same H H' -> H' r = some (.lst (nss.flatten.map V.int)) -> H r = none -> R (.ok (.ret (.ref r))) st) :
 ∀ (k i : Nat) (st : Shared) (H' : Hp) (r : Addr), nss.length - i = k -> i <= nss.length -> SumAt X pins σ H l It S nss st H' i r -> codeAny (model X.prog X.w) A (.builtin "sum.loop" ⟨[.ref It, .ref S, rawInt 2, rawInt 0], []⟩) R st := by
 intro k
 induction k with
 | zero =>
  intro i st H' r hk hi M
  obtain rfl : i = nss.length := by omega
  obtain ⟨zl, its, n2, rv, ll, ho⟩ := M.inv.lstM M.atS
  obtain ⟨lis, rl, pl, hz⟩ := M.inv.list (M.same.seq hq)
  have z2 := rl.length
  have W := Walks.list (prog := X.prog) (w := X.w) (A := A.in1) hh It l hlI lis.toArray
  refine codeAny_builtin PySem.F.entry_sum_loop ?_
  rw [Around.under_plainId PySem.F.plain_sum_loop _]
  show wpAny _ A.in1 (seqItems? (.ref S) >>= _) _ _ _
  refine wpAny_bind (wpAny_seqItems ho rfl ?_)
  match its, rv with
  | [u], .cons ru .nil =>
   obtain rfl : u = .ref r := ru
   refine wpAny_bind (wpAny_tryCatch (W.done _ _ _ ⟨by rw [size_toArray, <- z2, hlen]; exact M.it, pl.isList⟩ fun h' tk' hk' => ?_))
   have I1 : Inv X pins σ H' { st with heap := h', toks := tk' } := M.inv.turned (it := It) (fun b o nb e => hk' b o (by simpa using nb) e) M.fp.1 M.fp.2.1 M.fp.2.2.2.1 M.fp.2.2.2.2.1 M.fp.2.2.2.2.2
   exact wpAny_pure (fin _ _ r I1 M.same (by have := M.atR; rwa [take_length] at this) M.new)
 | succ k ih =>
  intro i st H' r hk hi M
  have hlt : i < nss.length := by omega
  obtain ⟨zl, its, n2, rv, ll, ho⟩ := M.inv.lstM M.atS
  obtain ⟨lis, rl, pl, hzl⟩ := M.inv.list (M.same.seq hq)
  have z2 := rl.length
  have W := Walks.list (prog := X.prog) (w := X.w) (A := A.in1) hh It l hlI lis.toArray
  obtain ⟨p, ep, hp⟩ := hx i nss[i] (by simp [hlt])
  obtain ⟨u, eu, ru⟩ := rl.get ep
  obtain rfl : u = .ref p := ru
  refine codeAny_builtin PySem.F.entry_sum_loop ?_
  rw [Around.under_plainId PySem.F.plain_sum_loop _]
  show wpAny _ A.in1 (seqItems? (.ref S) >>= _) _ _ _
  refine wpAny_bind (wpAny_seqItems ho rfl ?_)
  match its, rv with
  | [u], .cons ru .nil =>
   obtain rfl : u = .ref r := ru
   refine wpAny_bind (wpAny_tryCatch (W.item i _ _ _ (by rw [size_toArray]; omega) ⟨M.it, pl.isList⟩ fun x h' tk' hx hst' hk' => ?_))
   obtain rfl : x = .ref p := by
    have hx : lis[i]? = some x := by simpa using hx
    rw [eu] at hx
    exact (Option.some.inj hx).symm
   have I1 : Inv X pins σ H' { st with heap := h', toks := tk' } := M.inv.turned (it := It) (fun b o nb e => hk' b o (by simpa using nb) e) M.fp.1 M.fp.2.1 M.fp.2.2.2.1 M.fp.2.2.2.2.1 M.fp.2.2.2.2.2
   obtain ⟨oI, hoI, hc, hd⟩ := id hst'.1
   have htk : (nss.take (i + 1)).flatten = (nss.take i).flatten ++ nss[i] := by
    have e : nss.take (i + 1) = nss.take i ++ [nss[i]] := by rw [take_add_one, List.getElem?_eq_getElem hlt]; rfl
    rw [e, flatten_append]
    simp
   have hle : (nss.take i).flatten.length + nss[i].length <= 1000 := by
    have h1 : nss.flatten = (nss.take (i + 1)).flatten ++ (nss.drop (i + 1)).flatten := by rw [<- flatten_append, take_append_drop]
    rw [htk] at h1
    rw [h1] at hz
    simp only [List.length_append] at hz
    omega
   refine wpAny_bind (wpAny_attempt (wpAny_holding (cat_at (A := A.in1) I1 (.inl (.inl M.atR)) (M.same.seq hp) (by rw [length_map, length_map]; exact Nat.le_of_lt (small1000 hle)) fun ns rn => ?_)))
   have hzn : ((nss.take i).flatten.map V.int ++ nss[i].map V.int).length <= sizeLine := by rw [List.length_append, length_map, length_map]; exact Nat.le_of_lt (small1000 hle)
   have I2 := I1.lnew (t' := tk') rn hzn
   have fr : H' h'.objs.size = none := I1.fresh
   have sm2 : Same H' (upd H' h'.objs.size (.lst ((nss.take i).flatten.map V.int ++ nss[i].map V.int))) := same_new fr
   have hS2 : (upd H' h'.objs.size (.lst ((nss.take i).flatten.map V.int ++ nss[i].map V.int))) S = some (.lst [.ref r]) := sm2.at M.atS
   obtain ⟨zl3, its3, n3, rv3, ll3, ho3⟩ := I2.lstM hS2
   refine wpAny_bind (wpAny_updateSeq ho3 rfl (wpAny_bind (wpAny_letGo ?_)))
   have I3 := I2.lset (t' := tk') (its' := [.ref h'.objs.size]) (ys := [.ref h'.objs.size]) (f := fun _ => #[.ref h'.objs.size]) hS2 ho3 rfl (.cons rfl .nil) (by show 1 <= sizeLine; decide)
   obtain ⟨zl4, its4, n4, rv4, ll4, ho4⟩ := I3.lstM (l := S) upd_same
   refine wpAny_bind (wpAny_updateSeq ho4 rfl (wpAny_pure ⟨plainId_quiet PySem.F.plain_sum_loop _, ?_⟩))
   have I4 := I3.lset (t' := tk') (its' := [.ref h'.objs.size]) (ys := [.ref h'.objs.size]) (f := fun _ => #[.ref h'.objs.size]) upd_same ho4 rfl (.cons rfl .nil) (by show 1 <= sizeLine; decide)
   have hpS : h'.objs.size ≠ S := fun z => by rw [z, M.atS] at fr; cases fr
   have hIp : It ≠ h'.objs.size := Nat.ne_of_lt (lt_size hoI)
   refine ih (i + 1) _ _ h'.objs.size (by omega) hlt ⟨I4, ((M.same.trans sm2).write hS0 hS2).write hS0 upd_same, upd_same, ?_, M.same.free fr, fp_heap M.fp ?_, oI, ?_, hc, hd⟩
   . rw [upd_ne hpS, upd_ne hpS, upd_same, htk, map_append]
   . rw [upd_ne (Ne.symm hSI), upd_ne (Ne.symm hSI), upd_ne hIp]
     exact M.fp.1
   . exact (Heap.get?_update_other _ _ hSI).trans ((Heap.get?_update_other _ _ hSI).trans (get?_push_of_some _ hoI))
theorem args_sumS (a v : Value) : argsOk "sum" ⟨[a], [(Str.ofString "start", v)]⟩ := by unfold argsOk; kernel_rfl
theorem sub_list_ba : isSubtype (.type "list") (.type "bytearray") = pure false := by rw [isSubtype_type]; kernel_rfl
theorem call_sumL {s : Shared} {nss : List (List Int)} {xs : List V} {e : Addr} {E : Value -> Shared -> Prop} {Q : Value -> Shared -> Prop} {H0 : Hp} (hh : A.handled = none) (I : Inv X pins σ H s) (hq : SqL X.K H0 l xs) (hlen : xs.length = nss.length) (hx : ∀ (i : Nat) (ns : List Int), nss[i]? = some ns -> ∃ p, xs[i]? = some (.ref p) /\ SqL X.K H0 p (ns.map V.int)) (hz : nss.flatten.length <= 1000)
 (sm0 : Same H0 H) (he : H e = some (.lst [])) (he0 : H0 e = none)
 (fin : ∀ H' st r, Inv X pins σ H' st -> Same H0 H' -> H' r = some (.lst (nss.flatten.map V.int)) -> H0 r = none -> Q (.ref r) st) :
 wpAny (model X.prog X.w) A (call (.builtin "sum") [.ref l] [(("start" : Str), .ref e)]) Q E s := by
 obtain ⟨lis, rl, pl, hzz⟩ := I.list (sm0.seq hq)
 obtain ⟨_, eis, en, rve, _, hoe⟩ := I.lstM he
 have hl : l < s.heap.objs.size := by
  obtain ⟨o, ho, _⟩ := pl.isList
  exact lt_size ho
 refine kmk_tree PySem.F.kind_sum PySem.F.plain_sum PySem.F.entry_sum (args_sumS _ _) ?_
 unfold Builtin.«sum»
 simp only [length_cons, List.length_nil]
 rw [if_neg (by decide)]
 refine wpAny_bind (wpAny_of_eq (a := [some (.ref e)]) rfl (wpAny_bind (wpAny_pyIter_list pl.isList ?_)))
 have te : Shared.TypeIs { s with heap := s.heap.push { cls := .type "list_iterator", data := .fields #[.ref l, .int 0 0] } } (.ref e) "list" := ⟨_, get?_push_of_some _ hoe, rfl⟩
 refine wpAny_bind (wpAny_pure ?_)
 simp only [List.forIn_cons, List.forIn_nil]
 refine wpAny_bind (wpAny_bind (wpAny_bind (wpAny_isInstance (b := false) te PySem.F.sub_list_str ?_)))
 simp only [Bool.false_eq_true, if_false]
 refine wpAny_pure (wpAny_bind (wpAny_bind (wpAny_isInstance (b := false) te PySem.F.sub_list_bytes ?_)))
 simp only [Bool.false_eq_true, if_false]
 refine wpAny_pure (wpAny_bind (wpAny_bind (wpAny_isInstance (b := false) te sub_list_ba ?_)))
 simp only [Bool.false_eq_true, if_false]
 refine wpAny_pure (wpAny_pure ?_)
 refine wpAny_bind (wpAny_newList ?_ (by show 1 <= sizeLine; decide))
 have I1 := I.kept (t' := s.toks) fun b o e => get?_push_of_some { cls := .type "list_iterator", data := .fields #[.ref l, .int 0 0] } e
 have I2 := I1.lnew (ys := [.ref e]) (its := [.ref e]) (t' := s.toks) (.cons rfl .nil) (by show 1 <= sizeLine; decide)
 have hsz : (s.heap.push { cls := .type "list_iterator", data := .fields #[.ref l, .int 0 0] }).objs.size = s.heap.objs.size + 1 := size_push' ..
 have hS0 : H (s.heap.push { cls := .type "list_iterator", data := .fields #[.ref l, .int 0 0] }).objs.size = none := I.hok.fresh (by rw [hsz]; exact Nat.le_succ _)
 have hSI : (s.heap.push { cls := .type "list_iterator", data := .fields #[.ref l, .int 0 0] }).objs.size ≠ s.heap.objs.size := by rw [hsz]; exact Nat.succ_ne_self _
 have sm := same_new (o := .lst [.ref e]) hS0
 refine wpAny_pure ⟨plainId_quiet PySem.F.plain_sum_loop _, sum_loop (H := H0) (nss := nss) (xs := xs) hh (sm0.free hS0) (Nat.ne_of_lt hl) hSI hq hlen hx hz (fun H' st r a1 a2 a3 a4 => fin H' st r a1 a2 a3 a4) _ 0 _ _ e rfl (Nat.zero_le _) ⟨I2, sm0.trans sm, upd_same, ?_, he0, I.fpOk (Nat.le_refl _) (by rw [upd_ne (Ne.symm hSI)]; exact I.hok.fresh (Nat.le_refl _)), _, get?_push_of_some _ (get?_push_size _ rfl), rfl, rfl⟩⟩
 exact sm.at he
end
section
variable {X : Cx} {ρ : List (Option D)} {m1 : Bool} {a b : Expr} {p kp pos : Pos}
theorem e_sumL (nss : List (List Int)) (ha : E X m1 ρ a (.lst (nss.map fun ns => .lst (ns.map D.int)))) (hb : E X true ρ b (.lst [])) (hz : nss.flatten.length <= 1000) (hh : X.A.handled = none) (hm : X.mg "sum" = none) (hg : Gl X "sum" := by rfl) (hs : starEach [a] X.env = [(false, eval a X.env)] := by rfl) :
 E X true ρ (.Call (.Name "sum" p) [a] [⟨some "start", b, kp⟩] pos) (.lst (nss.flatten.map D.int)) := by
 intro pins s σ H Q I ⟨Z, oz, en, k⟩
 refine wpAny_Call_Name_kw (ld_blt I hg hm boot_sum ?_ (by decide) (by decide))
 have PAa := pa_cons ha pa_nil (by rw [hs]; rfl)
 refine callWith_kw (thn (PAa pos pins s σ H (fun vs H1 => Same H H1 /\ ∃ x, vs = [x] /\ In X.K H1 (out m1 Z H) (.lst (nss.map fun ns => .lst (ns.map D.int))) x) I ⟨Z, oz, en, fun x H1 s1 i1 => ⟨s1, x, rfl, i1⟩⟩) fun us s1 ⟨vs, H1, I1, r1, sm1, x, e, i1⟩ => ?_) (by rw [hs]; rfl) (by rw [hs]; rfl) rfl rfl
 subst e
 obtain ⟨l, xs, rfl, at', j⟩ := in_lst.mp i1
 obtain ⟨u, rfl, rx⟩ := vals1 r1
 cases rx
 refine kws_cons (thn (hb pins s1 σ H1 (fun y H2 => Same H1 H2 /\ In X.K H2 (out true Z H1) (.lst []) y) I1 ⟨Z, oz.same sm1, en.same sm1, fun y H2 s2 i2 => ⟨s2, i2⟩⟩) fun w s2 ⟨y, H2, I2, rw', sm2, i2⟩ => kws_nil ?_)
 obtain ⟨q, ys, rfl, aq, jq⟩ := in_lst.mp i2
 obtain rfl : w = .ref q := rw'
 obtain rfl := ins_nil.mp jq
 have zx := j.length
 rw [length_map] at zx
 refine call_sumL (H0 := H1) (nss := nss) (xs := xs) hh I2 at'.sq zx.symm (fun i ns hi => ?_) hz sm2 ?_ ?_ fun H3 s3 r I3 sm3 hr0 hr1 => ⟨.ref r, H3, I3, rfl, k _ H3 (sm1.trans sm3) (in_lst.mpr ⟨r, _, rfl, .inl ⟨hr0, sm1.free hr1⟩, ins_ints _⟩)⟩
 . obtain ⟨v, ev, iv⟩ := j.get (i := i) (d := .lst (ns.map D.int)) (by rw [getElem?_map, hi]; rfl)
   obtain ⟨p', zs, rfl, ap, jp⟩ := in_lst.mp iv
   rw [ins_ints_inv jp] at ap
   exact ⟨p', ev, ap.sq⟩
 . rcases aq with ⟨e, _⟩ | aq
   . exact e
   . cases aq.1
 . rcases aq with ⟨_, e⟩ | aq
   . exact e
   . cases aq.1
end
def Piece (p : List Nat) : Prop := p = [10] \/ ∃ w q, p = w ++ q /\ IsW w /\ Part q
def nlN (ps : List (List Nat)) : Nat := (ps.filter fun p => decide (p = [10])).length
def totC (rows : List (List (List Nat))) : Nat := (rows.map List.length).sum
theorem ropt_len (row : List (List Nat)) : (ropt row).length <= 1 := by unfold ropt; split <;> simp
theorem ropt_tot (row : List (List Nat)) : totC (ropt row) = row.length := by
 unfold ropt totC
 split
 . rename_i h; subst h; rfl
 . simp
theorem wopt_len (w : List Nat) : (wopt w).length <= 1 := by unfold wopt; split <;> simp
theorem scan_pieces : ∀ (ps : List (List Nat)) (row : List (List Nat)), (∀ p ∈ ps, Piece p) -> (scan ps.flatten row []).length <= nlN ps + 1 /\ totC (scan ps.flatten row []) <= row.length + ps.length
 | [], row, _ => by
  rw [List.flatten_nil, scan_end [] row [] (fun c hc => by simp at hc)]
  have h1 := ropt_len (row ++ wopt [])
  have h2 := ropt_tot (row ++ wopt [])
  rw [show row ++ wopt [] = row by simp [wopt]] at h1 h2 ⊢
  exact ⟨by omega, by omega⟩
 | p :: ps, row, h => by
  rcases h p mem_cons_self with rfl | ⟨w, q, rfl, hw, hq⟩
  . have ih := scan_pieces ps [] fun p hp => h p (mem_cons_of_mem _ hp)
    rw [List.flatten_cons, scan_rowsep [10] ps.flatten row [] quiet10 (by simp)]
    have h1 := ropt_len (row ++ wopt [])
    have h2 := ropt_tot (row ++ wopt [])
    rw [show row ++ wopt [] = row by simp [wopt]] at h1 h2 ⊢
    have e : nlN ([10] :: ps) = nlN ps + 1 := by simp [nlN]
    have e2 : totC (ropt row ++ scan ps.flatten [] []) = totC (ropt row) + totC (scan ps.flatten [] []) := by simp [totC]
    rw [e, e2, List.length_append, length_cons]
    simp at ih
    omega
  . have ih := scan_pieces ps (row ++ wopt (w.map lo1)) fun p hp => h p (mem_cons_of_mem _ hp)
    rw [List.flatten_cons, List.append_assoc, scan_word w (q ++ ps.flatten) row [] hw.sg hw.nl, List.nil_append, scan_part hq ps.flatten row (w.map lo1)]
    have h1 := wopt_len (w.map lo1)
    have e : nlN ps <= nlN ((w ++ q) :: ps) := by
     unfold nlN
     rw [List.filter_cons]
     split <;> simp
    rw [List.length_append] at ih
    rw [length_cons]
    omega
def sepS (c : Int) : Str := if part c 22 3 = 0 then " " else if part c 22 3 = 1 then "; " else "-"
def stepLn (ws : List Str) (s : Str × Nat) (c : Int) : Str × Nat := if part c 21 6 < 4 then (s.1 ++ ws.getD (part c 21 6).toNat "" ++ sepS c, s.2) else if s.2 < 4 then (s.1 ++ "\n", s.2 + 1) else s
def lnS (ws : List Str) (cells : List Int) : Str × Nat := cells.foldl (stepLn ws) ("", 0)
theorem lnS_snoc (ws : List Str) (cells : List Int) (c : Int) : lnS ws (cells ++ [c]) = stepLn ws (lnS ws cells) c := by simp [lnS]
theorem sepS_part (c : Int) : Part (cl (sepS c)) /\ (∀ k ∈ cl (sepS c), k < 128) /\ (sepS c).length <= 2 := by
 unfold sepS
 split
 . exact ⟨⟨by decide +kernel, by decide +kernel⟩, by decide +kernel, by decide +kernel⟩
 . split
   . exact ⟨⟨by decide +kernel, by decide +kernel⟩, by decide +kernel, by decide +kernel⟩
   . exact ⟨⟨by decide +kernel, by decide +kernel⟩, by decide +kernel, by decide +kernel⟩
structure LnOk (ws : List Str) : Prop where
 n : ws.length = 4
 w : ∀ z ∈ ws, isW z
 l : ∀ z ∈ ws, z.length <= 12
theorem ln_ok {ws : List Str} (h : LnOk ws) (cells : List Int) : ∃ ps : List (List Nat), cl (lnS ws cells).1 = ps.flatten /\ (∀ p ∈ ps, Piece p) /\ ps.length <= cells.length /\ nlN ps <= (lnS ws cells).2 /\ (lnS ws cells).2 <= 4 /\ (∀ k ∈ cl (lnS ws cells).1, k < 128) /\ (lnS ws cells).1.length <= 14 * cells.length := by
 refine snoc_ind (p := fun cells => ∃ ps : List (List Nat), cl (lnS ws cells).1 = ps.flatten /\ (∀ p ∈ ps, Piece p) /\ ps.length <= cells.length /\ nlN ps <= (lnS ws cells).2 /\ (lnS ws cells).2 <= 4 /\ (∀ k ∈ cl (lnS ws cells).1, k < 128) /\ (lnS ws cells).1.length <= 14 * cells.length) ?_ (fun cells c ih => ?_) cells
 . exact ⟨[], rfl, by simp, by simp, by simp [nlN], by simp [lnS], fun k hk => absurd hk (by show ¬ k ∈ cl ("" : Str); rw [cl_eq_nil.mpr rfl]; simp), by simp [lnS]; rfl⟩
 . obtain ⟨ps, e, hp, hl, hn, h4, ha, hz⟩ := ih
   rw [lnS_snoc]
   generalize lnS ws cells = s at e hn h4 ha hz
   unfold stepLn
   have p0 := part_nn c 21 (show (0 : Int) < 6 by decide)
   split
   . rename_i hk
     have hm : ws.getD (part c 21 6).toNat "" ∈ ws := getD_mem (by have := h.n; omega)
     obtain ⟨s1, s2, s3⟩ := sepS_part c
     have hw := h.w _ hm
     have hwl := h.l _ hm
     generalize ws.getD (part c 21 6).toNat "" = z at hw hwl
     refine ⟨ps ++ [cl z ++ cl (sepS c)], ?_, ?_, by simp; omega, ?_, h4, ?_, ?_⟩
     . simp only
       rw [cl_append, cl_append, e, flatten_append]
       simp
     . intro p hp'
       rcases mem_append.mp hp' with hp' | hp'
       . exact hp p hp'
       . obtain rfl := List.mem_singleton.mp hp'
         exact .inr ⟨_, _, rfl, hw.w, s1⟩
     . have hne : cl z ++ cl (sepS c) ≠ [10] := fun q => by
        have : 10 ∈ cl z ++ cl (sepS c) := by rw [q]; simp
        rcases mem_append.mp this with x | x
        . exact absurd rfl (hw.w.nl 10 x)
        . exact absurd rfl (s1.2 10 x).2
       simp only [nlN, filter_append, List.length_append] at hn ⊢
       simp [hne]
       exact hn
     . intro k hk'
       simp only at hk'
       rw [cl_append, cl_append] at hk'
       rcases mem_append.mp hk' with hk' | hk'
       . rcases mem_append.mp hk' with hk' | hk'
         . exact ha k hk'
         . exact w_ascii hw k hk'
       . exact s2 k hk'
     . simp only
       rw [<- cl_len, cl_append, cl_append, List.length_append, List.length_append, cl_len, cl_len, cl_len, List.length_append, List.length_singleton]
       omega
   . split
     . refine ⟨ps ++ [[10]], ?_, ?_, by simp; omega, ?_, by simp only; omega, ?_, ?_⟩
       . simp only
         rw [cl_append, e, flatten_append]
         rfl
       . intro p hp'
         rcases mem_append.mp hp' with hp' | hp'
         . exact hp p hp'
         . obtain rfl := List.mem_singleton.mp hp'
           exact .inl rfl
       . simp only [nlN, filter_append, List.length_append] at hn ⊢
         simp
         exact hn
       . intro k hk'
         simp only at hk'
         rw [cl_append] at hk'
         rcases mem_append.mp hk' with hk' | hk'
         . exact ha k hk'
         . have : ∀ k ∈ cl ("\n" : Str), k < 128 := by decide +kernel
           exact this k hk'
       . simp only
         rw [<- cl_len, cl_append, List.length_append, cl_len, cl_len, List.length_append, List.length_singleton, show ("\n" : Str).length = 1 from rfl]
         omega
     . exact ⟨ps, e, hp, by simp; omega, hn, h4, ha, by simp; omega⟩
def gLines (ds : List D) (d : D) : Prop := ∃ (ws : List Str) (cells : List Int), LnOk ws /\ cells.length <= 12 /\ ds = [strsD ws, intsD cells] /\ d = .str (lnS ws cells).1
theorem lines_text {ws : List Str} (h : LnOk ws) {cells : List Int} (hc : cells.length <= 12) : asciiS (lnS ws cells).1 /\ (lnS ws cells).1.length <= 200 := by
 obtain ⟨ps, e, hp, hl, hn, h4, ha, hz⟩ := ln_ok h cells
 exact ⟨ha, by omega⟩
theorem lines_rows {ws : List Str} (h : LnOk ws) {cells : List Int} (hc : cells.length <= 12) : RwOk (rowsOfS (lnS ws cells).1) := by
 obtain ⟨ps, e, hp, hl, hn, h4, ha, hz⟩ := ln_ok h cells
 have es := rowsOfS_eq ha
 obtain ⟨b1, b2⟩ := scan_pieces ps [] hp
 rw [<- e, <- es] at b1 b2
 have hch := scan_ch (cl (lnS ws cells).1) [] []
 rw [<- es, cl_len] at hch
 refine ⟨by rw [length_map] at b1; omega, ?_, fun r hr z hz' => ?_⟩
 . have : totC ((rowsOfS (lnS ws cells).1).map (·.map cl)) = tot (rowsOfS (lnS ws cells).1) := by
    unfold totC tot
    rw [map_map]
    congr 1
    exact map_congr_left fun r _ => by simp
   simp at b2
   omega
 . have m1 : r.map cl ∈ (rowsOfS (lnS ws cells).1).map (·.map cl) := List.mem_map_of_mem (f := fun r : List Str => r.map cl) hr
   have m2 : cl z ∈ r.map cl := List.mem_map_of_mem (f := cl) hz'
   have c1 := chR_mem m2
   have c2 := chRs_mem m1
   rw [cl_len] at c1
   simp [chR] at hch
   unfold chR at c1 c2
   omega
def gLinksK (ds : List D) (d : D) : Prop := ∃ st : List (Nat × Nat), st.length <= 900 /\ sum1 st <= 900 /\ sum2 st <= 900 /\ ds = [.lst (st.map stepK)] /\ d = .lst ((linksL 0 0 st).map lkD)
def gBesideK (ds : List D) (d : D) : Prop := ∃ (ls rs : List (List Str)) (st : List (Nat × Nat)) (one other : List (List Pt)), BsOk ls rs st one other /\ ds = [rowsD ls, rowsD rs, .lst (st.map stepK), questD one, questD other] /\ d = trsD (besL ls rs one other 0 0 st)
def gBesideL (ds : List D) (d : D) : Prop := ∃ (ls rs : List (List Str)) (st : List (Nat × Nat)) (one other : List (List Pt)), BsOk ls rs st one other /\ ds = [rowsD ls, rowsD rs, .lst ((linksL 0 0 st).map lkD), questD one, questD other] /\ d = trsD (besL ls rs one other 0 0 st)
theorem wayIn_of (m o : Nat) : ∀ (st : List (Nat × Nat)) (i j : Nat), i + sum1 st <= m -> j + sum2 st <= o -> WayIn m o i j st
 | [], i, j, h1, h2 => ⟨by simpa [sum1] using h1, by simpa [sum2] using h2⟩
 | s :: st, i, j, h1, h2 => by
  simp only [sum1, sum2, map_cons, List.sum_cons] at h1 h2
  exact ⟨by omega, by omega, wayIn_of m o st _ _ (by unfold sum1; omega) (by unfold sum2; omega)⟩
theorem natsR_app (i a b : Nat) : natsR i a ++ natsR (i + a) b = natsR i (a + b) := by
 induction b with
 | zero => simp [natsR]
 | succ b ih =>
  rw [natsR_succ, <- List.append_assoc, ih, <- Nat.add_assoc, natsR_succ, Nat.add_assoc]
theorem links_first : ∀ (st : List (Nat × Nat)) (i j : Nat), ((linksL i j st).map fun p => p.1).flatten = natsR i (sum1 st)
 | [], i, j => rfl
 | s :: st, i, j => by
  rw [linksL, map_cons, List.flatten_cons, links_first st (i + s.1) (j + s.2), natsR_app]
  rfl
theorem links_second : ∀ (st : List (Nat × Nat)) (i j : Nat), ((linksL i j st).map fun p => p.2).flatten = natsR j (sum2 st)
 | [], i, j => rfl
 | s :: st, i, j => by
  rw [linksL, map_cons, List.flatten_cons, links_second st (i + s.1) (j + s.2), natsR_app]
  rfl
end Y
namespace Z
open PySem PySem.Spec PyProof.Rows L2 Y
section
variable [Tabs]
def top (i : Nat) : Stmt := PySem.Challenge.pw_besidewords_k73_whole_texts_laid_togethe.main.body.getD i (.Pass ⟨0, 0, 0, 0⟩)
abbrev s_spans : Stmt := top 1
abbrev s_numbers_in : Stmt := top 2
abbrev s_united : Stmt := top 3
abbrev s_behind_question : Stmt := top 4
abbrev s_behind_parts : Stmt := top 5
abbrev s_behind_part : Stmt := top 6
abbrev s_behind_upto : Stmt := top 7
abbrev s_behind_word : Stmt := top 8
abbrev s_fitting : Stmt := top 9
abbrev s_fits : Stmt := top 10
abbrev s_links : Stmt := top 12
abbrev s_beside : Stmt := top 13
abbrev s_way_price : Stmt := top 21
abbrev s_is_way : Stmt := top 22
abbrev s_by_pair : Stmt := top 23
abbrev s_step_price : Stmt := top 24
abbrev s_words_of : Stmt := top 25
abbrev s_lone_words : Stmt := top 26
abbrev s_paper : Stmt := top 28
abbrev s_cheapest : Stmt := top 29
abbrev s_entry : Stmt := top 30
abbrev s_last_step : Stmt := top 31
abbrev s_last_steps : Stmt := top 32
abbrev s_rows_of : Stmt := top 35
abbrev s_words_in : Stmt := top 36
abbrev s_law_cell_at : Stmt := top 38
abbrev s_law_part : Stmt := top 39
abbrev s_law_words : Stmt := top 40
abbrev s_law_pairs : Stmt := top 41
abbrev s_law_prices : Stmt := top 42
abbrev s_law_plain_part : Stmt := top 43
abbrev s_law_question : Stmt := top 44
abbrev s_law_meets : Stmt := top 45
abbrev s_law_one_on : Stmt := top 46
abbrev s_law_all_on : Stmt := top 47
abbrev s_law_plain_spans : Stmt := top 48
abbrev s_law_lines : Stmt := top 49
abbrev s_law_beside : Stmt := top 50
abbrev s_law : Stmt := top 51
theorem fs {N P : List Str} {c : Scope} (a : c.kind = .function := by rfl) (b : c.isCoroutine = false := by rfl) (d : c.isGenerator = false := by rfl) (e : N.Nodup := by decide +kernel) (f : N.take P.length = P := by rfl) (g : ∀ x ∈ P, c.names.lookup x = some .local \/ c.names.lookup x = some .cell := by decide +kernel) (h : ∀ y ∈ c.names, y.2 ≠ .free := by decide +kernel) : FnScope N P c := ⟨a, b, d, e, f, g, h⟩
theorem sc_spans : FnScope ["question", "row", "begins", "told", "at", "overs"] ["question", "row"] (defScope s_spans) := fs
theorem sc_numbers_in : FnScope ["whole"] ["whole"] (defScope s_numbers_in) := fs
theorem sc_united : FnScope ["wholes", "others"] ["wholes", "others"] (defScope s_united) := fs
theorem sc_behind_question : FnScope ["question", "row", "wholes", "met", "parts"] ["question", "row", "wholes"] (defScope s_behind_question) := fs
theorem sc_behind_parts : FnScope ["parts", "row", "wholes", "part"] ["parts", "row", "wholes"] (defScope s_behind_parts) := fs
theorem sc_behind_part : FnScope ["part", "row", "wholes"] ["part", "row", "wholes"] (defScope s_behind_part) := fs
theorem sc_behind_upto : FnScope ["most", "row", "wholes", "every", "more"] ["most", "row", "wholes"] (defScope s_behind_upto) := fs
theorem sc_behind_word : FnScope ["places", "wholes"] ["places", "wholes"] (defScope s_behind_word) := fs
theorem sc_fitting : FnScope ["part", "row", "places", "at", "word"] ["part", "row"] (defScope s_fitting) := fs
theorem sc_fits : FnScope ["part", "word", "kind"] ["part", "word"] (defScope s_fits) := fs
theorem sc_links : FnScope ["steps", "told", "left", "right", "step"] ["steps"] (defScope s_links) := fs
theorem sc_beside : FnScope ["lefts", "rights", "steps", "one", "other", "told", "left_rows", "right_rows", "left"] ["lefts", "rights", "steps", "one", "other"] (defScope s_beside) := fs
theorem sc_way_price : FnScope ["lefts", "rights", "prices", "pairs", "steps", "paired", "left", "right", "total", "step", "rows", "beside"] ["lefts", "rights", "prices", "pairs", "steps"] (defScope s_way_price) := fs
theorem sc_is_way : FnScope ["lefts", "rights", "steps", "taken"] ["lefts", "rights", "steps"] (defScope s_is_way) := fs
theorem sc_by_pair : FnScope ["pairs", "paired", "pair"] ["pairs"] (defScope s_by_pair) := fs
theorem sc_step_price : FnScope ["lefts", "rights", "prices", "paired", "left_words", "right_words", "fixed", "sloping"] ["lefts", "rights", "prices", "paired"] (defScope s_step_price) := fs
theorem sc_words_of : FnScope ["rows", "words", "row"] ["rows"] (defScope s_words_of) := fs
theorem sc_lone_words : FnScope ["lefts", "rights", "paired", "with_left", "with_right", "left", "right", "lone_lefts", "lone_rights"] ["lefts", "rights", "paired"] (defScope s_lone_words) := fs
theorem sc_paper : FnScope ["lefts", "rights", "prices", "pairs", "paired", "table", "left", "right"] ["lefts", "rights", "prices", "pairs"] (defScope s_paper) := fs
theorem sc_cheapest : FnScope ["lefts", "rights", "prices", "pairs", "paired", "table", "left", "right", "steps", "step"] ["lefts", "rights", "prices", "pairs"] (defScope s_cheapest) := fs
theorem sc_entry : FnScope ["lefts", "rights", "prices", "paired", "table", "found", "least"] ["lefts", "rights", "prices", "paired", "table"] (defScope s_entry) := fs
theorem sc_last_step : FnScope ["found"] ["found"] (defScope s_last_step) := fs
theorem sc_last_steps : FnScope ["lefts", "rights", "prices", "paired", "table", "found", "step", "left", "right", "ahead", "total"] ["lefts", "rights", "prices", "paired", "table"] (defScope s_last_steps) := fs
theorem sc_rows_of : FnScope ["text", "rows"] ["text"] (defScope s_rows_of) := fs
theorem sc_words_in : FnScope ["part", "parted"] ["part"] (defScope s_words_in) := fs
theorem sc_law_cell_at : FnScope ["_law_script", "_law_k"] ["_law_script", "_law_k"] (defScope s_law_cell_at) := fs
theorem sc_law_part : FnScope ["_law_cell", "_law_k", "_law_many"] ["_law_cell", "_law_k", "_law_many"] (defScope s_law_part) := fs
theorem sc_law_words : FnScope ["_law_one", "_law_other", "_law_signs", "_law_size", "_law_at", "_law_words_here", "_law_k", "_law_word", "_law_j", "_law_number"] ["_law_one", "_law_other"] (defScope s_law_words) := fs
theorem sc_law_pairs : FnScope ["_law_lefts", "_law_rights", "_law_cell", "_law_pairs_here", "_law_k", "_law_left", "_law_right"] ["_law_lefts", "_law_rights", "_law_cell"] (defScope s_law_pairs) := fs
theorem sc_law_prices : FnScope ["_law_cell", "_law_great", "_law_some"] ["_law_cell"] (defScope s_law_prices) := fs
theorem sc_law_plain_part : FnScope ["_law_words_here", "_law_cell", "_law_way", "_law_word", "_law_size"] ["_law_words_here", "_law_cell"] (defScope s_law_plain_part) := fs
theorem sc_law_question : FnScope ["_law_words_here", "_law_cells", "_law_question_here", "_law_cell", "_law_way"] ["_law_words_here", "_law_cells"] (defScope s_law_question) := fs
theorem sc_law_meets : FnScope ["_law_part_here", "_law_word"] ["_law_part_here", "_law_word"] (defScope s_law_meets) := fs
theorem sc_law_one_on : FnScope ["_law_part_here", "_law_row", "_law_froms", "_law_tos", "_law_to"] ["_law_part_here", "_law_row", "_law_froms"] (defScope s_law_one_on) := fs
theorem sc_law_all_on : FnScope ["_law_question_here", "_law_row", "_law_froms", "_law_tos", "_law_parts", "_law_here", "_law_part_here"] ["_law_question_here", "_law_row", "_law_froms"] (defScope s_law_all_on) := fs
theorem sc_law_plain_spans : FnScope ["_law_question_here", "_law_row", "_law_due", "_law_at"] ["_law_question_here", "_law_row"] (defScope s_law_plain_spans) := fs
theorem sc_law_lines : FnScope ["_law_words_here", "_law_cells", "_law_text", "_law_lines_here", "_law_cell", "_law_k"] ["_law_words_here", "_law_cells"] (defScope s_law_lines) := fs
theorem sc_law_beside : FnScope ["_law_lefts", "_law_rights", "_law_laid", "_law_one", "_law_other", "_law_due", "_law_ours", "_law_others", "_law_number"] ["_law_lefts", "_law_rights", "_law_laid", "_law_one", "_law_other"] (defScope s_law_beside) := fs
theorem sc_law : FnScope ["_law_script", "_law_some", "_law_others", "_law_pairs_here", "_law_prices_here", "_law_lefts", "_law_rights", "_law_steps", "_law_laid", "_law_one", "_law_other"] ["_law_script"] (defScope s_law) := fs
abbrev pPart : List Str := ["_law_cell", "_law_k", "_law_many"]
structure Blt (mg : Str -> Option Value) : Prop where
 ValueError : mg "ValueError" = none
 abs : mg "abs" = none
 all : mg "all" = none
 any : mg "any" = none
 enumerate : mg "enumerate" = none
 len : mg "len" = none
 list : mg "list" = none
 min : mg "min" = none
 range : mg "range" = none
 reversed : mg "reversed" = none
 sorted : mg "sorted" = none
 sum : mg "sum" = none
 tuple : mg "tuple" = none
 zip : mg "zip" = none
 SLOPE : ∃ t, mg "SLOPE" = some (.int 3 t)
 LONE : ∃ t, mg "LONE" = some (.int 4 t)
 WORD_SIGNS : ∃ t, mg "WORD_SIGNS" = some (.str "abcdefghijklmnopqrstuvwxyz0123456789" t)
section
variable {P : Program} {w : World} {K : Frag} {mg : Str -> Option Value} {base : Heap} {f : Addr} {fd : FuncData}
theorem ok_law_cell_at (Fx : Fun K "_law_cell_at" "_law_cell_at" s_law_cell_at f fd) (hmg : mg "_law_cell_at" = some (.ref f)) (hb : Binds K fd ["_law_script", "_law_k"] []) (B : Blt mg) : Def P w K mg base 1 "_law_cell_at" true gCellAt := by
 refine def_of Fx sc_law_cell_at hmg hb (by rintro ds d ⟨ns, k, hz, e1, e2⟩; subst e1; rfl) ?_
 rintro cdv A outer s H Ex Z ds d hr ⟨ns, k, hz, e1, e2⟩
 subst e1 e2
 refine sd_if (t_ltI (e_var 1) (e_lenL (e_var 0) B.len)) (fun h => ?_) (fun h => ?_)
 . refine sd_ret false (m1 := true) (E.flat (e_ixL (d := .int (cellAt ns k)) (e_var 0) (e_var 1) ?_) rfl) rfl
   simp at h
   refine atI_nat ?_
   simp [cellAt, h]
 . refine sd_nil ?_
   refine sd_ret false (E.cast e_int ?_) rfl
   simp at h
   simp [cellAt, h]
theorem ok_law_part (Fx : Fun K "_law_part" "_law_part" s_law_part f fd) (hmg : mg "_law_part" = some (.ref f)) (hb : Binds K fd pPart []) (B : Blt mg) : Def P w K mg base 1 "_law_part" true gPart := by
 refine def_of Fx sc_law_part hmg hb (by rintro ds d ⟨c, k, m, hm, e1, e2⟩; subst e1; rfl) ?_
 rintro cdv A outer s H Ex Z ds d hr ⟨c, k, m, hm, e1, e2⟩
 subst e1 e2
 have h1 := Int.emod_nonneg c (show (99991 : Int) ≠ 0 by decide)
 have h2 := Int.emod_lt_of_pos c (show (0 : Int) < 99991 by decide)
 have h3 := Int.emod_nonneg ((c % 99991 + 17) * (48271 + 7919 * k)) (show (65537 : Int) ≠ 0 by decide)
 have h4 := Int.emod_lt_of_pos ((c % 99991 + 17) * (48271 + 7919 * k)) (show (0 : Int) < 65537 by decide)
 exact sd_ret false (e_mod (e_mod (e_mul (e_mod (e_mul (e_add (e_mod (e_var 0) e_int (by decide)) e_int) (e_add e_int (e_mul e_int (e_var 1) (.inl ⟨by decide, by decide⟩))) (.inl ⟨by omega, by omega⟩)) e_int (by decide)) (e_add (e_var 1) e_int) (.inl ⟨by omega, by omega⟩)) e_int (by decide)) (e_var 2) hm) rfl
theorem ok_law_words (Fx : Fun K "_law_words" "_law_words" s_law_words f fd) (hmg : mg "_law_words" = some (.ref f)) (hb : Binds K fd ["_law_one", "_law_other"] []) (B : Blt mg) (dP : Def P w K mg base 1 "_law_part" true gPart) : Def P w K mg base 2 "_law_words" true gWordsA := by
 refine def_of Fx sc_law_words hmg hb (by rintro ds d ⟨one, other, e1, e2⟩; subst e1; rfl) ?_
 rintro cdv A outer s H Ex Z ds d hr ⟨one, other, e1, e2⟩
 subst e1 e2
 have nd := sc_law_words.nd
 have hsz : 1 <= sizeA one := by have := part_nn one 0 (show (0 : Int) < 12 by decide); unfold sizeA; omega
 refine sd_setF 2 e_str rfl ?_ nd
 refine sd_setF 3 (d := .int (sizeA one)) (e_add e_int (e_call dP hr (ea_cons (e_var 0) (ea_cons e_int (ea_one e_int))) ⟨_, _, _, by decide, rfl, rfl⟩)) rfl ?_ nd
 refine sd_setF 4 (d := .int (atA one other)) (e_call dP hr (ea_cons (e_var 1) (ea_cons e_int (ea_one (e_var 3)))) ⟨_, _, _, by omega, rfl, rfl⟩) rfl ?_ nd
 refine sd_own 5 (e_lstN ea_nil) rfl ?_ nd
 refine sd_forF 6 (ds := rangeD 0 4) (fun n r => ∃ o6 o7 o8 o9, r = [some (.pl false (.int one)), some (.pl false (.int other)), some (.pl true (.str W36)), some (.pl true (.int (sizeA one))), some (.pl true (.int (atA one other))), some (.ow true (((List.range n).map fun k => takeA one other (0 + (k : Nat))).map D.str)), o6, o7, o8, o9] /\ n <= 4)
  (it_range (n := 4) (m := true) e_int (by decide) (by decide) B.range) (fun d hd => by obtain ⟨i, _, rfl⟩ := mem_map.mp hd; rfl) ⟨_, _, _, _, rfl, by decide⟩ (by rintro n r ⟨_, _, _, _, e, _⟩; subst e; simp) ?_ ?_ nd
 . rintro n d r hd ⟨o6, o7, o8, o9, e, hn⟩
   subst e
   obtain ⟨hn4, rfl⟩ := rangeD_get hd
   refine sd_setF 7 e_str rfl ?_ nd
   refine sd_forF 8 (ds := rangeD 0 12) (fun m r => ∃ o8 o9, r = [some (.pl false (.int one)), some (.pl false (.int other)), some (.pl true (.str W36)), some (.pl true (.int (sizeA one))), some (.pl true (.int (atA one other))), some (.ow true (((List.range n).map fun k => takeA one other (0 + (k : Nat))).map D.str)), some (.pl true (.int (0 + (n : Nat)))), some (.pl true (.str (wordA one other (0 + (n : Nat)) m))), o8, o9] /\ m <= 12)
    (it_range (n := 12) (m := true) e_int (by decide) (by decide) B.range) (fun d hd => by obtain ⟨i, _, rfl⟩ := mem_map.mp hd; rfl) ⟨_, _, rfl, by decide⟩ (by rintro n r ⟨_, _, e, _⟩; subst e; simp) (fun m d r hd ⟨o8, o9, e, hm⟩ => ?_) (fun r ⟨o8, o9, e, hm⟩ => ?_) nd
   . subst e
     obtain ⟨hm12, rfl⟩ := rangeD_get hd
     refine sd_setF 9 (e_call dP hr (ea_cons (e_var 0) (ea_cons (e_add (e_var 8) e_int) (ea_one e_int))) ⟨_, _, _, by decide, rfl, rfl⟩) rfl ?_ nd
     have hlen := wordA_len one other (0 + (n : Nat)) m
     refine sd_ifJ [some (.pl false (.int one)), some (.pl false (.int other)), some (.pl true (.str W36)), some (.pl true (.int (sizeA one))), some (.pl true (.int (atA one other))), some (.ow true (((List.range n).map fun k => takeA one other (0 + (k : Nat))).map D.str)), some (.pl true (.int (0 + (n : Nat)))), some (.pl true (.str (wordA one other (0 + (n : Nat)) m))), some (.pl true (.int (0 + (m : Nat)))), some (.pl true (.int (numA one other (0 + (n : Nat)) (0 + (m : Nat)))))]
      (TW.t (tw_and (t_eqI (e_var 8) (e_var 4)) fun _ => tw_and1 (t_eqI (e_call dP hr (ea_cons (e_var 1) (ea_cons e_int (ea_one e_int))) ⟨_, _, _, by decide, rfl, rfl⟩) e_int))) (fun h => ?_) (fun h => ?_) ?_
     . refine sd_setF 9 (e_add (e_var 9) (e_var 6)) rfl ?_ nd
       refine sd_nil ?_
       simp at h
       unfold numA
       rw [if_pos (by simpa using h)]
       rfl
     . refine sd_nil ?_
       unfold numA
       rw [if_neg (by simpa using h)]
       rfl
     . refine sd_setF 7 (e_addS (e_var 7) (e_ixS (e_var 2) (e_mod (e_var 9) e_int (by decide)) (by decide +kernel) (atI_sgn _)) (smallL (by show _ + 1 <= 1000; omega))) rfl ?_ nd
       refine sd_nil ⟨some (.pl true (.int (0 + (m : Nat)))), some (.pl true (.int (numA one other (0 + (n : Nat)) (0 + (m : Nat))))), ?_, hm12⟩
       rw [wordA_succ]
       rfl
   . subst e
     have hlen := wordA_len one other (0 + (n : Nat)) (rangeD 0 12).length
     have h12 : (rangeD 0 12).length = 12 := rangeD_len
     rw [h12] at hlen
     have nx : ∀ (l : Int), l = (if part other 20 2 = 0 then sizeA one else 1 + (sizeA one + (0 + (n : Nat))) % 12) -> ((List.range n).map fun k => takeA one other (0 + (k : Nat))).map D.str ++ [D.str (Txt.slice (wordA one other (0 + (n : Nat)) 12) none (some l))] = ((List.range (n + 1)).map fun k => takeA one other (0 + (k : Nat))).map D.str := fun l hl => by
      rw [range_succ, map_append, map_append, hl]; rfl
     refine sd_if (t_eqI (e_call dP hr (ea_cons (e_var 1) (ea_cons e_int (ea_one e_int))) ⟨_, _, _, by decide, rfl, rfl⟩) e_int) (fun h => ?_) (fun h => ?_)
     . refine sd_appendF 5 true rfl (e_slS (e_var 7) eo_none (eo_some (e_var 3)) (smallL (by rw [h12, hlen]; decide))) rfl (by simp; omega) ?_
       refine sd_nil (sd_nil ⟨some (.pl true (.int (0 + (n : Nat)))), some (.pl true (.str (wordA one other (0 + (n : Nat)) 12))), o8, o9, ?_, hn4⟩)
       rw [h12, <- nx _ (by simp at h; rw [if_pos h])]
       rfl
     . refine sd_appendF 5 true rfl (e_slS (e_var 7) eo_none (eo_some (e_add e_int (e_mod (e_add (e_var 3) (e_var 6)) e_int (by decide)))) (smallL (by rw [h12, hlen]; decide))) rfl (by simp; omega) ?_
       refine sd_nil (sd_nil ⟨some (.pl true (.int (0 + (n : Nat)))), some (.pl true (.str (wordA one other (0 + (n : Nat)) 12))), o8, o9, ?_, hn4⟩)
       rw [h12, <- nx _ (by simp at h; rw [if_neg h])]
       rfl
 . rintro r ⟨o6, o7, o8, o9, e, hn⟩
   subst e
   have h4 : (rangeD 0 4).length = 4 := rangeD_len
   refine sd_ret true (E.cast (e_var 5) ?_) rfl
   rw [h4]
   rfl
theorem ok_by_pair (Fx : Fun K "by_pair" "by_pair" s_by_pair f fd) (hmg : mg "by_pair" = some (.ref f)) (hb : Binds K fd ["pairs"] []) (B : Blt mg) : Def P w K mg base 1 "by_pair" true gByPair := by
 refine def_of Fx sc_by_pair hmg hb (by rintro ds d ⟨ps, h1, e1, e2⟩; subst e1; rfl) ?_
 rintro cdv A outer s H Ex Z ds d hr ⟨ps, h1, e1, e2⟩
 subst e1 e2
 have nd := sc_by_pair.nd
 refine sd_ownD 1 e_dnewT ?_ nd
 refine sd_forF 2 (ds := ps.map prD) (fun n r => ∃ o2, r = [some (.pl false (prsD ps)), some (.od (.t (pairedK (ps.take n)))), o2])
  (it_list (e_var 0)) (fun d hd => by obtain ⟨p, _, rfl⟩ := mem_map.mp hd; rfl) ⟨_, rfl⟩ (by rintro n r ⟨_, e⟩; subst e; simp) ?_ ?_ nd
 . rintro n d r hd ⟨o2, e⟩
   subst e
   rw [getElem?_map] at hd
   cases hp : ps[n]? with
   | none => rw [hp] at hd; cases hd
   | some p =>
    rw [hp] at hd
    cases hd
    have hl := pairedK_len (ps.take n)
    refine sd_dput 1 (o' := .t (pairedK (ps.take n ++ [p]))) rfl (e_var 2) e_bl rfl (DO.put_t (prD_key p) (Nat.lt_of_le_of_lt hl (small1000 (by rw [length_take]; omega))) (by rw [pairedK_snoc])) (room1 hr) ?_
    refine sd_nil ⟨some (.pl true (prD p)), ?_⟩
    rw [take_add_one, hp]
    rfl
 . rintro r ⟨o2, e⟩
   subst e
   refine sd_ret true (E.cast (e_var 1) ?_) rfl
   rw [length_map, take_length]
theorem ok_words_of (Fx : Fun K "words_of" "words_of" s_words_of f fd) (hmg : mg "words_of" = some (.ref f)) (hb : Binds K fd ["rows"] []) (B : Blt mg) : Def P w K mg base 1 "words_of" true gWordsOf := by
 refine def_of Fx sc_words_of hmg hb (by rintro ds d ⟨rows, h1, e1, e2⟩; subst e1; rfl) ?_
 rintro cdv A outer s H Ex Z ds d hr ⟨rows, h1, e1, e2⟩
 subst e1 e2
 have nd := sc_words_of.nd
 refine sd_own 1 (e_lstN ea_nil) rfl ?_ nd
 refine sd_for 2 false (ds := rows.map strsD) (fun n r => ∃ o2, r = [some (.pl false (rowsD rows)), some (.ow true ((rows.take n).flatten.map D.str)), o2])
  (it_list (e_var 0)) ⟨_, rfl⟩ (by rintro n r ⟨_, e⟩; subst e; simp) ?_ ?_ nd
 . rintro n d r hd ⟨o2, e⟩
   subst e
   rw [getElem?_map] at hd
   cases hp : rows[n]? with
   | none => rw [hp] at hd; cases hd
   | some row =>
    rw [hp] at hd
    cases hd
    have ht : rows.take (n + 1) = rows.take n ++ [row] := by rw [take_add_one, hp]; rfl
    have hle : (rows.take n).flatten.length + row.length <= 900 := by
     have := flatten_len rows
     have h2 : (rows.take (n + 1)).flatten.length <= rows.flatten.length := by
      conv => rhs; rw [<- take_append_drop (n + 1) rows, flatten_append, List.length_append]
      omega
     rw [ht, flatten_append, List.length_append, show [row].flatten = row by simp] at h2
     omega
    refine sd_extendS 1 true rfl (e_var 2) (flats_strs _) (by rw [length_map, length_map]; exact smallL (by omega)) ?_
    refine sd_nil ⟨some (.pl false (strsD row)), ?_⟩
    rw [ht, flatten_append, map_append]
    simp [List.set]
 . rintro r ⟨o2, e⟩
   subst e
   refine sd_ret true (E.cast (e_var 1) ?_) rfl
   rw [length_map, take_length]
   rfl
theorem ok_lone_words (Fx : Fun K "lone_words" "lone_words" s_lone_words f fd) (hmg : mg "lone_words" = some (.ref f)) (hb : Binds K fd ["lefts", "rights", "paired"] []) (B : Blt mg) : Def P w K mg base 1 "lone_words" true gLone := by
 refine def_of Fx sc_lone_words hmg hb (by rintro ds d ⟨ls, rs, ps, h1, h2, h3, e1, e2⟩; subst e1; rfl) ?_
 rintro cdv A outer s H Ex Z ds d hr ⟨ls, rs, ps, h1, h2, h3, e1, e2⟩
 subst e1 e2
 have nd := sc_lone_words.nd
 have hu := room1 hr
 refine sd_ownD 3 e_dnewK ?_ nd
 refine sd_ownD 4 e_dnewK ?_ nd
 have hbig : ∀ (f : Str × Str -> Str) (done : List (Str × Str)), done.length <= 10100 -> (metK f ps done).length < sizeLine := fun f done h => Nat.lt_of_lt_of_le (Nat.lt_of_le_of_lt (metK_len f ps done) (show done.length < 20000 by omega)) big20000
 refine sd_forF 5 (ds := ls.map D.str) (fun n r => ∃ o5 o6, r = [some (.pl false (strsD ls)), some (.pl false (strsD rs)), some (.pl false (.dct (.t (pairedK ps)))), some (.od (.k (metK (·.2) ps (doneP (ls.take n) rs)))), some (.od (.k (metK (·.1) ps (doneP (ls.take n) rs)))), o5, o6, none, none])
  (it_list (e_var 0)) (fun d hd => by obtain ⟨p, _, rfl⟩ := mem_map.mp hd; rfl) ⟨_, _, rfl⟩ (by rintro n r ⟨_, _, e⟩; subst e; simp) ?_ ?_ nd
 . rintro n d r hd ⟨o5, o6, e⟩
   subst e
   rw [getElem?_map] at hd
   cases hp : ls[n]? with
   | none => rw [hp] at hd; cases hd
   | some l =>
    rw [hp] at hd
    cases hd
    have hn : n < ls.length := (List.getElem?_eq_some_iff.mp hp).1
    have ht : ls.take (n + 1) = ls.take n ++ [l] := by rw [take_add_one, hp]; rfl
    have hdl : (doneP (ls.take n) rs).length <= 10000 := by
     rw [doneP_len, length_take]
     exact Nat.le_trans (Nat.mul_le_mul (show min n ls.length <= 100 by omega) h2) (by decide)
    refine sd_forF 6 (ds := rs.map D.str) (fun m r => ∃ o6, r = [some (.pl false (strsD ls)), some (.pl false (strsD rs)), some (.pl false (.dct (.t (pairedK ps)))), some (.od (.k (metK (·.2) ps (doneP (ls.take n) rs ++ (rs.take m).map fun r => (l, r))))), some (.od (.k (metK (·.1) ps (doneP (ls.take n) rs ++ (rs.take m).map fun r => (l, r))))), some (.pl true (.str l)), o6, none, none])
     (it_list (e_var 1)) (fun d hd => by obtain ⟨p, _, rfl⟩ := mem_map.mp hd; rfl) ⟨o6, by simp⟩ (by rintro n r ⟨_, e⟩; subst e; simp) (fun m d r hd ⟨o6, e⟩ => ?_) (fun r ⟨o6, e⟩ => ?_) nd
    . subst e
      rw [getElem?_map] at hd
      cases hq : rs[m]? with
      | none => rw [hq] at hd; cases hd
      | some q =>
       rw [hq] at hd
       cases hd
       have ht2 : (rs.take (m + 1)).map (fun r => (l, r)) = (rs.take m).map (fun r => (l, r)) ++ [(l, q)] := by rw [take_add_one, hq, map_append]; rfl
       have hlen : (doneP (ls.take n) rs ++ (rs.take m).map fun r => (l, r)).length <= 10100 := by
        rw [List.length_append, length_map, length_take]
        omega
       refine sd_if (t_din (r := valV (pairedK ps) (prK (l, q))) (e_tup (ea_cons (e_var 5) (ea_one (e_var 6)))) (e_var 2) (DO.at_t (prD_key (l, q)) rfl) hu) (fun h => ?_) (fun h => sd_nil ?_)
       . have hm : (l, q) ∈ ps := by
          rw [pairedK_val] at h
          by_cases z : (l, q) ∈ ps
          . exact z
          . rw [if_neg z] at h; cases h
         refine sd_dput 4 (o' := .k (metK (·.1) ps (doneP (ls.take n) rs ++ (rs.take (m + 1)).map fun r => (l, r)))) rfl (e_var 5) e_bl rfl (DO.put_k (k := .inr l) rfl (hbig _ _ hlen) (by rw [ht2, <- List.append_assoc, metK_snoc, if_pos hm])) hu ?_
         refine sd_dput 3 (o' := .k (metK (·.2) ps (doneP (ls.take n) rs ++ (rs.take (m + 1)).map fun r => (l, r)))) rfl (e_var 6) e_bl rfl (DO.put_k (k := .inr q) rfl (hbig _ _ hlen) (by rw [ht2, <- List.append_assoc, metK_snoc, if_pos hm])) hu ?_
         exact sd_nil (sd_nil ⟨some (.pl true (.str q)), rfl⟩)
       . have hm : (l, q) ∉ ps := fun z => by
          rw [pairedK_val, if_pos z] at h
          cases h
         refine sd_nil ⟨some (.pl true (.str q)), ?_⟩
         rw [ht2, <- List.append_assoc, metK_snoc, metK_snoc, if_neg hm, if_neg hm]
         rfl
    . subst e
      refine sd_nil ⟨some (.pl true (.str l)), o6, ?_⟩
      rw [length_map, take_length, ht, doneP_snoc]
 rintro r ⟨o5, o6, e⟩
 subst e
 rw [length_map, take_length]
 refine sd_setCN 7 (d := strsD (ls.filter fun w => !goL ps rs w)) (EC.cast (ec_comp (m := true) (me := false) ["with_right"] [4] (fun d => match d with | .str w => !goL ps rs w | _ => false) (fun d => d) (it_list (e_var 0)) (fun C s H fp d hd => ?_) (fun C s H fp d hd _ => e_var 0) (by rw [length_map]; exact smallL (by omega)) (fun _ => .inr fun d hd => ?_)) ?_) ?_ nd
 . obtain ⟨v, hv, rfl⟩ := mem_map.mp hd
   have hk : (valV (metK (·.1) ps (doneP ls rs)) (.inr v)).isSome = goL ps rs v := by rw [metK_val, done_goL ls rs ps hv]
   refine ts_one (T.castB (t_dnotin (e_var 0) (e_var 1) (DO.at_k (k := .inr v) rfl rfl) hu) ?_)
   rw [hk]
 . obtain ⟨v, hv, rfl⟩ := mem_map.mp hd
   rfl
 . rw [List.map_id', filter_map]
   rfl
 refine sd_setCN 8 (d := strsD (rs.filter fun w => !goR ps ls w)) (EC.cast (ec_comp (m := true) (me := false) ["with_left"] [3] (fun d => match d with | .str w => !goR ps ls w | _ => false) (fun d => d) (it_list (e_var 1)) (fun C s H fp d hd => ?_) (fun C s H fp d hd _ => e_var 0) (by rw [length_map]; exact smallL (by omega)) (fun _ => .inr fun d hd => ?_)) ?_) ?_ nd
 . obtain ⟨v, hv, rfl⟩ := mem_map.mp hd
   have hk : (valV (metK (·.2) ps (doneP ls rs)) (.inr v)).isSome = goR ps ls v := by rw [metK_val, done_goR ls rs ps hv]
   refine ts_one (T.castB (t_dnotin (e_var 0) (e_var 1) (DO.at_k (k := .inr v) rfl rfl) hu) ?_)
   rw [hk]
 . obtain ⟨v, hv, rfl⟩ := mem_map.mp hd
   rfl
 . rw [List.map_id', filter_map]
   rfl
 refine sd_ret false (E.cast (e_add (e_lenL (e_var 7) B.len) (e_lenL (e_var 8) B.len)) ?_) rfl
 rw [length_map, length_map]
 unfold loneN
 rw [Int.natCast_add]
theorem ok_step_price {f aS : Addr} {fd : FuncData} (Fx : Fun K "step_price" "step_price" s_step_price f fd) (hmg : mg "step_price" = some (.ref f)) (hb : Binds K fd ["lefts", "rights", "prices", "paired"] []) (B : Blt mg) (hS : mg "STEPS" = some (.ref aS)) (kd : KD K P w aS stepsK) (dW : Def P w K mg base 1 "words_of" true gWordsOf) (dL : Def P w K mg base 1 "lone_words" true gLone) : Def P w K mg base 2 "step_price" true gStepPrice := by
 refine def_of Fx sc_step_price hmg hb (by rintro ds d ⟨ls, rs, prices, ps, hok, e1, e2⟩; subst e1; rfl) fun cdv A outer s H Ex Z ds d hr ⟨ls, rs, prices, ps, ⟨h1, h2, h5, h9, hst⟩, e1, e2⟩ => ?_
 subst e1 e2
 have nd := sc_step_price.nd
 have hu := room1 hr
 have fl := flatten_len ls
 have fr := flatten_len rs
 obtain ⟨t3, hg3⟩ := B.SLOPE
 obtain ⟨t4, hg4⟩ := B.LONE
 have hk3 := stepNo_lt ls.length rs.length
 have hlone := loneN_le ls.flatten rs.flatten ps
 refine sd_setN 4 (d := strsD ls.flatten) (e_call dW hr (ea_one (e_var 0)) ⟨ls, by omega, rfl, rfl⟩) ?_ nd
 refine sd_setN 5 (d := strsD rs.flatten) (e_call dW hr (ea_one (e_var 1)) ⟨rs, by omega, rfl, rfl⟩) ?_ nd
 refine sd_setF 6 (d := .int (prices.getD (stepNo ls.length rs.length) 0)) (e_ixT (i := ((stepNo ls.length rs.length : Nat) : Int)) (e_var 2) (e_kdsub (ks := [.inl ((ls.length : Nat) : Int), .inl ((rs.length : Nat) : Int)]) (i := _) hS kd (E.cast (e_tup (ea_cons (e_lenL (e_var 0) B.len) (ea_one (e_lenL (e_var 1) B.len)))) ?_) (stepsK_val hst) hu) (atI_nat (ints_get (by omega)))) rfl ?_ nd
 . rw [length_map, length_map]
   rfl
 refine sd_setF 7 (d := .int (prices.getD 3 0 * dist ls.flatten.length rs.flatten.length)) (E.cast (e_mul (e_ixT (i := 3) (d := .int (prices.getD 3 0)) (e_var 2) (e_gint hg3) (atI_nat (j := 3) (ints_get (by omega)))) (e_abs (e_sub (e_lenL (e_var 4) B.len) (e_lenL (e_var 5) B.len)) B.abs) ?_) ?_) rfl ?_ nd
 . rw [length_map, length_map]
   exact .inr (dist_lt (by omega) (by omega))
 . rw [length_map, length_map]
   rfl
 refine sd_ret false (e_add (e_add (e_var 6) (e_var 7)) (e_mul (e_ixT (i := 4) (d := .int (prices.getD 4 0)) (e_var 2) (e_gint hg4) (atI_nat (j := 4) (ints_get (by omega)))) (e_call dL hr (ea_cons (e_var 4) (ea_cons (e_var 5) (ea_one (e_var 3)))) ⟨_, _, ps, by omega, by omega, h9, rfl, rfl⟩) (.inr ⟨by omega, by omega⟩))) rfl
theorem ok_law_pairs (Fx : Fun K "_law_pairs" "_law_pairs" s_law_pairs f fd) (hmg : mg "_law_pairs" = some (.ref f)) (hb : Binds K fd ["_law_lefts", "_law_rights", "_law_cell"] []) (B : Blt mg) (dP : Def P w K mg base 1 "_law_part" true gPart) : Def P w K mg base 2 "_law_pairs" true gPairs := by
 refine def_of Fx sc_law_pairs hmg hb (by rintro ds d ⟨ws, vs, c, h1, h2, e1, e2⟩; subst e1; rfl) ?_
 rintro cdv A outer s H Ex Z ds d hr ⟨ws, vs, c, h1, h2, e1, e2⟩
 subst e1 e2
 have nd := sc_law_pairs.nd
 have p0 := part_nn c 42 (show (0 : Int) < 9 by decide)
 have p9 := part_lt c 42 (show (0 : Int) < 9 by decide)
 refine sd_own 3 (e_lstN ea_nil) rfl ?_ nd
 refine sd_forF 4 (ds := rangeD 0 (part c 42 9).toNat) (fun n r => ∃ o4 o5 o6, r = [some (.pl false (strsD ws)), some (.pl false (strsD vs)), some (.pl false (.int c)), some (.ow true (((List.range n).map fun k => (ws.getD (part c (43 + ((k : Nat) : Int)) 4).toNat "", vs.getD (part c (53 + ((k : Nat) : Int)) 4).toNat "")).map prD)), o4, o5, o6] /\ n <= 9)
  (it_range (n := part c 42 9) (m := true) (e_call dP hr (ea_cons (e_var 2) (ea_cons e_int (ea_one e_int))) ⟨_, _, _, by decide, rfl, rfl⟩) (by omega) (by omega) B.range) flat_range ⟨_, _, _, rfl, by omega⟩ (by rintro n r ⟨_, _, _, e, _⟩; subst e; simp) ?_ ?_ nd
 . rintro n d r hd ⟨o4, o5, o6, e, hn⟩
   subst e
   obtain ⟨hn9, rfl⟩ := rangeD0_get hd
   have a0 := part_nn c (43 + ((n : Nat) : Int)) (show (0 : Int) < 4 by decide)
   have a1 := part_lt c (43 + ((n : Nat) : Int)) (show (0 : Int) < 4 by decide)
   have b0 := part_nn c (53 + ((n : Nat) : Int)) (show (0 : Int) < 4 by decide)
   have b1 := part_lt c (53 + ((n : Nat) : Int)) (show (0 : Int) < 4 by decide)
   refine sd_setF 5 (d := .str (ws.getD (part c (43 + ((n : Nat) : Int)) 4).toNat "")) (e_ixL (e_var 0) (e_call dP hr (ea_cons (e_var 2) (ea_cons (e_add e_int (e_var 4)) (ea_one e_int))) ⟨_, _, _, by decide, rfl, rfl⟩) (atI_get a0 (strs_get (by omega)))) rfl ?_ nd
   refine sd_setF 6 (d := .str (vs.getD (part c (53 + ((n : Nat) : Int)) 4).toNat "")) (e_ixL (e_var 1) (e_call dP hr (ea_cons (e_var 2) (ea_cons (e_add e_int (e_var 4)) (ea_one e_int))) ⟨_, _, _, by decide, rfl, rfl⟩) (atI_get b0 (strs_get (by omega)))) rfl ?_ nd
   refine sd_appendF 3 true rfl (e_tup (ea_cons (e_var 5) (ea_one (e_var 6)))) rfl (by simp; omega) ?_
   refine sd_nil ⟨some (.pl true (.int (n : Nat))), some (.pl true (.str (ws.getD (part c (43 + ((n : Nat) : Int)) 4).toNat ""))), some (.pl true (.str (vs.getD (part c (53 + ((n : Nat) : Int)) 4).toNat ""))), ?_, by omega⟩
   rw [range_succ, map_append, map_append]
   rfl
 . rintro r ⟨o4, o5, o6, e, hn⟩
   subst e
   refine sd_ret true (E.cast (e_var 3) ?_) rfl
   rw [rangeD_len]
   rfl
theorem ok_law_prices (Fx : Fun K "_law_prices" "_law_prices" s_law_prices f fd) (hmg : mg "_law_prices" = some (.ref f)) (hb : Binds K fd ["_law_cell"] []) (B : Blt mg) (dP : Def P w K mg base 1 "_law_part" true gPart) : Def P w K mg base 2 "_law_prices" true gPrices := by
 refine def_of Fx sc_law_prices hmg hb (by rintro ds d ⟨c, e1, e2⟩; subst e1; rfl) ?_
 rintro cdv A outer s H Ex Z ds d hr ⟨c, e1, e2⟩
 subst e1 e2
 have nd := sc_law_prices.nd
 have hpos : (0 : Int) < 10 ^ 60 + 1 := by decide
 refine sd_setF 1 (d := .int (c % (10 ^ 60 + 1))) (e_mod (j := 10 ^ 60 + 1) (e_var 0) (E.cast (e_add (e_pow (i := 10) (j := 60) e_int e_int ⟨by decide, by decide, by decide⟩) e_int) rfl) hpos) rfl ?_ nd
 generalize hg : c % (10 ^ 60 + 1) = g
 refine sd_setN 2 (d := intsD [g, g / 3, g / 7, g / 11, g % 13]) (e_lstN (ea_cons (e_var 1) (ea_cons (e_fdiv (e_var 1) e_int ⟨by decide, by decide⟩) (ea_cons (e_fdiv (e_var 1) e_int ⟨by decide, by decide⟩) (ea_cons (e_fdiv (e_var 1) e_int ⟨by decide, by decide⟩) (ea_one (e_mod (e_var 1) e_int (by decide)))))))) ?_ nd
 refine sd_ifJ [some (.pl false (.int c)), some (.pl true (.int g)), some (.pl true (intsD (pricesL c)))] (t_gtI (e_call dP hr (ea_cons (e_var 0) (ea_cons e_int (ea_one e_int))) ⟨_, _, _, by decide, rfl, rfl⟩) e_int) (fun h => ?_) (fun h => ?_) ?_
 . have h0 : 0 < part c 41 3 := by simpa using h
   refine sd_setCN 2 (d := intsD (pricesL c)) (EC.cast (ec_map (m := true) (me := true) ["_law_cell"] [0] (fun d => match d with | .int k => .int (part c (44 + k) 6) | d => d) (it_range (n := 5) (m := true) e_int (by decide) (by decide) B.range) (fun C s H fp d hd => ?_) (by rw [rangeD_len]; exact smallL (by decide))) ?_) (sd_nil rfl) nd
   . obtain ⟨k, _, rfl⟩ := mem_map.mp hd
     exact e_call dP hr (ea_cons (e_var 1) (ea_cons (e_add e_int (e_var 0)) (ea_one e_int))) ⟨_, _, _, by decide, rfl, rfl⟩
   . unfold pricesL
     rw [if_pos h0]
     simp [intsD, rangeD, Function.comp_def]
 . have h0 : ¬ 0 < part c 41 3 := by simpa using h
   refine sd_nil ?_
   unfold pricesL
   rw [if_neg h0, hg]
   rfl
 . exact sd_ret false (E.flat (e_tupleL (e_var 2) B.tuple) (by show flats _ = true; exact flats_ints _)) rfl
theorem ok_words_in (Fx : Fun K "words_in" "words_in" s_words_in f fd) (hmg : mg "words_in" = some (.ref f)) (hb : Binds K fd ["part"] []) (B : Blt mg) : Def P w K mg base 1 "words_in" true gWordsIn := by
 refine def_of Fx sc_words_in hmg hb (by rintro ds d ⟨z, h1, h2, e1, e2⟩; subst e1; rfl) ?_
 rintro cdv A outer s H Ex Z ds d hr ⟨z, h1, h2, e1, e2⟩
 subst e1 e2
 have nd := sc_words_in.nd
 obtain ⟨t, hW⟩ := B.WORD_SIGNS
 have hl := lower_len h2
 have hcl : (cl (Txt.lower z)).length <= 2000 := by rw [cl_len, hl]; exact h1
 refine sd_setF 1 (d := .str (Txt.join "" ((cl (Txt.lower z)).map fun c => if sgB c then (⟨#[c]⟩ : Str) else " "))) (e_join e_str (zs := (cl (Txt.lower z)).map fun c => if sgB c then (⟨#[c]⟩ : Str) else " ") (E.cast
  (e_map (m := true) (me := true) [] [] (fun d => match d with | .str x => .str (if (!(Builtin.Str.occurrences W36 x 0 W36.length 1).isEmpty) then x else " ") | d => d) (it_str (m := true) (e_lower (e_var 0) (by omega)))
   (fun C s H fp d hd => ?_) (by simp [signsD]; exact smallN (Nat.le_trans (by simpa [cl] using hcl) (by decide)))) ?_) (by decide) ?_) rfl ?_ nd
 . obtain ⟨c, _, rfl⟩ := mem_map.mp hd
   refine e_ifExp (t_inS (e_var 0) (e_gstr hW)) (fun h => ?_) (fun h => ?_)
   . refine E.flat (E.cast (e_var 0) ?_) rfl
     have h' : (!(Builtin.Str.occurrences W36 ⟨#[c]⟩ 0 W36.length 1).isEmpty) = true := h
     simp [h']
   . refine E.cast e_str ?_
     have h' : (!(Builtin.Str.occurrences W36 ⟨#[c]⟩ 0 W36.length 1).isEmpty) = false := h
     simp [h']
 . rw [signsD, map_map, map_map]
   congr 1
   apply map_congr_left
   intro c _
   simp only [Function.comp, inW36]
 . have e : (((cl (Txt.lower z)).map fun c => if sgB c then (⟨#[c]⟩ : Str) else " ").map (·.length)).sum = (cl (Txt.lower z)).length := by
    rw [map_map]
    refine sum_ones _ _ fun c => ?_
    simp only [Function.comp]
    split <;> rfl
   rw [e, length_map]; omega
 . have hlen : (Txt.join "" ((cl (Txt.lower z)).map fun c => if sgB c then (⟨#[c]⟩ : Str) else " ")).length <= 2000 := by
    rw [<- cl_len, joinP, length_map]; exact hcl
   refine sd_ret true (e_split0 (e_var 1) (smallN (Nat.le_trans hlen (by decide))) (smallL1 (words_len _) (by omega))) rfl
theorem ok_rows_of (Fx : Fun K "rows_of" "rows_of" s_rows_of f fd) (hmg : mg "rows_of" = some (.ref f)) (hb : Binds K fd ["text"] []) (B : Blt mg) (dW : Def P w K mg base 1 "words_in" true gWordsIn) : Def P w K mg base 2 "rows_of" true gRowsOf := by
 refine def_of Fx sc_rows_of hmg hb (by rintro ds d ⟨z, h1, h2, e1, e2⟩; subst e1; rfl) ?_
 rintro cdv A outer s H Ex Z ds d hr ⟨z, h1, h2, e1, e2⟩
 subst e1 e2
 have nd := sc_rows_of.nd
 have hsp := split_nl_len z
 refine sd_setCN 1 (d := rowsD ((Txt.split z "\n").map wordsInS)) (EC.cast (ec_map (m := true) (me := true) [] [] (fun d => match d with | .str x => strsD (wordsInS x) | d => d) (it_list (e_split1 (e_var 0) e_str rfl (smallN (by omega)) (smallL1 (parts_len z "\n") (by omega))))
  (fun C s H fp d hd => ?_) (by rw [length_map]; exact smallN (by omega))) (by simp [rowsD, Function.comp_def])) ?_ nd
 . obtain ⟨x, hx, rfl⟩ := mem_map.mp hd
   have hp := split_nl hx
   refine e_call dW hr (ea_one (e_var 0)) ⟨x, ?_, fun c hc => h2 c (cutAt_sub hp hc), rfl, rfl⟩
   have := cutAt_part_len 10 (cl z) _ hp
   rw [cl_len, cl_len] at this
   omega
 . refine sd_ret true (E.cast (e_comp (m := false) (me := false) [] [] (fun d => !deq d (.lst [])) (fun d => d) (it_list (e_var 1)) (fun C s H fp d hd => ?_) (fun C s H fp d hd _ => e_var 0) (by rw [length_map, length_map]; exact smallN (by omega))) ?_) rfl
   . obtain ⟨r, _, rfl⟩ := mem_map.mp hd
     exact ts_one (t_neD (e_var 0) (e_lst ea_nil) rfl (roomD hr (dep_strs _)))
   . simp only [List.map_id']
     unfold rowsD rowsOfS
     rw [filter_map]
     congr 2
     apply List.filter_congr
     intro r _
     have := told_strs r []
     simp only [Function.comp]
     rw [show (D.lst [] : D) = strsD [] from rfl, this]
theorem ok_last_steps {f aS : Addr} {fd : FuncData} (Fx : Fun K "last_steps" "last_steps" s_last_steps f fd) (hmg : mg "last_steps" = some (.ref f)) (hb : Binds K fd ["lefts", "rights", "prices", "paired", "table"] []) (B : Blt mg) (hS : mg "STEPS" = some (.ref aS)) (ki : KI K aS (stepsP.map keyP)) (dS : Def P w K mg base 2 "step_price" true gStepPrice) : Def P w K mg base 3 "last_steps" true gLast := by
 refine def_of Fx sc_last_steps hmg hb (by rintro ds d ⟨ls, rs, prices, ps, T, tab, h1, h2, e1, e2⟩; subst e1; rfl) ?_
 rintro cdv A outer s H Ex Z ds d hr ⟨ls, rs, prices, ps, T, tab, ok, has, e1, e2⟩
 subst e1 e2
 have nd := sc_last_steps.nd
 refine sd_own 5 (e_lstN ea_nil) rfl ?_ nd
 refine sd_forF 6 (mi := false) (ds := (stepsP.map keyP).map D.ktup) (fun n r => ∃ o6 o7 o8 o9 o10, r = [some (.pl false (rowsD ls)), some (.pl false (rowsD rs)), some (.pl false (intsT prices)), some (.pl false (.dct (.t (pairedK ps)))), some (.pl false (tabD T)), some (.ow true ((((stepsP.take n).filter (mayEnd ls.length rs.length)).map fun p => (p, (tab (ls.length - p.1) (rs.length - p.2)).1 + priceE ls rs prices ps ls.length rs.length p, (tab (ls.length - p.1) (rs.length - p.2)).2)).map endD)), o6, o7, o8, o9, o10])
  (it_keys hS ki) (fun d hd => by obtain ⟨p, _, rfl⟩ := mem_map.mp hd; rfl) ⟨none, none, none, none, none, rfl⟩ (by rintro n r ⟨_, _, _, _, _, e⟩; subst e; simp) ?_ ?_ nd
 . rintro n d r hd ⟨o6, o7, o8, o9, o10, e⟩
   subst e
   obtain ⟨p, hp, rfl⟩ : ∃ p, stepsP[n]? = some p /\ D.ktup (keyP p) = d := by
    rw [map_map, getElem?_map] at hd
    cases hp : stepsP[n]? with
    | none => rw [hp] at hd; cases hd
    | some p => rw [hp] at hd; exact ⟨p, rfl, Option.some.inj hd⟩
   have hm : p ∈ stepsP := mem_of_getElem? hp
   have tk : stepsP.take (n + 1) = stepsP.take n ++ [p] := by rw [take_add_one, hp]; rfl
   have n5 : n < 5 := (List.getElem?_eq_some_iff.mp hp).1
   refine sd_setF 7 (d := .int ((ls.length : Int) - (p.1 : Int))) (E.cast (e_sub (e_lenL (e_var 0) B.len) (e_ixK (m2 := true) (ks := keyP p) (q := .inl (p.1 : Int)) (n := 0) (e_var 6) e_int rfl)) (by rw [length_map])) rfl ?_ nd
   refine sd_setF 8 (d := .int ((rs.length : Int) - (p.2 : Int))) (E.cast (e_sub (e_lenL (e_var 1) B.len) (e_ixK (m2 := true) (ks := keyP p) (q := .inl (p.2 : Int)) (n := 1) (e_var 6) e_int rfl)) (by rw [length_map])) rfl ?_ nd
   refine sd_if (tw_and (t_geI (e_var 7) e_int) fun _ => tw_and1 (t_geI (e_var 8) e_int)).t (fun h => ?_) (fun h => ?_)
   . have hle : p.1 <= ls.length /\ p.2 <= rs.length := by simp at h; omega
     have pos := stepsP_pos hm
     obtain ⟨row, hrow, hcell⟩ := has (ls.length - p.1) (rs.length - p.2) (by omega) (by omega) (by omega)
     have e7 : (ls.length : Int) - (p.1 : Int) = ((ls.length - p.1 : Nat) : Int) := by omega
     have e8 : (rs.length : Int) - (p.2 : Int) = ((rs.length - p.2 : Nat) : Int) := by omega
     rw [e7, e8]
     refine sd_setF 9 (d := entD (tab (ls.length - p.1) (rs.length - p.2))) (e_ixL (e_ixL (d := .lst (row.map entD)) (e_var 4) (e_var 7) (atI_nat (by rw [getElem?_map, hrow]; rfl))) (e_var 8) (atI_nat (by rw [getElem?_map, hcell]; rfl))) rfl ?_ nd
     refine sd_setF 10 (d := .int ((tab (ls.length - p.1) (rs.length - p.2)).1 + priceE ls rs prices ps ls.length rs.length p)) (e_add (e_ixT (i := 0) (d := .int (tab (ls.length - p.1) (rs.length - p.2)).1) (e_var 9) e_int rfl) (e_call dS hr (ea_cons (e_slL (m := false) (e_var 0) (eo_some (e_var 7)) eo_none) (ea_cons (e_slL (m := false) (e_var 1) (eo_some (e_var 8)) eo_none) (ea_cons (e_var 2) (ea_one (e_var 3))))) ?_)) rfl ?_ nd
     . refine ⟨ls.drop (ls.length - p.1), rs.drop (rs.length - p.2), prices, ps, ⟨Nat.le_trans (tot_drop _ _) ok.tl, Nat.le_trans (tot_drop _ _) ok.tr, ok.pr, ok.pp, ?_⟩, ?_, ?_⟩
       . have l1 : (ls.drop (ls.length - p.1)).length = p.1 := by rw [length_drop]; omega
         have l2 : (rs.drop (rs.length - p.2)).length = p.2 := by rw [length_drop]; omega
         rw [l1, l2]
         exact stepsP_L hm
       . rw [cut_from, cut_from, <- List.map_drop, <- List.map_drop]
         rfl
       . show D.int _ = D.int _
         unfold priceE
         rw [take_length, take_length]
     have short : ((stepsP.take n).filter (mayEnd ls.length rs.length)).length <= n := Nat.le_trans (length_filter_le ..) (by rw [length_take]; omega)
     refine sd_appendF 5 true rfl (e_tup (ea_cons (e_var 6) (ea_cons (e_var 10) (ea_one (e_ixT (i := 1) (d := .int (tab (ls.length - p.1) (rs.length - p.2)).2) (e_var 9) e_int rfl))))) rfl ?_ ?_
     . rw [length_map, length_map]; omega
     refine sd_nil (sd_nil ⟨some (.pl true (.ktup (keyP p))), some (.pl true (.int ((ls.length - p.1 : Nat) : Int))), some (.pl true (.int ((rs.length - p.2 : Nat) : Int))), some (.pl true (entD (tab (ls.length - p.1) (rs.length - p.2)))), some (.pl true (.int ((tab (ls.length - p.1) (rs.length - p.2)).1 + priceE ls rs prices ps ls.length rs.length p))), ?_⟩)
     have yes : mayEnd ls.length rs.length p = true := decide_eq_true hle
     rw [tk, filter_append, List.filter_cons_of_pos yes, List.filter_nil, map_append, map_append]
     rfl
   . have no : ¬ mayEnd ls.length rs.length p = true := fun z => by
      have hle : p.1 <= ls.length /\ p.2 <= rs.length := of_decide_eq_true z
      simp at h
      omega
     refine sd_nil (sd_nil ⟨some (.pl true (.ktup (keyP p))), some (.pl true (.int ((ls.length : Int) - (p.1 : Int)))), some (.pl true (.int ((rs.length : Int) - (p.2 : Int)))), o9, o10, ?_⟩)
     rw [tk, filter_append, List.filter_cons_of_neg no, List.filter_nil, append_nil]
     rfl
 . rintro r ⟨o6, o7, o8, o9, o10, e⟩
   subst e
   refine sd_ret true (E.cast (e_var 5) ?_) rfl
   rfl
theorem ok_entry (Fx : Fun K "entry" "entry" s_entry f fd) (hmg : mg "entry" = some (.ref f)) (hb : Binds K fd ["lefts", "rights", "prices", "paired", "table"] []) (B : Blt mg) (dL : Def P w K mg base 3 "last_steps" true gLast) : Def P w K mg base 4 "entry" true gEntry := by
 refine def_of Fx sc_entry hmg hb (by rintro ds d ⟨ls, rs, prices, ps, T, tab, h1, h2, e1, e2⟩; subst e1; rfl) ?_
 rintro cdv A outer s H Ex Z ds d hr ⟨ls, rs, prices, ps, tb, tab, ok, has, e1, e2⟩
 subst e1 e2
 have nd := sc_entry.nd
 refine sd_if (b := decide (ls = []) && decide (rs = [])) (TW.t (tw_and (T.castB (t_eqD (e_var 0) (e_lst ea_nil) rfl (roomD hr (dep_rows _))) (by rw [show (D.lst [] : D) = rowsD [] from rfl, told_rows])) fun _ => tw_and1 (T.castB (t_eqD (e_var 1) (e_lst ea_nil) rfl (roomD hr (dep_rows _))) (by rw [show (D.lst [] : D) = rowsD [] from rfl, told_rows])))) (fun h => ?_) (fun h => ?_)
 . have hz : ls.length = 0 /\ rs.length = 0 := by simp at h; simp [h]
   refine sd_ret false (m1 := true) (E.cast (E.flat (e_tup (ea_cons e_int (ea_one e_int))) rfl) ?_) rfl
   unfold entryM
   rw [if_pos hz]
   rfl
 . have hz : ¬ (ls.length = 0 /\ rs.length = 0) := by
    rw [List.length_eq_zero_iff, List.length_eq_zero_iff]
    simpa using h
   have ne := endings_ne (priceE ls rs prices ps) tab hz
   have le := endings_le (priceE ls rs prices ps) tab ls.length rs.length
   refine sd_nil ?_
   refine sd_setN 5 (d := .lst ((endings (priceE ls rs prices ps) tab ls.length rs.length).map endD)) (e_call dL hr (ea_cons (e_var 0) (ea_cons (e_var 1) (ea_cons (e_var 2) (ea_cons (e_var 3) (ea_one (e_var 4)))))) ⟨ls, rs, prices, ps, tb, tab, ok, has, rfl, rfl⟩) ?_ nd
   have tri : ∀ d ∈ (endings (priceE ls rs prices ps) tab ls.length rs.length).map endD, ∃ a b c, d = .tup [a, b, c] := fun d hd => by
    obtain ⟨x, _, rfl⟩ := mem_map.mp hd
    exact ⟨_, _, _, rfl⟩
   have em : entryM (priceE ls rs prices ps) tab ls.length rs.length = (leastI ((endings (priceE ls rs prices ps) tab ls.length rs.length).map (·.2.1)), (((endings (priceE ls rs prices ps) tab ls.length rs.length).filter fun x => decide (x.2.1 = leastI ((endings (priceE ls rs prices ps) tab ls.length rs.length).map (·.2.1)))).map (·.2.2)).sum) := by
    unfold entryM
    rw [if_neg hz]
   rw [em]
   generalize endings (priceE ls rs prices ps) tab ls.length rs.length = es at *
   refine sd_setF 6 (d := .int (leastI (es.map (·.2.1)))) (e_min (ns := es.map (·.2.1)) (E.cast (ec_comp3 (m := true) (me := true) [] [] (fun _ _ _ => true) (fun _ t _ => t) (it_list (e_var 5)) tri (fun C s H fp a b c hd => ts_nil) (fun C s H fp a b c hd _ => ?_) (by rw [length_map]; exact smallL (by omega))).val (congrArg D.lst (totals_map es))) (fun z => ne (List.map_eq_nil_iff.mp z)) hr.hd B.min) rfl ?_ nd
   . obtain ⟨x, _, e⟩ := mem_map.mp hd
     cases e
     exact E.flat (e_var 1) rfl
   generalize leastI (es.map (·.2.1)) = mn
   refine sd_ret false (m1 := true) (E.flat (e_tup (ea_cons (e_var 6) (ea_one (e_sum (ns := (es.filter fun x => decide (x.2.1 = mn)).map (·.2.2)) (E.cast (ec_comp3 (m := true) (me := true) ["least"] [6] (fun _ t _ => isTot mn t) (fun _ _ n => n) (it_list (e_var 5)) tri (fun C s H fp a b c hd => ?_) (fun C s H fp a b c hd _ => ?_) (by rw [length_map]; exact smallL (by omega))).val (congrArg D.lst (manys_map mn es))) hr.hd B.sum)))) rfl) rfl
   . obtain ⟨x, _, e⟩ := mem_map.mp hd
     cases e
     exact ts_one (t_eqI (e_var 1) (e_var 3))
   . obtain ⟨x, _, e⟩ := mem_map.mp hd
     cases e
     exact E.flat (e_var 2) rfl
theorem ok_paper (Fx : Fun K "paper" "paper" s_paper f fd) (hmg : mg "paper" = some (.ref f)) (hb : Binds K fd ["lefts", "rights", "prices", "pairs"] []) (B : Blt mg) (dB : Def P w K mg base 1 "by_pair" true gByPair) (dE : Def P w K mg base 4 "entry" true gEntry) : Def P w K mg base 5 "paper" true gPaper := by
 refine def_of Fx sc_paper hmg hb (by rintro ds d ⟨ls, rs, prices, ps, h1, h2, h3, e1, e2⟩; subst e1; rfl) ?_
 rintro cdv A outer s H Ex Z ds d hr ⟨ls, rs, prices, ps, ok, hl, hrr, e1, e2⟩
 subst e1 e2
 have nd := sc_paper.nd
 generalize hpr : priceE ls rs prices ps = price
 refine sd_setN 4 (d := .dct (.t (pairedK ps))) (e_call dB (hr.mono (by decide)) (ea_one (e_var 3)) ⟨ps, ok.pp, rfl, rfl⟩) ?_ nd
 refine sd_own2 5 (e_lstN ea_nil) ?_ nd
 refine sd_forF 6 (ds := rangeD 0 (ls.length + 1)) (fun n r => ∃ o6 o7, r = [some (.pl false (rowsD ls)), some (.pl false (rowsD rs)), some (.pl false (intsT prices)), some (.pl false (prsD ps)), some (.pl true (.dct (.t (pairedK ps)))), some (.ow2 true ((rowsT price rs.length n).map fun r => r.map entD)), o6, o7])
  (it_rangeL (n := ls.length + 1) (E.cast (e_add (e_lenL (e_var 0) B.len) e_int) (by rw [length_map]; rfl)) B.range (by omega)) flat_range ⟨none, none, rfl⟩ (by rintro n r ⟨_, _, e⟩; subst e; simp) ?_ ?_ nd
 . rintro n d r hd ⟨o6, o7, e⟩
   subst e
   obtain ⟨hn, rfl⟩ := rangeD0_get hd
   have lenT : (rowsT price rs.length n).length = n := by simp [rowsT]
   refine sd_append2n 5 true rfl (e_lstN ea_nil) (by rw [length_map]; omega) ?_
   refine sd_forF 7 (ds := rangeD 0 (rs.length + 1)) (fun m r => ∃ o7, r = [some (.pl false (rowsD ls)), some (.pl false (rowsD rs)), some (.pl false (intsT prices)), some (.pl false (prsD ps)), some (.pl true (.dct (.t (pairedK ps)))), some (.ow2 true ((rowsT price rs.length n ++ [(List.range m).map (tabM price n)]).map fun r => r.map entD)), some (.pl true (.int (n : Nat))), o7])
    (it_rangeL (n := rs.length + 1) (E.cast (e_add (e_lenL (e_var 1) B.len) e_int) (by rw [length_map]; rfl)) B.range (by omega)) flat_range ⟨o7, by rw [map_append]; rfl⟩ (by rintro n r ⟨_, e⟩; subst e; simp) (fun m d r hd ⟨o7, e⟩ => ?_) (fun r ⟨o7, e⟩ => ?_) nd
   . subst e
     obtain ⟨hm, rfl⟩ := rangeD0_get hd
     have at_n : ((rowsT price rs.length n ++ [(List.range m).map (tabM price n)]).map fun r => r.map entD)[n]? = some (((List.range m).map (tabM price n)).map entD) := by
      rw [getElem?_map, getElem?_append_right (by omega), lenT]
      simp
     refine sd_append2A 5 n true rfl (e_var 6) at_n (d := entD (tabM price n m)) (m1 := true) (E.cast (e_call dE (hr.mono (by decide)) (ea_cons (e_slL (m := false) (e_var 0) eo_none (eo_some (e_var 6))) (ea_cons (e_slL (m := false) (e_var 1) eo_none (eo_some (e_var 7))) (ea_cons (e_var 2) (ea_cons (e_var 4) (ea_one (e_var 5))))))
      ⟨ls.take n, rs.take m, prices, ps, rowsT price rs.length n ++ [(List.range m).map (tabM price n)], tabM price, ⟨Nat.le_trans (tot_take_le _ _) ok.tl, Nat.le_trans (tot_take_le _ _) ok.tr, ok.pr, ok.pp⟩, ?_, ?_, rfl⟩) ?_) rfl ?_ ?_
     . have e1 : (ls.take n).length = n := by rw [length_take]; omega
       have e2 : (rs.take m).length = m := by rw [length_take]; omega
       rw [e1, e2]
       exact rowsT_has price (by omega)
     . rw [cut_to, cut_to, <- List.map_take, <- List.map_take, map_map]
       rfl
     . rw [<- hpr]
       exact congrArg entD (entry_at (by omega) (by omega))
     . rw [length_map, length_map, length_range]; omega
     . have put : ((rowsT price rs.length n ++ [(List.range m).map (tabM price n)]).map fun r => r.map entD).set n (((List.range m).map (tabM price n)).map entD ++ [entD (tabM price n m)]) = (rowsT price rs.length n ++ [(List.range (m + 1)).map (tabM price n)]).map fun r => r.map entD := by
        rw [map_append, map_append, List.set_append_right _ _ (by rw [length_map]; omega), length_map, lenT, Nat.sub_self, range_succ, map_append]
        simp
       rw [put]
       exact sd_nil ⟨some (.pl true (.int (m : Nat))), rfl⟩
   . subst e
     refine sd_nil ⟨some (.pl true (.int (n : Nat))), o7, ?_⟩
     rw [rangeD_len, rowsT_succ]
 . rintro r ⟨o6, o7, e⟩
   subst e
   refine sd_ret true (E.cast (e_var 5) ?_) rfl
   rw [rangeD_len, map_map]
   rfl
def lamScopeM (st : Stmt) : List (Str × NameKind) := match defBody st with
 | [.Return (some (.Subscript (.Call _ _ [⟨_, .Lambda _ _ sc _, _⟩] _) _ _)) _] => sc.names
 | _ => [("", .free)]
theorem ok_last_step {f c Pt : Addr} {fd : FuncData} (Fx : FunC K "last_step" "last_step" s_last_step f fd c) (LK : LamK K mg base c Pt "last_step.<locals>.<lambda>") (hmg : mg "last_step" = some (.ref f)) (hb : Binds K fd ["found"] []) (B : Blt mg) : Def P w K mg base 1 "last_step" true gLastStep := by
 refine def_ofC Fx sc_last_step hmg hb (by rintro ds d ⟨es, h1, h2, e1, e2⟩; subst e1; rfl) fun A outer s H Ex Z ds d hr ⟨es, hne, h5, e1, e2⟩ => ?_
 subst e1 e2
 have hpos : 0 < es.length := List.length_pos_iff.mpr hne
 refine sd_ret false (m1 := true) (E.flat (e_ixT (i := 0) (ds := [stepK (bestE es).1, .int (bestE es).2.1, .int (bestE es).2.2]) (d := stepK (bestE es).1) (e_minK (endD (bestE es)) (ds := es.map endD) (g := keyE) (kf := totE es) (P0 := fun d => ∃ x, d = endD x) (caps := []) (pn := "ending") (c := c) (Pt := Pt) (qn := "last_step.<locals>.<lambda>") (clos := []) (m1 := false) (mb := true) (e_var 0) ?LC ?LO ?cl ?body ?b ?P ?kf ?hd ?pos ?hh ?room ?m) e_int rfl) rfl) rfl
 case LC => exact LamK.cx LK rfl rfl
 case LO =>
  refine ⟨rfl, rfl, rfl, by decide +kernel, rfl, fun q hq => (by simp at hq), fun x c h => (by cases h), fun x hx => ?_⟩
  exact ((by decide +kernel : ∀ q ∈ lamScopeM s_last_step, q.2 = NameKind.free -> False) _ (PySem.mem_of_lookup hx) rfl).elim
 case cl => rfl
 case b => exact fun _ _ _ _ => rfl
 case body =>
  rintro f' c' s' H' R d ⟨x, rfl⟩
  exact E.flat (d := .int x.2.1) (e_ixT (i := 1) (ds := [stepK x.1, .int x.2.1, .int x.2.2]) (d := .int x.2.1) (e_var 0) e_int rfl) rfl
 case P =>
  intro d hd
  obtain ⟨x, _, rfl⟩ := mem_map.mp hd
  exact ⟨x, rfl⟩
 case kf =>
  intro i d hd
  rw [getElem?_map] at hd
  cases q : es[i]? with
  | none => rw [q] at hd; cases hd
  | some x =>
   rw [q] at hd
   cases hd
   show D.int x.2.1 = .int (totE es i)
   unfold totE
   rw [List.getD_eq_getElem?_getD, q]
   rfl
 case hd =>
  intro b hb
  rw [length_map] at hb
  obtain ⟨b', hb', e⟩ := bestE_ix hne
  obtain rfl := hb.uniq hb'
  rw [getElem?_map, e]
  rfl
 case pos => rw [length_map]; exact hpos
 case hh => exact hr.hd
 case room => exact hr.depth
 case m => exact B.min
theorem ok_cheapest (Fx : Fun K "cheapest" "cheapest" s_cheapest f fd) (hmg : mg "cheapest" = some (.ref f)) (hb : Binds K fd ["lefts", "rights", "prices", "pairs"] []) (B : Blt mg) (dB : Def P w K mg base 1 "by_pair" true gByPair) (dP : Def P w K mg base 5 "paper" true gPaper) (dS : Def P w K mg base 1 "last_step" true gLastStep) (dL : Def P w K mg base 3 "last_steps" true gLast) : Def P w K mg base 6 "cheapest" true gCheapest := by
 refine def_of Fx sc_cheapest hmg hb (by rintro ds d ⟨ls, rs, prices, ps, h1, h2, h3, e1, e2⟩; subst e1; rfl) ?_
 rintro cdv A outer s H Ex Z ds d hr ⟨ls, rs, prices, ps, ok, hl, hrr, e1, e2⟩
 subst e1 e2
 have nd := sc_cheapest.nd
 have hr1 : Room 1 _ := hr.mono (by decide)
 have hr3 : Room 3 _ := hr.mono (by decide)
 unfold cheapL
 generalize hpr : priceE ls rs prices ps = price
 refine sd_setN 4 (d := .dct (.t (pairedK ps))) (e_call dB hr1 (ea_one (e_var 3)) ⟨ps, ok.pp, rfl, rfl⟩) ?_ nd
 refine sd_setN 5 (d := tabD (rowsT price rs.length (ls.length + 1))) (e_call dP hr (ea_cons (e_var 0) (ea_cons (e_var 1) (ea_cons (e_var 2) (ea_one (e_var 3))))) ⟨ls, rs, prices, ps, ok, hl, hrr, rfl, by rw [hpr]⟩) ?_ nd
 refine sd_setF 6 (d := .int (ls.length : Nat)) (E.cast (e_lenL (e_var 0) B.len) (by rw [length_map])) rfl ?_ nd
 refine sd_setF 7 (d := .int (rs.length : Nat)) (E.cast (e_lenL (e_var 1) B.len) (by rw [length_map])) rfl ?_ nd
 refine sd_own 8 (e_lstN ea_nil) rfl ?_ nd
 refine sd_while (fun r => ∃ (i j : Nat) (W : List (Nat × Nat)) (o9 : Option Slot), r = [some (.pl false (rowsD ls)), some (.pl false (rowsD rs)), some (.pl false (intsT prices)), some (.pl false (prsD ps)), some (.pl true (.dct (.t (pairedK ps)))), some (.pl true (tabD (rowsT price rs.length (ls.length + 1)))), some (.pl true (.int (i : Nat))), some (.pl true (.int (j : Nat))), some (.ow true (W.map stepK)), o9] /\ i <= ls.length /\ j <= rs.length /\ W ++ backM price (i + j + 1) i j = backM price (ls.length + rs.length + 1) ls.length rs.length /\ W.length + (i + j) <= 40)
  (fun r => slN r 6 + slN r 7) (fun r => !decide (slN r 6 = 0 /\ slN r 7 = 0)) ⟨ls.length, rs.length, [], none, rfl, by omega, by omega, rfl, by simp; omega⟩ (by rintro r ⟨_, _, _, _, e, _⟩; subst e; rfl) (fun r ⟨i, j, W, o9, e, _⟩ => ?_) (fun r ⟨i, j, W, o9, e, hi, hj, hW, hl40⟩ hb => ?_) (fun r ⟨i, j, W, o9, e, hi, hj, hW, hl40⟩ hb => ?_)
 . subst e
   refine T.castB (t_neD (d := .tup [.int (i : Nat), .int (j : Nat)]) (d' := .tup [.int 0, .int 0]) (e_tup (ea_cons (e_var 6) (ea_one (e_var 7)))) (e_tup (ea_cons e_int (ea_one e_int))) rfl (roomD (n := 1) hr (by simp [D.dep, deps]))) ?_
   show (!deq (.tup [.int (i : Nat), .int (j : Nat)]) (.tup [.int 0, .int 0])) = !decide ((((i : Nat) : Int).toNat) = 0 /\ (((j : Nat) : Int).toNat) = 0)
   simp only [deq, deqs, Int.toNat_natCast, Bool.and_true]
   congr 1
   rw [Bool.eq_iff_iff]
   simp
 . subst e
   have z : ¬ (i = 0 /\ j = 0) := by
    have hb : (!decide ((((i : Nat) : Int).toNat) = 0 /\ (((j : Nat) : Int).toNat) = 0)) = true := hb
    intro ⟨q1, q2⟩
    subst q1 q2
    cases hb
   obtain ⟨b1, b2, b3, _⟩ := bestP_ok price z
   have hp := stepsP_pos b1
   have hne := endings_ne price (tabM price) z
   refine sd_setF 9 (d := stepK (bestP price i j)) (e_call dS hr1 (ea_one (e_call dL hr3 (ea_cons (e_slL (m := false) (e_var 0) eo_none (eo_some (e_var 6))) (ea_cons (e_slL (m := false) (e_var 1) eo_none (eo_some (e_var 7))) (ea_cons (e_var 2) (ea_cons (e_var 4) (ea_one (e_var 5))))))
    ⟨ls.take i, rs.take j, prices, ps, rowsT price rs.length (ls.length + 1), tabM price, ⟨Nat.le_trans (tot_take_le _ _) ok.tl, Nat.le_trans (tot_take_le _ _) ok.tr, ok.pr, ok.pp⟩, ?_, ?_, rfl⟩)) ⟨endings price (tabM price) i j, hne, endings_le price (tabM price) i j, ?_, rfl⟩) rfl ?_ nd
   . have e1 : (ls.take i).length = i := by rw [length_take]; omega
     have e2 : (rs.take j).length = j := by rw [length_take]; omega
     rw [e1, e2]
     exact rowsT_full price (by omega) (by omega)
   . rw [cut_to, cut_to, <- List.map_take, <- List.map_take]
     rfl
   . rw [endings_cut hi hj, hpr]
   refine sd_appendF 8 true rfl (e_var 9) rfl (by rw [length_map]; omega) ?_
   refine sd_setF 6 (d := .int ((i : Nat) - ((bestP price i j).1 : Nat) : Int)) (e_sub (e_var 6) (e_ixK (m2 := true) (q := .inl ((bestP price i j).1 : Nat)) (e_var 9) e_int rfl)) rfl ?_ nd
   refine sd_setF 7 (d := .int ((j : Nat) - ((bestP price i j).2 : Nat) : Int)) (e_sub (e_var 7) (e_ixK (m2 := true) (q := .inl ((bestP price i j).2 : Nat)) (e_var 9) e_int rfl)) rfl ?_ nd
   have e1 : ((i : Nat) : Int) - ((bestP price i j).1 : Nat) = ((i - (bestP price i j).1 : Nat) : Int) := by omega
   have e2 : ((j : Nat) : Int) - ((bestP price i j).2 : Nat) = ((j - (bestP price i j).2 : Nat) : Int) := by omega
   rw [e1, e2]
   refine sd_nil ⟨⟨i - (bestP price i j).1, j - (bestP price i j).2, W ++ [bestP price i j], some (.pl true (stepK (bestP price i j))), ?_, by omega, by omega, ?_, ?_⟩, ?_⟩
   . rw [map_append]
     rfl
   . rw [<- hW, back_step price z, List.append_assoc]
     rfl
   . rw [List.length_append, List.length_singleton]
     omega
   . show (((i - (bestP price i j).1 : Nat) : Int).toNat) + (((j - (bestP price i j).2 : Nat) : Int).toNat) < (((i : Nat) : Int).toNat) + (((j : Nat) : Int).toNat)
     simp only [Int.toNat_natCast]
     omega
 . subst e
   have z : i = 0 /\ j = 0 := by
    have hb : (!decide ((((i : Nat) : Int).toNat) = 0 /\ (((j : Nat) : Int).toNat) = 0)) = false := hb
    simpa using hb
   obtain ⟨rfl, rfl⟩ := z
   have hW : W = backM price (ls.length + rs.length + 1) ls.length rs.length := by
    rw [<- hW]
    show W = W ++ (if (0 : Nat) = 0 /\ (0 : Nat) = 0 then [] else _)
    rw [if_pos ⟨rfl, rfl⟩, append_nil]
   have fW : flats (W.map stepK) = true := flats_stepK W
   refine sd_ret true (E.cast (e_listRev (m := true) (e_var 8) hr.hd B.list B.reversed (fun _ => .inr fW)) ?_) rfl
   rw [<- hW, List.map_reverse]
theorem ok_is_way (Fx : Fun K "is_way" "is_way" s_is_way f fd) (hmg : mg "is_way" = some (.ref f)) (hb : Binds K fd ["lefts", "rights", "steps"] []) (B : Blt mg) {aS : Addr} (hS : mg "STEPS" = some (.ref aS)) (kd : KD K P w aS stepsK) (ki : KI K aS (stepsP.map keyP)) : Def P w K mg base 1 "is_way" true gIsWay := by
 refine def_of Fx sc_is_way hmg hb (by rintro ds d ⟨ls, rs, st, h1, h2, e1, e2⟩; subst e1; rfl) ?_
 rintro cdv A outer s H Ex Z ds d hr ⟨ls, rs, st, hw, h2, e1, e2⟩
 subst e1 e2
 have nd := sc_is_way.nd
 have hh := hr.hd
 have hu := room1 hr
 have hall : ((st.map fun _ => true).all id) = true := by rw [List.all_map]; simp
 refine sd_if (b := false) (T.castB (t_not (t_val (e_all (bs := st.map fun _ => true) (E.cast (e_map (m := true) (me := true) [] [] (fun _ => .bl true) (it_list (e_var 2)) (fun C s H fp d hd => ?a1) ?a2) ?a3) hh B.all))) (by rw [hall]; rfl)) (fun h => by cases h) (fun h => sd_nil ?_)
 case a1 =>
  obtain ⟨p, hp, rfl⟩ := mem_map.mp hd
  exact e_inKD hS kd ki.ns (e_var 0) (stepsK_at (hw.ok p hp)) hu
 case a2 => rw [length_map]; exact smallL (by omega)
 case a3 => rw [map_map, map_map]; rfl
 refine sd_setF 3 (d := .tup [.int (sum1 st : Nat), .int (sum2 st : Nat)]) (e_tup (ea_cons (E.cast (e_sum (ns := st.map fun p => ((p.1 : Nat) : Int)) (E.cast (e_map (m := true) (me := true) [] [] (fun d => .int (g2 d).1) (it_list (e_var 2)) (fun C s H fp d hd => ?b1) ?b2) ?b3) hh B.sum) ?b4) (ea_one (E.cast (e_sum (ns := st.map fun p => ((p.2 : Nat) : Int)) (E.cast (e_map (m := true) (me := true) [] [] (fun d => .int (g2 d).2) (it_list (e_var 2)) (fun C s H fp d hd => ?c1) ?c2) ?c3) hh B.sum) ?c4)))) rfl ?_ nd
 case b1 =>
  obtain ⟨p, hp, rfl⟩ := mem_map.mp hd
  exact e_ixK (m2 := true) (q := .inl (p.1 : Nat)) (e_var 0) e_int rfl
 case b2 => rw [length_map]; exact smallL (by omega)
 case b3 => rw [map_map, map_map]; rfl
 case b4 => exact congrArg D.int (sumN_cast _ _)
 case c1 =>
  obtain ⟨p, hp, rfl⟩ := mem_map.mp hd
  exact e_ixK (m2 := true) (q := .inl (p.2 : Nat)) (e_var 0) e_int rfl
 case c2 => rw [length_map]; exact smallL (by omega)
 case c3 => rw [map_map, map_map]; rfl
 case c4 => exact congrArg D.int (sumN_cast _ _)
 have el : D.int ((ls.map strsD).length : Nat) = .int (sum1 st : Nat) := by rw [length_map, hw.s1]
 have er : D.int ((rs.map strsD).length : Nat) = .int (sum2 st : Nat) := by rw [length_map, hw.s2]
 refine sd_ret false (E.cast (e_eqD (d := .tup [.int (sum1 st : Nat), .int (sum2 st : Nat)]) (d' := .tup [.int (sum1 st : Nat), .int (sum2 st : Nat)]) (e_var 3) (e_tup (ea_cons (E.cast (e_lenL (e_var 0) B.len) el) (ea_one (E.cast (e_lenL (e_var 1) B.len) er)))) rfl (roomD (n := 1) hr (by simp [D.dep, deps]))) ?_) rfl
 rw [deq_refl]
theorem ok_way_price (Fx : Fun K "way_price" "way_price" s_way_price f fd) (hmg : mg "way_price" = some (.ref f)) (hb : Binds K fd ["lefts", "rights", "prices", "pairs", "steps"] []) (B : Blt mg) (dI : Def P w K mg base 1 "is_way" true gIsWay) (dB : Def P w K mg base 1 "by_pair" true gByPair) (dS : Def P w K mg base 2 "step_price" true gStepPrice) : Def P w K mg base 3 "way_price" true gWayPrice := by
 refine def_of Fx sc_way_price hmg hb (by rintro ds d ⟨ls, rs, prices, ps, st, h1, h2, h3, e1, e2⟩; subst e1; rfl) ?_
 rintro cdv A outer s H Ex Z ds d hr ⟨ls, rs, prices, ps, st, ok, hw, h3, e1, e2⟩
 subst e1 e2
 have nd := sc_way_price.nd
 have hr1 : Room 1 _ := hr.mono (by decide)
 refine sd_if (t_not (t_val (e_call dI hr1 (ea_cons (e_var 0) (ea_cons (e_var 1) (ea_one (e_var 4)))) ⟨ls, rs, st, hw, h3, rfl, rfl⟩))) (fun h => by cases h) (fun h => sd_nil ?_)
 refine sd_setN 5 (d := .dct (.t (pairedK ps))) (e_call dB hr1 (ea_one (e_var 3)) ⟨ps, ok.pp, rfl, rfl⟩) ?_ nd
 refine sd_setF 6 (d := .int 0) e_int rfl ?_ nd
 refine sd_setF 7 (d := .int 0) e_int rfl ?_ nd
 refine sd_setF 8 (d := .int 0) e_int rfl ?_ nd
 generalize hpr : priceE ls rs prices ps = price
 refine sd_forF 9 (ds := st.map stepK) (fun n r => ∃ o9 o10 o11, r = [some (.pl false (rowsD ls)), some (.pl false (rowsD rs)), some (.pl false (intsT prices)), some (.pl false (prsD ps)), some (.pl false (.lst (st.map stepK))), some (.pl true (.dct (.t (pairedK ps)))), some (.pl true (.int (sum1 (st.take n) : Nat))), some (.pl true (.int (sum2 (st.take n) : Nat))), some (.pl true (.int (costP price 0 0 (st.take n)))), o9, o10, o11])
  (it_list (e_var 4)) (fun d hd => by obtain ⟨p, _, rfl⟩ := mem_map.mp hd; rfl) ⟨none, none, none, rfl⟩ (by rintro n r ⟨_, _, _, e⟩; subst e; simp) ?_ ?_ nd
 . rintro n d r hd ⟨o9, o10, o11, e⟩
   subst e
   rw [getElem?_map] at hd
   cases hp : st[n]? with
   | none => rw [hp] at hd; cases hd
   | some p =>
    rw [hp] at hd
    cases hd
    obtain ⟨w1, w2, w3, w4⟩ := way_at hw hp
    rw [w4, sum1_snoc, sum2_snoc, costP_snoc]
    generalize sum1 (st.take n) = i at w2
    generalize sum2 (st.take n) = j at w3
    generalize costP price 0 0 (st.take n) = tt
    refine sd_set 10 false (d := rowsD ((ls.drop i).take p.1)) (E.cast (e_slL (m := false) (e_var 0) (eo_some (e_var 6)) (eo_some (e_add (e_var 6) (e_ixK (m2 := true) (q := .inl (p.1 : Nat)) (e_var 9) e_int rfl)))) ?_) ?_ nd
    . show D.lst (cut (ls.map strsD) (some ((i : Nat) : Int)) (some (((i : Nat) : Int) + ((p.1 : Nat) : Int)))) = _
      rw [show ((i : Nat) : Int) + ((p.1 : Nat) : Int) = ((i + p.1 : Nat) : Int) by omega, cut_both, <- List.map_drop, <- List.map_take, Nat.add_sub_cancel_left]
      rfl
    refine sd_set 11 false (d := rowsD ((rs.drop j).take p.2)) (E.cast (e_slL (m := false) (e_var 1) (eo_some (e_var 7)) (eo_some (e_add (e_var 7) (e_ixK (m2 := true) (q := .inl (p.2 : Nat)) (e_var 9) e_int rfl)))) ?_) ?_ nd
    . show D.lst (cut (rs.map strsD) (some ((j : Nat) : Int)) (some (((j : Nat) : Int) + ((p.2 : Nat) : Int)))) = _
      rw [show ((j : Nat) : Int) + ((p.2 : Nat) : Int) = ((j + p.2 : Nat) : Int) by omega, cut_both, <- List.map_drop, <- List.map_take, Nat.add_sub_cancel_left]
      rfl
    refine sd_setF 8 (d := .int (tt + stepP ((ls.drop i).take p.1) ((rs.drop j).take p.2) prices ps)) (e_add (e_var 8) (e_call dS hr (ea_cons (e_var 10) (ea_cons (e_var 11) (ea_cons (e_var 2) (ea_one (e_var 5))))) ⟨_, _, prices, ps, step_ok ok w1 w2 w3, rfl, rfl⟩)) rfl ?_ nd
    refine sd_setF 6 (d := .int ((i + p.1 : Nat) : Int)) (E.cast (e_add (e_var 6) (e_ixK (m2 := true) (q := .inl (p.1 : Nat)) (e_var 9) e_int rfl)) rfl) rfl ?_ nd
    refine sd_setF 7 (d := .int ((j + p.2 : Nat) : Int)) (E.cast (e_add (e_var 7) (e_ixK (m2 := true) (q := .inl (p.2 : Nat)) (e_var 9) e_int rfl)) rfl) rfl ?_ nd
    refine sd_nil ⟨some (.pl true (stepK p)), some (.pl false (rowsD ((ls.drop i).take p.1))), some (.pl false (rowsD ((rs.drop j).take p.2))), ?_⟩
    rw [<- hpr, Nat.zero_add, Nat.zero_add, price_from]
    rfl
 . rintro r ⟨o9, o10, o11, e⟩
   subst e
   refine sd_ret true (E.cast (e_var 8) ?_) rfl
   rw [length_map, take_length]
theorem ok_fits (Fx : Fun K "fits" "fits" s_fits f fd) (hmg : mg "fits" = some (.ref f)) (hb : Binds K fd ["part", "word"] []) (B : Blt mg) : Def P w K mg base 1 "fits" true gFits := by
 refine def_of Fx sc_fits hmg hb (by rintro ds d ⟨p, z, hp, e1, e2⟩; subst e1; rfl) ?_
 rintro cdv A outer s H Ex Z ds d hr ⟨p, z, hp, e1, e2⟩
 subst e1 e2
 have nd := sc_fits.nd
 cases p with
 | upto n => exact False.elim hp
 | inn q => exact False.elim hp
 | beg u =>
  rw [show ptD (.beg u) = .tup [.str "begin", .str u] by simp [ptD]]
  refine sd_setF 2 (d := .str "begin") (e_ixT (e_var 0) e_int (atI_zero _ _)) rfl ?_ nd
  refine sd_if (t_eqS (i := "begin") (j := "begin") (e_var 2) e_str) (fun h => ?_) (fun h => by exfalso; revert h; decide +kernel)
  exact sd_ret false (e_starts (e_var 1) (e_ixT (d := .str u) (e_var 0) e_int rfl)) rfl
 | fin u =>
  rw [show ptD (.fin u) = .tup [.str "end", .str u] by simp [ptD]]
  refine sd_setF 2 (d := .str "end") (e_ixT (e_var 0) e_int (atI_zero _ _)) rfl ?_ nd
  refine sd_if (t_eqS (i := "end") (j := "begin") (e_var 2) e_str) (fun h => by exfalso; revert h; decide +kernel) (fun h => sd_nil ?_)
  refine sd_if (t_eqS (i := "end") (j := "end") (e_var 2) e_str) (fun h => ?_) (fun h => by exfalso; revert h; decide +kernel)
  exact sd_ret false (e_ends (e_var 1) (e_ixT (d := .str u) (e_var 0) e_int rfl)) rfl
 | any =>
  rw [show ptD .any = .tup [.str "any"] by simp [ptD]]
  refine sd_setF 2 (d := .str "any") (e_ixT (e_var 0) e_int (atI_zero _ _)) rfl ?_ nd
  refine sd_if (t_eqS (i := "any") (j := "begin") (e_var 2) e_str) (fun h => by exfalso; revert h; decide +kernel) (fun h => sd_nil ?_)
  refine sd_if (t_eqS (i := "any") (j := "end") (e_var 2) e_str) (fun h => by exfalso; revert h; decide +kernel) (fun h => sd_nil ?_)
  refine sd_ret false (E.cast (e_or (q := true) (m2 := true) (e_eqS (i := "any") (j := "any") (e_var 2) e_str) (fun h => by exfalso; revert h; decide +kernel)) ?_) rfl
  simp [fitsB]
 | word u =>
  rw [show ptD (.word u) = .tup [.str "word", .str u] by simp [ptD]]
  refine sd_setF 2 (d := .str "word") (e_ixT (e_var 0) e_int (atI_zero _ _)) rfl ?_ nd
  refine sd_if (t_eqS (i := "word") (j := "begin") (e_var 2) e_str) (fun h => by exfalso; revert h; decide +kernel) (fun h => sd_nil ?_)
  refine sd_if (t_eqS (i := "word") (j := "end") (e_var 2) e_str) (fun h => by exfalso; revert h; decide +kernel) (fun h => sd_nil ?_)
  refine sd_ret false (E.cast (e_or (q := decide (z = u)) (e_eqS (i := "word") (j := "any") (e_var 2) e_str) (fun h => Y.e_one (e_eqS (e_var 1) (e_ixT (d := .str u) (e_var 0) e_int rfl)))) ?_) rfl
  rw [show decide (("word" : Str) = "any") = false by decide +kernel, Bool.false_or]
  rfl
theorem ok_fitting (Fx : Fun K "fitting" "fitting" s_fitting f fd) (hmg : mg "fitting" = some (.ref f)) (hb : Binds K fd ["part", "row"] []) (B : Blt mg) (dF : Def P w K mg base 1 "fits" true gFits) : Def P w K mg base 2 "fitting" true gFitting := by
 refine def_of Fx sc_fitting hmg hb (by rintro ds d ⟨p, row, hp, hl, e1, e2⟩; subst e1; rfl) ?_
 rintro cdv A outer s H Ex Z ds d hr ⟨p, row, hp, hl, e1, e2⟩
 subst e1 e2
 have nd := sc_fitting.nd
 refine sd_setF 2 e_c0 rfl ?_ nd
 refine sd_for2 3 4 false (ds := enumD (row.map D.str)) (fun n r => ∃ o3 o4, r = [some (.pl false (ptD p)), some (.pl false (strsD row)), some (.pl true (.int ((fitTo (fun i => fitsB p (row.getD i "")) n : Nat) : Int))), o3, o4])
  (it_enum (e_var 1) B.enumerate) ⟨_, _, rfl⟩ (by rintro n r ⟨_, _, e⟩; subst e; simp) (fun d hd => by
   obtain ⟨i, _, rfl⟩ := mem_map.mp hd
   exact ⟨_, _, rfl⟩) (fun n d1 d2 r hd ⟨o3, o4, e⟩ => ?_) (fun r ⟨o3, o4, e⟩ => ?_) nd
 . subst e
   obtain ⟨d', hd', e⟩ := enumD_get hd
   cases e
   rw [getElem?_map] at hd'
   cases hrow : row[n]? with
   | none => rw [hrow] at hd'; cases hd'
   | some z =>
    rw [hrow] at hd'
    cases hd'
    have hn := (List.getElem?_eq_some_iff.mp hrow).1
    have hz : row.getD n "" = z := by rw [List.getD_eq_getElem?_getD, hrow]; rfl
    refine sd_if (t_val (e_call dF hr (ea_cons (e_var 0) (ea_one (e_var 4))) ⟨p, z, hp, rfl, rfl⟩)) (fun h => ?_) (fun h => ?_)
    . refine sd_setF 2 (e_borN (e_var 2) (e_shlN (i := 1) (n := n) e_c1 (e_var 3) (by decide) (by omega))) rfl ?_ nd
      refine sd_nil (sd_nil ⟨some (.pl false (.int (n : Nat))), some (.pl false (.str z)), ?_⟩)
      rw [show fitTo (fun i => fitsB p (row.getD i "")) (n + 1) = fitTo (fun i => fitsB p (row.getD i "")) n ||| 1 <<< n by
       show (if _ then _ else _) = _
       rw [if_pos (by show fitsB p (row.getD n "") = true; rw [hz]; exact h)]]
      rfl
    . refine sd_nil (sd_nil ⟨some (.pl false (.int (n : Nat))), some (.pl false (.str z)), ?_⟩)
      rw [show fitTo (fun i => fitsB p (row.getD i "")) (n + 1) = fitTo (fun i => fitsB p (row.getD i "")) n by
       show (if _ then _ else _) = _
       rw [if_neg (by show ¬ fitsB p (row.getD n "") = true; rw [hz, h]; simp)]]
      rfl
 . subst e
   refine sd_ret true (E.cast (e_var 2) ?_) rfl
   rw [enumD_len, length_map]
   rfl
theorem ok_behind_word (Fx : Fun K "behind_word" "behind_word" s_behind_word f fd) (hmg : mg "behind_word" = some (.ref f)) (hb : Binds K fd ["places", "wholes"] []) (B : Blt mg) : Def P w K mg base 1 "behind_word" true gBWord := by
 refine def_of Fx sc_behind_word hmg hb (by rintro ds d ⟨pl, ws, h1, h2, e1, e2⟩; subst e1; rfl) ?_
 rintro cdv A outer s H Ex Z ds d hr ⟨pl, ws, h1, h2, e1, e2⟩
 subst e1 e2
 refine sd_ret false (E.cast (e_map (m := true) (me := true) ["places"] [0] (fun d => match d with | .int i => .int ((wordM pl i.toNat : Nat) : Int) | d => d) (it_list (e_var 1))
  (fun C s H fp d hd => ?_) (by rw [length_map]; exact smallL h2)) ?_) rfl
 . obtain ⟨x, hx, rfl⟩ := mem_map.mp hd
   have hlt : x &&& pl < 2 ^ 64 := Nat.lt_of_le_of_lt Nat.and_le_right (Nat.lt_trans h1 (by decide))
   exact e_shlN (e_bandN (e_var 0) (e_var 1)) e_c1 hlt (by decide)
 . simp [natsD, Function.comp_def]
theorem ok_united (Fx : Fun K "united" "united" s_united f fd) (hmg : mg "united" = some (.ref f)) (hb : Binds K fd ["wholes", "others"] []) (B : Blt mg) : Def P w K mg base 1 "united" true gUnited := by
 refine def_of Fx sc_united hmg hb (by rintro ds d ⟨a, b, h1, e1, e2⟩; subst e1; rfl) ?_
 rintro cdv A outer s H Ex Z ds d hr ⟨a, b, h1, e1, e2⟩
 subst e1 e2
 have hpair : ∀ d ∈ zipD (a.map fun n => D.int (n : Nat)) (b.map fun n => D.int (n : Nat)), ∃ x y, d = .tup [x, y] := fun d hd => by
  obtain ⟨i, _, rfl⟩ := mem_map.mp hd
  exact ⟨_, _, rfl⟩
 refine sd_ret false (E.cast (ec_comp2 (m := true) (me := true) [] [] (fun _ _ => true) orD (it_zip (e_var 0) (e_var 1) B.zip) hpair
  (fun C s H fp x y hd => ts_nil) (fun C s H fp x y hd _ => ?_) (by rw [zipD_len, length_map]; exact smallL (by omega))).val ?_) rfl
 . obtain ⟨q, hq, e⟩ := mem_map.mp hd
   cases e
   obtain ⟨i, hi, e1⟩ := mem_map.mp (List.of_mem_zip hq).1
   obtain ⟨j, hj, e2⟩ := mem_map.mp (List.of_mem_zip hq).2
   rw [<- e1, <- e2]
   exact e_borN (e_var 0) (e_var 1)
 . rw [filter_up2 hpair]
   unfold natsD
   rw [united_zip]
theorem ok_behind_upto (Fx : Fun K "behind_upto" "behind_upto" s_behind_upto f fd) (hmg : mg "behind_upto" = some (.ref f)) (hb : Binds K fd ["most", "row", "wholes"] []) (B : Blt mg) (dF : Def P w K mg base 2 "fitting" true gFitting) (dU : Def P w K mg base 1 "united" true gUnited) (dW : Def P w K mg base 1 "behind_word" true gBWord) : Def P w K mg base 3 "behind_upto" false gBUpto := by
 refine def_of Fx sc_behind_upto hmg hb (by rintro ds d ⟨n, row, ws, h1, h2, h3, e1, e2⟩; subst e1; rfl) ?_
 rintro cdv A outer s H Ex Z ds d hr ⟨n, row, ws, h1, h2, h3, e1, e2⟩
 subst e1 e2
 have nd := sc_behind_upto.nd
 have hr1 : Room 1 _ := hr.mono (by decide)
 refine sd_setF 3 (d := .int (fitN .any row : Nat)) (e_call dF hr (ea_cons (E.cast (e_tup (ea_one e_str)) (show D.tup [.str "any"] = ptD .any by simp [ptD])) (ea_one (e_var 1))) ⟨.any, row, trivial, h2, rfl, rfl⟩) rfl ?_ nd
 have hlt : fitN .any row < 2 ^ 61 := Nat.lt_of_lt_of_le (fitN_lt _ _) (Nat.pow_le_pow_right (by decide) h2)
 generalize hev : fitN .any row = ev at hlt
 refine sd_forF 4 (ds := rangeD 0 n) (fun k r => ∃ fr o4, r = [some (.pl false (.int (n : Nat))), some (.pl false (strsD row)), some (.pl fr (natsD (ws.map (uptoM ev k)))), some (.pl true (.int (ev : Nat))), o4])
  (it_rangeL (n := n) (e_var 0) B.range) flat_range ⟨false, _, by simp [uptoM]; rfl⟩ (by rintro n r ⟨_, _, e⟩; subst e; simp) (fun k d r hd ⟨fr, o4, e⟩ => ?_) (fun r ⟨fr, o4, e⟩ => ?_) nd
 . subst e
   refine sd_setN 2 (d := natsD (ws.map (uptoM ev (k + 1)))) (E.cast (e_call dU hr1 (ea_cons (e_var 2) (ea_one (e_call dW hr1 (ea_cons (e_var 3) (ea_one (e_var 2))) ⟨ev, _, hlt, by rw [length_map]; exact h3, rfl, rfl⟩))) ⟨_, _, by rw [length_map]; exact h3, rfl, rfl⟩) ?_) ?_ nd
   . congr 1
     rw [map_map, List.zipWith_map, List.zipWith_self]
     refine map_congr_left fun x _ => ?_
     rw [uptoM_snoc]
     rfl
   . exact sd_nil ⟨true, _, rfl⟩
 . subst e
   rw [rangeD_len]
   cases fr <;> exact sd_ret false (e_var 2) rfl
theorem ok_numbers_in (Fx : Fun K "numbers_in" "numbers_in" s_numbers_in f fd) (hmg : mg "numbers_in" = some (.ref f)) (hb : Binds K fd ["whole"] []) (B : Blt mg) : Def P w K mg base 1 "numbers_in" true gNumbers := by
 refine def_of Fx sc_numbers_in hmg hb (by rintro ds d ⟨x, h1, e1, e2⟩; subst e1; rfl) ?_
 rintro cdv A outer s H Ex Z ds d hr ⟨x, h1, e1, e2⟩
 subst e1 e2
 have hbl := bl_le h1
 refine sd_ret false (E.cast (e_comp (m := true) (me := false) ["whole"] [0] (fun d => match d with | .int i => x.testBit i.toNat | _ => false) (fun d => d) (it_rangeL (n := bl x) (e_bitlen (e_var 0)) B.range (by omega))
  (fun C s H fp d hd => ?_) (fun C s H fp d hd _ => e_var 0) (by rw [rangeD_len]; exact smallL (by omega)) (fun _ => .inr flat_range)) ?_) rfl
 . obtain ⟨i, hi, rfl⟩ := mem_map.mp hd
   refine ts_one (T.castB (t_eqI (E.cast (e_bandN (n := 1) (e_shrN (i := x) (n := i) (e_var 1) (E.cast (e_var 0) (by simp))) e_c1) rfl) e_int) ?_)
   rw [bit_test]
   simp
 . unfold natsD numsIn rangeD
   rw [filter_map, map_map]
   congr 1
   rw [List.filter_congr (q := x.testBit) fun i _ => by simp [Function.comp]]
   refine map_congr_left fun i _ => ?_
   simp [Function.comp]
theorem ok_behind_part (Fx : Fun K "behind_part" "behind_part" s_behind_part f fd) (hmg : mg "behind_part" = some (.ref f)) (hb : Binds K fd ["part", "row", "wholes"] []) (B : Blt mg) (dU : Def P w K mg base 3 "behind_upto" false gBUpto) (dW : Def P w K mg base 1 "behind_word" true gBWord) (dF : Def P w K mg base 2 "fitting" true gFitting)
 (n : Nat) (dQ : ∀ j, n = j + 1 -> Def P w K mg base (3 * j + 6) "behind_question" true (gBQuestion j)) : Def P w K mg base (3 * n + 4) "behind_part" false (gBPart n) := by
 refine def_of (k := 3 * n + 3) Fx sc_behind_part hmg hb (by rintro ds d ⟨p, row, ws, h1, h2, h3, e1, e2⟩; subst e1; rfl) ?_
 rintro cdv A outer s H Ex Z ds d hr ⟨p, row, ws, h1, h2, h3, e1, e2⟩
 subst e1 e2
 have hr3 : Room 3 _ := hr.mono (by omega)
 have hr2 : Room 2 _ := hr.mono (by omega)
 have hr1 : Room 1 _ := hr.mono (by omega)
 rcases pt_cases p with hp | ⟨m, rfl⟩ | ⟨q, rfl⟩
 . obtain ⟨k, ts, ek, k2, k1⟩ := one_head hp
   refine sd_if (t_eqS (i := k) (j := "in") (e_ixT (d := .str k) (E.cast (e_var 0) ek) e_int (atI_zero _ _)) e_str) (fun h => by exfalso; exact k1 (by simpa using h)) (fun h => sd_nil ?_)
   refine sd_if (t_eqS (i := k) (j := "upto") (e_ixT (d := .str k) (E.cast (e_var 0) ek) e_int (atI_zero _ _)) e_str) (fun h => by exfalso; exact k2 (by simpa using h)) (fun h => sd_nil ?_)
   refine sd_ret false (e_call dW hr1 (ea_cons (e_call dF hr2 (ea_cons (e_var 0) (ea_one (e_var 1))) ⟨p, row, hp, h2, rfl, rfl⟩) (ea_one (e_var 2))) ⟨_, ws, Nat.lt_of_lt_of_le (fitN_lt p row) (Nat.pow_le_pow_right (by decide) h2), h3, rfl, rfl⟩) ?_
   show natsD _ = natsD _
   congr 1
   refine map_congr_left fun x _ => ?_
   rw [mPt_one hp]
 . have ek : ptD (.upto m) = .tup [.str "upto", .int (m : Nat)] := by simp [ptD]
   unfold ptOk at h1
   refine sd_if (t_eqS (i := "upto") (j := "in") (e_ixT (d := .str "upto") (E.cast (e_var 0) ek) e_int (atI_zero _ _)) e_str) (fun h => by exfalso; revert h; decide +kernel) (fun h => sd_nil ?_)
   refine sd_if (t_eqS (i := "upto") (j := "upto") (e_ixT (d := .str "upto") (E.cast (e_var 0) ek) e_int (atI_zero _ _)) e_str) (fun h => ?_) (fun h => by exfalso; revert h; decide +kernel)
   refine sd_ret false (e_call dU hr3 (ea_cons (e_ixT (d := .int (m : Nat)) (E.cast (e_var 0) ek) e_int rfl) (ea_cons (e_var 1) (ea_one (e_var 2)))) ⟨m, row, ws, h1, h2, h3, rfl, rfl⟩) ?_
   show natsD _ = natsD _
   congr 1
 . have ek : ptD (.inn q) = .tup [.str "in", questD q] := by simp [ptD, questD]
   unfold ptOk at h1
   obtain ⟨j, hj, hq⟩ := h1
   have hrj : Room (3 * j + 6) _ := hr.mono (by omega)
   refine sd_if (t_eqS (i := "in") (j := "in") (e_ixT (d := .str "in") (E.cast (e_var 0) ek) e_int (atI_zero _ _)) e_str) (fun h => ?_) (fun h => by exfalso; revert h; decide +kernel)
   refine sd_ret false (e_call (dQ j hj) hrj (ea_cons (e_ixT (d := questD q) (E.cast (e_var 0) ek) e_int rfl) (ea_cons (e_var 1) (ea_one (e_var 2)))) ⟨q, row, ws, hq, h2, h3, rfl, rfl⟩) ?_
   show natsD _ = natsD _
   congr 1
theorem ok_behind_parts (Fx : Fun K "behind_parts" "behind_parts" s_behind_parts f fd) (hmg : mg "behind_parts" = some (.ref f)) (hb : Binds K fd ["parts", "row", "wholes"] []) (B : Blt mg) {n : Nat} (dP : Def P w K mg base (3 * n + 4) "behind_part" false (gBPart n)) : Def P w K mg base (3 * n + 5) "behind_parts" false (gBParts n) := by
 refine def_of (k := 3 * n + 4) Fx sc_behind_parts hmg hb (by rintro ds d ⟨p, row, ws, h1, h2, h3, e1, e2⟩; subst e1; rfl) ?_
 rintro cdv A outer s H Ex Z ds d hr ⟨ps, row, ws, h1, h2, h3, e1, e2⟩
 subst e1 e2
 have nd := sc_behind_parts.nd
 have hpd : partsD ps = .lst (ps.map ptD) := by unfold partsD; rw [psDs_map]
 rw [hpd]
 refine sd_for 3 false (ds := ps.map ptD) (fun k r => ∃ o3, r = [some (.pl false (.lst (ps.map ptD))), some (.pl false (strsD row)), some (.pl false (natsD (ws.map (mPs row (ps.take k))))), o3])
  (it_list (e_var 0)) ⟨_, by simp [mPs]; rfl⟩ (by rintro n r ⟨_, e⟩; subst e; simp) (fun k d r hd ⟨o3, e⟩ => ?_) (fun r ⟨o3, e⟩ => ?_) nd
 . subst e
   rw [getElem?_map] at hd
   cases hp : ps[k]? with
   | none => rw [hp] at hd; cases hd
   | some p =>
    rw [hp] at hd
    cases hd
    have hk : ps.take (k + 1) = ps.take k ++ [p] := by rw [take_add_one, hp]; rfl
    refine sd_set 2 false (d := natsD (ws.map (mPs row (ps.take (k + 1))))) (E.cast (e_call dP hr (ea_cons (e_var 3) (ea_cons (e_var 1) (ea_one (e_var 2)))) ⟨p, row, _, psOk_mem h1 p (mem_of_getElem? hp), h2, by rw [length_map]; exact h3, rfl, rfl⟩) ?_) ?_ nd
    . congr 1
      rw [map_map]
      refine map_congr_left fun x _ => ?_
      rw [hk, mPs_snoc]
      rfl
    . exact sd_nil ⟨_, rfl⟩
 . subst e
   rw [length_map, take_length]
   exact sd_ret false (e_var 2) rfl
theorem ok_behind_question (Fx : Fun K "behind_question" "behind_question" s_behind_question f fd) (hmg : mg "behind_question" = some (.ref f)) (hb : Binds K fd ["question", "row", "wholes"] []) (B : Blt mg) (dU : Def P w K mg base 1 "united" true gUnited) {n : Nat} (dP : Def P w K mg base (3 * n + 5) "behind_parts" false (gBParts n)) : Def P w K mg base (3 * n + 6) "behind_question" true (gBQuestion n) := by
 refine def_of (k := 3 * n + 5) Fx sc_behind_question hmg hb (by rintro ds d ⟨p, row, ws, h1, h2, h3, e1, e2⟩; subst e1; rfl) ?_
 rintro cdv A outer s H Ex Z ds d hr ⟨q, row, ws, h1, h2, h3, e1, e2⟩
 subst e1 e2
 have nd := sc_behind_question.nd
 have hr1 : Room 1 _ := hr.mono (by omega)
 have hqd : questD q = .lst (q.map fun ps => D.lst (psDs ps)) := by unfold questD; rw [qDs_map]
 rw [hqd]
 refine sd_setCN 3 (d := natsD (ws.map fun _ => 0)) (EC.cast (ec_map (m := true) (me := true) [] [] (fun _ => .int ((0 : Nat) : Int)) (it_list (e_var 2)) (fun C s H fp d hd => e_c0) (by rw [length_map]; exact smallL h3)) (by simp [natsD, Function.comp_def])) ?_ nd
 refine sd_for 4 false (ds := q.map fun ps => D.lst (psDs ps)) (fun k r => ∃ o4, r = [some (.pl false (.lst (q.map fun ps => D.lst (psDs ps)))), some (.pl false (strsD row)), some (.pl false (natsD ws)), some (.pl true (natsD (ws.map (mQ row (q.take k))))), o4])
  (it_list (e_var 0)) ⟨_, by simp [mQ]; rfl⟩ (by rintro n r ⟨_, e⟩; subst e; simp) (fun k d r hd ⟨o4, e⟩ => ?_) (fun r ⟨o4, e⟩ => ?_) nd
 . subst e
   rw [getElem?_map] at hd
   cases hp : q[k]? with
   | none => rw [hp] at hd; cases hd
   | some ps =>
    rw [hp] at hd
    cases hd
    have hk : q.take (k + 1) = q.take k ++ [ps] := by rw [take_add_one, hp]; rfl
    refine sd_setN 3 (d := natsD (ws.map (mQ row (q.take (k + 1))))) (E.cast (e_call dU hr1 (ea_cons (e_var 3) (ea_one (e_call dP hr (ea_cons (e_var 4) (ea_cons (e_var 1) (ea_one (e_var 2)))) ⟨ps, row, ws, qOk_mem h1 ps (mem_of_getElem? hp), h2, h3, rfl, rfl⟩))) ⟨_, _, by rw [length_map]; exact h3, rfl, rfl⟩) ?_) ?_ nd
    . congr 1
      rw [List.zipWith_map, List.zipWith_self]
      refine map_congr_left fun x _ => ?_
      rw [hk, mQ_snoc]
    . exact sd_nil ⟨_, rfl⟩
 . subst e
   rw [length_map, take_length]
   exact sd_ret true (e_var 3) rfl
theorem ok_spans (Fx : Fun K "spans" "spans" s_spans f fd) (hmg : mg "spans" = some (.ref f)) (hb : Binds K fd ["question", "row"] []) (B : Blt mg) (dN : Def P w K mg base 1 "numbers_in" true gNumbers) {n : Nat} (dQ : Def P w K mg base (3 * n + 6) "behind_question" true (gBQuestion n)) : Def P w K mg base (3 * n + 7) "spans" true (gSpans n) := by
 refine def_of (k := 3 * n + 6) Fx sc_spans hmg hb (by rintro ds d ⟨p, row, h1, h2, e1, e2⟩; subst e1; rfl) ?_
 rintro cdv A outer s H Ex Z ds d hr ⟨q, row, h1, h2, e1, e2⟩
 subst e1 e2
 have nd := sc_spans.nd
 have hr1 : Room 1 _ := hr.mono (by omega)
 refine sd_setCN 2 (d := natsD ((List.range (row.length + 1)).map (1 <<< ·))) (EC.cast (ec_map (m := true) (me := true) [] [] (fun d => match d with | .int i => .int ((1 <<< i.toNat : Nat) : Int) | d => d) (it_rangeL (n := row.length + 1) (E.cast (e_add (e_lenL (e_var 1) B.len) e_int) (by rw [length_map]; simp)) B.range (by omega))
  (fun C s H fp d hd => ?_) (by rw [rangeD_len]; exact smallL (by omega))) (by simp [natsD, rangeD, Function.comp_def])) ?_ nd
 . obtain ⟨i, hi, rfl⟩ := mem_map.mp hd
   have := List.mem_range.mp hi
   exact E.cast (e_shlN (i := 1) (n := i) e_c1 (E.cast (e_var 0) (by simp)) (by decide) (by omega)) (by simp)
 refine sd_own 3 (e_lstN ea_nil) rfl ?_ nd
 have hnl : (natsD (((List.range (row.length + 1)).map (1 <<< ·)).map (mQ row q))) = .lst (((List.range (row.length + 1)).map fun a => mQ row q (1 <<< a)).map fun n => .int (n : Nat)) := by simp [natsD, Function.comp_def]
 refine sd_for2 4 5 false (ds := enumD (((List.range (row.length + 1)).map fun a => mQ row q (1 <<< a)).map fun n => D.int (n : Nat))) (fun k r => ∃ o4 o5, r = [some (.pl false (questD q)), some (.pl false (strsD row)), some (.pl true (natsD ((List.range (row.length + 1)).map (1 <<< ·)))), some (.ow true ((spansN row q k).map plD)), o4, o5])
  (it_enum (E.cast (e_call dQ hr (ea_cons (e_var 0) (ea_cons (e_var 1) (ea_one (e_var 2)))) ⟨q, row, _, h1, h2, by rw [length_map, length_range]; omega, rfl, rfl⟩) hnl) B.enumerate) ⟨_, _, rfl⟩ (by rintro n r ⟨_, _, e⟩; subst e; simp) (fun d hd => by
   obtain ⟨i, _, rfl⟩ := mem_map.mp hd
   exact ⟨_, _, rfl⟩) (fun k d1 d2 r hd ⟨o4, o5, e⟩ => ?_) (fun r ⟨o4, o5, e⟩ => ?_) nd
 . subst e
   obtain ⟨d', hd', e⟩ := enumD_get hd
   cases e
   rw [getElem?_map, getElem?_map] at hd'
   by_cases hk : k < row.length + 1
   . rw [List.getElem?_range hk] at hd'
     obtain rfl : D.int ((mQ row q (1 <<< k) : Nat) : Int) = d2 := by simpa using hd'
     have hx := mQ_lt (row := row) q (one_shift_lt hk)
     have hx62 : mQ row q (1 <<< k) < 2 ^ 62 := Nat.lt_of_lt_of_le hx (Nat.pow_le_pow_right (by decide) (by omega))
     have hl1 := spansN_len (row := row) q k (by omega)
     have hl2 := numsIn_len hx
     have hm : k * (row.length + 1) <= 62 * 62 := Nat.mul_le_mul (by omega) (by omega)
     generalize hxe : mQ row q (1 <<< k) = x at hx62 hl2 ⊢
     refine sd_extendF 3 true rfl (es := (numsIn x).map fun t => plD (k, t)) (E.cast (e_map (m := true) (me := false) ["at"] [4] (fun d => .tup [.int (k : Nat), d]) (it_list (e_call dN hr1 (ea_one (e_var 5)) ⟨x, hx62, rfl, rfl⟩))
      (fun C s H fp d hd => e_tup (ea_cons (e_var 1) (ea_one (e_var 0)))) (by rw [length_map]; exact smallL (by omega)) (fun _ => .inr fun d hd => by obtain ⟨i, _, rfl⟩ := mem_map.mp hd; rfl)) (by simp [plD, Function.comp_def])) (by
       refine flats_all fun d hd => ?_
       obtain ⟨i, _, rfl⟩ := mem_map.mp hd
       rfl) (by rw [length_map, length_map]; exact smallN (by omega)) ?_
     refine sd_nil ⟨some (.pl false (.int (k : Nat))), some (.pl false (.int (x : Nat))), ?_⟩
     rw [spansN_succ, hxe, map_append, map_map]
     rfl
   . exfalso
     rw [List.getElem?_eq_none (by rw [length_range]; omega)] at hd'
     cases hd'
 . subst e
   refine sd_ret true (E.cast (e_var 3) ?_) rfl
   rw [enumD_len, length_map, length_map, length_range]
   rfl
theorem ok_rec {f1 f2 f3 : Addr} {fd1 fd2 fd3 : FuncData} (Fp : Fun K "behind_part" "behind_part" s_behind_part f1 fd1) (m1 : mg "behind_part" = some (.ref f1)) (b1 : Binds K fd1 ["part", "row", "wholes"] []) (Fs : Fun K "behind_parts" "behind_parts" s_behind_parts f2 fd2) (m2 : mg "behind_parts" = some (.ref f2)) (b2 : Binds K fd2 ["parts", "row", "wholes"] []) (Fq : Fun K "behind_question" "behind_question" s_behind_question f3 fd3) (m3 : mg "behind_question" = some (.ref f3)) (b3 : Binds K fd3 ["question", "row", "wholes"] []) (B : Blt mg)
 (dU : Def P w K mg base 3 "behind_upto" false gBUpto) (dW : Def P w K mg base 1 "behind_word" true gBWord) (dF : Def P w K mg base 2 "fitting" true gFitting) (dUn : Def P w K mg base 1 "united" true gUnited) : ∀ n, Def P w K mg base (3 * n + 6) "behind_question" true (gBQuestion n)
 | 0 => ok_behind_question Fq m3 b3 B dUn (ok_behind_parts Fs m2 b2 B (ok_behind_part Fp m1 b1 B dU dW dF 0 fun j hj => absurd hj (by omega)))
 | n + 1 => ok_behind_question Fq m3 b3 B dUn (ok_behind_parts Fs m2 b2 B (ok_behind_part Fp m1 b1 B dU dW dF (n + 1) fun j hj => by
  cases hj
  exact ok_rec Fp m1 b1 Fs m2 b2 Fq m3 b3 B dU dW dF dUn n))
theorem ok_law_plain_part (Fx : Fun K "_law_plain_part" "_law_plain_part" s_law_plain_part f fd) (hmg : mg "_law_plain_part" = some (.ref f)) (hb : Binds K fd ["_law_words_here", "_law_cell"] []) (B : Blt mg) (dP : Def P w K mg base 1 "_law_part" true gPart) : Def P w K mg base 2 "_law_plain_part" true (gQPartW 6 4) := by
 refine def_of Fx sc_law_plain_part hmg hb (by rintro ds d ⟨ws, c, hw, e1, e2⟩; subst e1; rfl) ?_
 rintro cdv A outer s H Ex Z ds d hr ⟨ws, c, hw, e1, e2⟩
 subst e1 e2
 have nd := sc_law_plain_part.nd
 have p32 := part_nn c 32 (show (0 : Int) < 4 by decide)
 have p32' := part_lt c 32 (show (0 : Int) < 4 by decide)
 obtain ⟨hm, g1, g2⟩ := hw.get (i := (part c 32 4).toNat) (by omega)
 have hget := strs_get (ws := ws) (n := (part c 32 4).toNat) (by rw [hw.1]; omega)
 refine sd_setF 2 (d := .int (part c 30 6)) (e_call dP hr (ea_cons (e_var 1) (ea_cons e_int (ea_one e_int))) ⟨_, _, _, by decide, rfl, rfl⟩) rfl ?_ nd
 refine sd_if (t_eqI (e_var 2) e_int) (fun h => ?_) (fun h => sd_nil ?_)
 . refine sd_ret false (m1 := true) (E.cast (E.flat (e_tup (ea_one (e_str (x := "any")))) rfl) ?_) rfl
   simp at h
   unfold qpartW
   rw [if_pos h]
   simp [ptD]
 simp at h
 refine sd_if (t_eqI (e_var 2) e_int) (fun h2 => ?_) (fun h2 => sd_nil ?_)
 . refine sd_ret false (m1 := true) (E.cast (E.flat (e_tup (ea_cons (e_str (x := "upto")) (ea_one (e_call dP hr (ea_cons (e_var 1) (ea_cons e_int (ea_one e_int))) ⟨c, 31, 4, by decide, rfl, rfl⟩)))) rfl) ?_) rfl
   simp at h2
   have p31 := part_nn c 31 (show (0 : Int) < 4 by decide)
   unfold qpartW
   rw [if_neg h, if_pos h2]
   simp only [ptD]
   rw [Int.toNat_of_nonneg p31]
 simp at h2
 have hq : qpartW 6 4 ws c = (if part c 30 6 = 2 then .beg (Txt.slice (ws.getD (part c 32 4).toNat "") none (some (1 + part c 33 (ws.getD (part c 32 4).toNat "").length))) else if part c 30 6 = 3 then .fin (Txt.slice (ws.getD (part c 32 4).toNat "") (some (((ws.getD (part c 32 4).toNat "").length : Int) - (1 + part c 33 (ws.getD (part c 32 4).toNat "").length))) none) else .word (ws.getD (part c 32 4).toNat "")) := by
  unfold qpartW
  rw [if_neg h, if_neg h2]
 rw [hq]
 generalize ws.getD (part c 32 4).toNat "" = z at g1 g2 hget
 refine sd_setF 3 (d := .str z) (e_ixL (e_var 0) (e_call dP hr (ea_cons (e_var 1) (ea_cons e_int (ea_one e_int))) ⟨c, 32, 4, by decide, rfl, rfl⟩) (atI_get p32 hget)) rfl ?_ nd
 have hsz : z.length <= sizeLine := smallL (by omega)
 refine sd_setF 4 (d := .int (1 + part c 33 z.length)) (e_add e_int (e_call dP hr (ea_cons (e_var 1) (ea_cons e_int (ea_one (e_lenS (e_var 3) hsz B.len)))) ⟨c, 33, z.length, by omega, rfl, rfl⟩)) rfl ?_ nd
 refine sd_if (t_eqI (e_var 2) e_int) (fun h3 => ?_) (fun h3 => sd_nil ?_)
 . simp at h3
   rw [if_pos h3]
   refine sd_ret false (m1 := true) (E.cast (E.flat (e_tup (ea_cons (e_str (x := "begin")) (ea_one (e_slS (e_var 3) eo_none (eo_some (e_var 4)) hsz)))) rfl) ?_) rfl
   simp only [ptD]
 simp at h3
 rw [if_neg h3]
 refine sd_if (t_eqI (e_var 2) e_int) (fun h4 => ?_) (fun h4 => sd_nil ?_)
 . simp at h4
   rw [if_pos h4]
   refine sd_ret false (m1 := true) (E.cast (E.flat (e_tup (ea_cons (e_str (x := "end")) (ea_one (e_slS (e_var 3) (eo_some (e_sub (e_lenS (e_var 3) hsz B.len) (e_var 4))) eo_none hsz)))) rfl) ?_) rfl
   simp only [ptD]
 . simp at h4
   rw [if_neg h4]
   refine sd_ret false (m1 := true) (E.cast (E.flat (e_tup (ea_cons (e_str (x := "word")) (ea_one (e_var 3)))) rfl) ?_) rfl
   simp only [ptD]
theorem ok_law_question (Fx : Fun K "_law_question" "_law_question" s_law_question f fd) (hmg : mg "_law_question" = some (.ref f)) (hb : Binds K fd ["_law_words_here", "_law_cells"] []) (B : Blt mg) (dC : Def P w K mg base 1 "_law_cell_at" true gCellAt) (dP : Def P w K mg base 1 "_law_part" true gPart) (dL : Def P w K mg base 2 "_law_plain_part" true (gQPartW 6 4)) : Def P w K mg base 3 "_law_question" true gQuestion := by
 refine def_of Fx sc_law_question hmg hb (by rintro ds d ⟨ws, cells, hw, h8, e1, e2⟩; subst e1; rfl) ?_
 rintro cdv A outer s H Ex Z ds d hr ⟨ws, cells, hw, h8, e1, e2⟩
 subst e1 e2
 have nd := sc_law_question.nd
 have hr1 : Room 1 _ := hr.mono (by decide)
 refine sd_own2w 2 (ds := [ptD (pp ws (cellAt cells 0 + 3))]) (ew_flat (e_call dL hr (ea_cons (e_var 0) (ea_one (e_add (e_call dC hr1 (ea_cons (e_var 1) (ea_one e_int)) ⟨cells, 0, by omega, rfl, rfl⟩) e_int))) ⟨ws, _, hw, rfl, rfl⟩) (plain_flat (pp_plain hw _)) ew_nil) (by simp) ?_ nd
 generalize cellAt cells 0 + 3 = c0
 refine sd_forF 3 (ds := cells.map D.int) (fun n r => ∃ o3 o4, r = [some (.pl false (strsD ws)), some (.pl false (intsD cells)), some (.ow2 true ((questL ws c0 (cells.take n)).map psDs)), o3, o4])
  (it_list (e_var 1)) flat_ints ⟨none, none, by simp [questL, psDs]; rfl⟩ (by rintro n r ⟨_, _, e⟩; subst e; simp) ?_ ?_ nd
 . rintro n d r hd ⟨o3, o4, e⟩
   subst e
   rw [getElem?_map] at hd
   cases hc : cells[n]? with
   | none => rw [hc] at hd; cases hd
   | some c =>
    rw [hc] at hd
    cases hd
    have hn := (List.getElem?_eq_some_iff.mp hc).1
    have ht : cells.take (n + 1) = cells.take n ++ [c] := by rw [take_add_one, hc]; rfl
    have I := questL_inv hw c0 (cells.take n)
    have hln : (cells.take n).length <= 8 := by rw [length_take]; omega
    have hst : questL ws c0 (cells.take (n + 1)) = qStep ws (questL ws c0 (cells.take n)) c := by rw [ht, questL_snoc]
    generalize questL ws c0 (cells.take n) = q at I hst
    obtain ⟨init, last, eq⟩ := I.ne
    have hlen := I.len
    have hlast := I.rows last (by rw [eq]; simp)
    have hqm : q.map psDs = init.map psDs ++ [psDs last] := by rw [eq]; simp
    have hpl : (psDs last).length < 1000 := by rw [psDs_map, length_map]; omega
    have pl : ∀ c', plainP 9 (pp ws c') := pp_plain hw
    refine sd_setF 4 (d := .int (part c 40 6)) (e_call dP hr1 (ea_cons (e_var 3) (ea_cons e_int (ea_one e_int))) ⟨_, _, _, by decide, rfl, rfl⟩) rfl ?_ nd
    refine sd_if (t_eqI (e_var 4) e_int) (fun h => ?_) (fun h => ?_)
    . simp at h
      refine sd_append2f 2 true rfl (es := [ptD (pp ws c)]) (e_lstF (eaf_cons (e_call dL hr (ea_cons (e_var 0) (ea_one (e_var 3))) ⟨ws, c, hw, rfl, rfl⟩) eaf_nil)) (by simp [flats, plain_flat (pl c)]) (by rw [length_map]; omega) ?_
      refine sd_nil (sd_nil ⟨some (.pl true (.int c)), some (.pl true (.int (part c 40 6))), ?_⟩)
      rw [hst]
      unfold qStep
      rw [if_pos h]
      simp [psDs]
    simp at h
    refine sd_if (t_eqI (e_var 4) e_int) (fun h2 => ?_) (fun h2 => ?_)
    . simp at h2
      refine sd_unown2 2 rfl ?_
      refine sd_own2w 2 (ds := [.tup [.str "in", questD q], ptD (pp ws c)]) (ew_held (e_tup (ea_cons e_str (ea_one (E.cast (e_var 2) (questD_map q).symm)))) (ew_flat (e_call dL hr (ea_cons (e_var 0) (ea_one (e_var 3))) ⟨ws, c, hw, rfl, rfl⟩) (plain_flat (pl c)) ew_nil)) (by simp) ?_ nd
      refine sd_nil (sd_nil (sd_nil ⟨some (.pl true (.int c)), some (.pl true (.int (part c 40 6))), ?_⟩))
      rw [hst]
      unfold qStep
      rw [if_neg h, if_pos h2]
      simp [psDs, ptD, questD]
    simp at h2
    rw [hqm]
    refine sd_if (t_eqI (e_var 4) e_int) (fun h3 => ?_) (fun h3 => ?_)
    . simp at h3
      refine sd_append2N 2 (dss := init.map psDs) (ds := psDs last) (d := .tup [.str "in", .lst [.lst [ptD (pp ws c)], .lst [ptD (pp ws (c + 1))]]]) rfl (e_neg e_int) (e_tupF (eaf_cons e_str (eaf_cons (e_lstF (eaf_cons (e_lstF (eaf_cons (e_call dL hr (ea_cons (e_var 0) (ea_one (e_var 3))) ⟨ws, c, hw, rfl, rfl⟩) eaf_nil)) (eaf_cons (e_lstF (eaf_cons (e_call dL hr (ea_cons (e_var 0) (ea_one (e_add (e_var 3) e_int))) ⟨ws, c + 1, hw, rfl, rfl⟩) eaf_nil)) eaf_nil))) eaf_nil))) hpl ?_
      refine sd_nil (sd_nil (sd_nil (sd_nil ⟨some (.pl true (.int c)), some (.pl true (.int (part c 40 6))), ?_⟩)))
      rw [hst]
      unfold qStep
      rw [if_neg h, if_neg h2, if_pos h3, eq]
      simp [psDs_map, psDs, ptD, qDs]
    simp at h3
    refine sd_append2 2 true (dss := init.map psDs) (ds := psDs last) rfl (e_neg e_int) (e_call dL hr (ea_cons (e_var 0) (ea_one (e_var 3))) ⟨ws, c, hw, rfl, rfl⟩) (plain_flat (pl c)) hpl ?_
    refine sd_nil (sd_nil (sd_nil (sd_nil ⟨some (.pl true (.int c)), some (.pl true (.int (part c 40 6))), ?_⟩)))
    rw [hst]
    unfold qStep
    rw [if_neg h, if_neg h2, if_neg h3, eq]
    simp [psDs_map]
 . rintro r ⟨o3, o4, e⟩
   subst e
   rw [length_map, take_length]
   exact sd_ret true (E.cast (e_var 2) (questD_map _).symm) rfl
theorem ok_law_meets (Fx : Fun K "_law_meets" "_law_meets" s_law_meets f fd) (hmg : mg "_law_meets" = some (.ref f)) (hb : Binds K fd ["_law_part_here", "_law_word"] []) (B : Blt mg) : Def P w K mg base 1 "_law_meets" true gMeets := by
 refine def_of Fx sc_law_meets hmg hb (by rintro ds d ⟨p, z, hp, h1, h2, e1, e2⟩; subst e1; rfl) ?_
 rintro cdv A outer s H Ex Z ds d hr ⟨p, z, hp, h1, h2, e1, e2⟩
 subst e1 e2
 cases p with
 | upto n => exact False.elim hp
 | inn q => exact False.elim hp
 | word u =>
  rw [show ptD (.word u) = .tup [.str "word", .str u] by simp [ptD]]
  refine sd_if (t_eqS (i := "word") (j := "word") (e_ixT (d := .str "word") (e_var 0) e_int (atI_zero _ _)) e_str) (fun h => ?_) (fun h => by exfalso; revert h; decide +kernel)
  exact sd_ret false (e_eqS (e_var 1) (e_ixT (d := .str u) (e_var 0) e_int rfl)) rfl
 | beg u =>
  rw [show ptD (.beg u) = .tup [.str "begin", .str u] by simp [ptD]]
  have h1 : u.length <= 1000 := h1
  refine sd_if (t_eqS (i := "begin") (j := "word") (e_ixT (d := .str "begin") (e_var 0) e_int (atI_zero _ _)) e_str) (fun h => by exfalso; revert h; decide +kernel) (fun h => sd_nil ?_)
  refine sd_if (t_eqS (i := "begin") (j := "begin") (e_ixT (d := .str "begin") (e_var 0) e_int (atI_zero _ _)) e_str) (fun h => ?_) (fun h => by exfalso; revert h; decide +kernel)
  refine sd_ret false (E.cast (e_eqS (e_slS (e_var 1) eo_none (eo_some (e_lenS (e_ixT (d := .str u) (e_var 0) e_int rfl) (smallL h1) B.len)) (smallL h2)) (e_ixT (d := .str u) (e_var 0) e_int rfl)) ?_) rfl
  show D.bl _ = D.bl (Txt.startswith z u)
  rw [starts_slice]
 | fin u =>
  rw [show ptD (.fin u) = .tup [.str "end", .str u] by simp [ptD]]
  have h1 : u.length <= 1000 := h1
  refine sd_if (t_eqS (i := "end") (j := "word") (e_ixT (d := .str "end") (e_var 0) e_int (atI_zero _ _)) e_str) (fun h => by exfalso; revert h; decide +kernel) (fun h => sd_nil ?_)
  refine sd_if (t_eqS (i := "end") (j := "begin") (e_ixT (d := .str "end") (e_var 0) e_int (atI_zero _ _)) e_str) (fun h => by exfalso; revert h; decide +kernel) (fun h => sd_nil ?_)
  refine sd_if (t_eqS (i := "end") (j := "end") (e_ixT (d := .str "end") (e_var 0) e_int (atI_zero _ _)) e_str) (fun h => ?_) (fun h => by exfalso; revert h; decide +kernel)
  refine sd_ret false (E.cast (e_and (e_geI (e_lenS (e_var 1) (smallL h2) B.len) (e_lenS (e_ixT (d := .str u) (e_var 0) e_int rfl) (smallL h1) B.len)) fun _ => Y.e_one (e_eqS (e_slS (e_var 1) (eo_some (e_sub (e_lenS (e_var 1) (smallL h2) B.len) (e_lenS (e_ixT (d := .str u) (e_var 0) e_int rfl) (smallL h1) B.len))) eo_none (smallL h2)) (e_ixT (d := .str u) (e_var 0) e_int rfl))) ?_) rfl
  show D.bl _ = D.bl (Txt.endswith z u)
  rw [ends_slice]
 | any =>
  rw [show ptD .any = .tup [.str "any"] by simp [ptD]]
  refine sd_if (t_eqS (i := "any") (j := "word") (e_ixT (d := .str "any") (e_var 0) e_int (atI_zero _ _)) e_str) (fun h => by exfalso; revert h; decide +kernel) (fun h => sd_nil ?_)
  refine sd_if (t_eqS (i := "any") (j := "begin") (e_ixT (d := .str "any") (e_var 0) e_int (atI_zero _ _)) e_str) (fun h => by exfalso; revert h; decide +kernel) (fun h => sd_nil ?_)
  refine sd_if (t_eqS (i := "any") (j := "end") (e_ixT (d := .str "any") (e_var 0) e_int (atI_zero _ _)) e_str) (fun h => by exfalso; revert h; decide +kernel) (fun h => sd_nil ?_)
  exact sd_ret false e_bl rfl
theorem ok_law_one_on (Fx : Fun K "_law_one_on" "_law_one_on" s_law_one_on f fd) (hmg : mg "_law_one_on" = some (.ref f)) (hb : Binds K fd ["_law_part_here", "_law_row", "_law_froms"] []) (B : Blt mg) (dM : Def P w K mg base 1 "_law_meets" true gMeets)
 (n : Nat) (dA : ∀ j, n = j + 1 -> Def P w K mg base (2 * j + 3) "_law_all_on" true (gAllOn j)) : Def P w K mg base (2 * n + 2) "_law_one_on" true (gOneOnR n) := by
 refine def_of (k := 2 * n + 1) Fx sc_law_one_on hmg hb (by rintro ds d ⟨p, row, L, x, a1, a2, a3, a4, a5, e1, e2⟩; subst e1; rfl) ?_
 rintro cdv A outer s H Ex Z ds d hr ⟨p, row, L, x, hok, hsm, hR, h1, h2, e1, e2⟩
 subst e1 e2
 have nd := sc_law_one_on.nd
 have hr1 : Room 1 _ := hr.mono (by omega)
 have hL := hR.len
 rcases pt_cases p with hone | ⟨k, rfl⟩ | ⟨q, rfl⟩
 . obtain ⟨k, ts, ek, hk, hk2⟩ := one_head hone
   rw [oPt_one hone]
   refine sd_if (t_eqS (i := k) (j := "in") (e_ixT (d := .str k) (E.cast (e_var 0) ek) e_int (atI_zero _ _)) e_str) (fun h => by exfalso; exact hk2 (by simpa using h)) (fun h => sd_nil ?_)
   refine sd_own 3 (e_lstN ea_nil) rfl ?_ nd
   refine sd_forF 4 (ds := rangeD 0 (row.length + 1)) (fun n r => ∃ o4, r = [some (.pl false (ptD p)), some (.pl false (strsD row)), some (.pl false (natsD L)), some (.ow true (((List.range n).filter (oneT p row L)).map fun n => .int (n : Nat))), o4])
    (it_rangeL (n := row.length + 1) (E.cast (e_add (e_lenL (e_var 1) B.len) e_int) (by rw [length_map]; simp)) B.range (by omega)) flat_range ⟨_, rfl⟩ (by rintro n r ⟨_, e⟩; subst e; simp) ?_ ?_ nd
   . rintro n d r hd ⟨o4, e⟩
     subst e
     obtain ⟨hn, rfl⟩ := rangeD0_get hd
     have hz : ((List.range n).filter (oneT p row L)).length <= n := Nat.le_trans (length_filter_le _ _) (by rw [length_range]; exact Nat.le_refl _)
     have hsu : (List.range (n + 1)).filter (oneT p row L) = (List.range n).filter (oneT p row L) ++ (if oneT p row L n = true then [n] else []) := by
      rw [range_succ, filter_append]
      congr 1
      cases h : oneT p row L n <;> simp [h]
     refine sd_if (t_eqS (i := k) (j := "upto") (e_ixT (d := .str k) (E.cast (e_var 0) ek) e_int (atI_zero _ _)) e_str) (fun h => by exfalso; exact hk (by simpa using h)) (fun h => ?_)
     by_cases hin : ((n : Int) - 1) ∈ intL L
     . have hn1 : 1 <= n := by
        unfold intL at hin
        obtain ⟨a, _, e⟩ := mem_map.mp hin
        omega
       have hlt : n - 1 < row.length := by omega
       have hgm : row.getD (n - 1) "" ∈ row := getD_mem hlt
       refine sd_if (TW.t (tw_and (t_inI (E.cast (e_sub (e_var 4) e_int) rfl) (E.cast (e_var 2) (natsD_ints L))) fun _ => tw_and1 (t_val (e_call dM hr1 (ea_cons (e_var 0) (ea_one (e_ixL (d := .str (row.getD (n - 1) "")) (e_var 1) (e_sub (e_var 4) e_int) (atI_get (by omega) (by rw [show ((n : Int) - 1).toNat = n - 1 by omega]; exact strs_get hlt))))) ⟨p, _, hone, sm_small hsm, h2 _ hgm, rfl, rfl⟩)))) (fun h => ?_) (fun h => ?_)
       . refine sd_appendG 3 true rfl (e_var 4) rfl (by rw [length_map]; omega) ?_
         refine sd_nil (sd_nil (sd_nil ⟨some (.pl true (.int (n : Nat))), ?_⟩))
         rw [hsu, if_pos (show oneT p row L n = true from h)]
         simp
       . refine sd_nil (sd_nil (sd_nil ⟨some (.pl true (.int (n : Nat))), ?_⟩))
         rw [hsu, if_neg (by rw [show oneT p row L n = false from h]; simp), append_nil]
         rfl
     . refine sd_if (TW.t (tw_and (q := false) (t_inI (E.cast (e_sub (e_var 4) e_int) rfl) (E.cast (e_var 2) (natsD_ints L))) fun h => absurd (of_decide_eq_true h) hin)) (fun h => ?_) (fun h => ?_)
       . exfalso; simp at h
       . refine sd_nil (sd_nil (sd_nil ⟨some (.pl true (.int (n : Nat))), ?_⟩))
         rw [hsu, if_neg (by unfold oneT; rw [decide_eq_false hin]; simp), append_nil]
         rfl
   . rintro r ⟨o4, e⟩
     subst e
     refine sd_ret true (E.cast (e_var 3) ?_) rfl
     rw [rangeD_len]
     rfl
 . have ek : ptD (.upto k) = .tup [.str "upto", .int (k : Nat)] := by simp [ptD]
   have eo : oPt row (.upto k) L = (List.range (row.length + 1)).filter (uptT k L) := by rw [oPt]
   rw [eo]
   refine sd_if (t_eqS (i := "upto") (j := "in") (e_ixT (d := .str "upto") (E.cast (e_var 0) ek) e_int (atI_zero _ _)) e_str) (fun h => by exfalso; revert h; decide +kernel) (fun h => sd_nil ?_)
   refine sd_own 3 (e_lstN ea_nil) rfl ?_ nd
   refine sd_forF 4 (ds := rangeD 0 (row.length + 1)) (fun n r => ∃ o4, r = [some (.pl false (ptD (.upto k))), some (.pl false (strsD row)), some (.pl false (natsD L)), some (.ow true (((List.range n).filter (uptT k L)).map fun n => .int (n : Nat))), o4])
    (it_rangeL (n := row.length + 1) (E.cast (e_add (e_lenL (e_var 1) B.len) e_int) (by rw [length_map]; simp)) B.range (by omega)) flat_range ⟨_, rfl⟩ (by rintro n r ⟨_, e⟩; subst e; simp) ?_ ?_ nd
   . rintro n d r hd ⟨o4, e⟩
     subst e
     obtain ⟨hn, rfl⟩ := rangeD0_get hd
     have hz : ((List.range n).filter (uptT k L)).length <= n := Nat.le_trans (length_filter_le _ _) (by rw [length_range]; exact Nat.le_refl _)
     have hsu : (List.range (n + 1)).filter (uptT k L) = (List.range n).filter (uptT k L) ++ (if uptT k L n = true then [n] else []) := by
      rw [range_succ, filter_append]
      congr 1
      cases h : uptT k L n <;> simp [h]
     refine sd_if (t_eqS (i := "upto") (j := "upto") (e_ixT (d := .str "upto") (E.cast (e_var 0) ek) e_int (atI_zero _ _)) e_str) (fun h => ?_) (fun h => by exfalso; revert h; decide +kernel)
     refine sd_if (T.castB (b' := uptT k L n) (t_inB (bs := L.map fun a : Nat => decide (0 <= (n : Int) - (a : Int)) && decide ((n : Int) - (a : Int) <= (k : Int))) e_bl (E.cast (e_map (m := true) (me := true) ["_law_to", "_law_part_here"] [4, 0] (fun d => match d with | .int a => .bl (decide (0 <= (n : Int) - a) && decide ((n : Int) - a <= (k : Int))) | d => d) (it_list (e_var 2))
      (fun C s H fp d hd => ?_) (by rw [length_map]; exact smallL (by omega))) (by simp [Function.comp_def]))) ?_) (fun h => ?_) (fun h => ?_)
     . obtain ⟨a, ha, rfl⟩ := mem_map.mp hd
       exact e_chainLe e_int (e_sub (e_var 1) (e_var 0)) (e_ixT (d := .int (k : Nat)) (E.cast (e_var 2) ek) e_int rfl)
     . unfold uptT
       rw [List.any_map]
       simp [Function.comp_def]
     . refine sd_appendG 3 true rfl (e_var 4) rfl (by rw [length_map]; omega) ?_
       refine sd_nil (sd_nil (sd_nil ⟨some (.pl true (.int (n : Nat))), ?_⟩))
       rw [hsu, if_pos h]
       simp
     . refine sd_nil (sd_nil (sd_nil ⟨some (.pl true (.int (n : Nat))), ?_⟩))
       rw [hsu, if_neg (by rw [h]; simp), append_nil]
       rfl
   . rintro r ⟨o4, e⟩
     subst e
     refine sd_ret true (E.cast (e_var 3) ?_) rfl
     rw [rangeD_len]
     rfl
 . have ek : ptD (.inn q) = .tup [.str "in", questD q] := by simp [ptD, questD]
   unfold ptOk at hok
   obtain ⟨j, hj, hq⟩ := hok
   unfold ptSm at hsm
   have hrj : Room (2 * j + 3) _ := hr.mono (by omega)
   refine sd_if (t_eqS (i := "in") (j := "in") (e_ixT (d := .str "in") (E.cast (e_var 0) ek) e_int (atI_zero _ _)) e_str) (fun h => ?_) (fun h => by exfalso; revert h; decide +kernel)
   refine sd_ret false (e_call (dA j hj) hrj (ea_cons (e_ixT (d := questD q) (E.cast (e_var 0) ek) e_int rfl) (ea_cons (e_var 1) (ea_one (e_var 2)))) ⟨q, row, L, x, hq, hsm, hR, h1, h2, rfl, rfl⟩) ?_
   show natsD _ = natsD _
   rw [oPt]
theorem ok_law_all_on (Fx : Fun K "_law_all_on" "_law_all_on" s_law_all_on f fd) (hmg : mg "_law_all_on" = some (.ref f)) (hb : Binds K fd ["_law_question_here", "_law_row", "_law_froms"] []) (B : Blt mg) {n : Nat} (dO : Def P w K mg base (2 * n + 2) "_law_one_on" true (gOneOnR n)) : Def P w K mg base (2 * n + 3) "_law_all_on" true (gAllOn n) := by
 refine def_of (k := 2 * n + 2) Fx sc_law_all_on hmg hb (by rintro ds d ⟨p, row, L, x, a1, a2, a3, a4, a5, e1, e2⟩; subst e1; rfl) ?_
 rintro cdv A outer s H Ex Z ds d hr ⟨q, row, L, x, hok, hsm, hR, h1, h2, e1, e2⟩
 subst e1 e2
 have nd := sc_law_all_on.nd
 have hqd : questD q = .lst (q.map fun ps => D.lst (psDs ps)) := by unfold questD; rw [qDs_map]
 refine sd_own 3 (e_lstN ea_nil) rfl ?_ nd
 have rq : ∀ k, Rep (row.length + 1) (0 ||| mQ row (q.take k) x) (oQ row (q.take k) L []) := fun k => rep_q (q.take k) hR ⟨List.nodup_nil, fun i => by simp⟩
 refine sd_for 4 false (ds := q.map fun ps => D.lst (psDs ps)) (fun k r => ∃ o4 o5 o6, r = [some (.pl false (questD q)), some (.pl false (strsD row)), some (.pl false (natsD L)), some (.ow true ((oQ row (q.take k) L []).map fun n => .int (n : Nat))), o4, o5, o6])
  (it_list (E.cast (e_var 0) hqd)) ⟨none, none, none, by simp [oQ]; rfl⟩ (by rintro n r ⟨_, _, _, e⟩; subst e; simp) (fun k d r hd ⟨o4, o5, o6, e⟩ => ?_) (fun r ⟨o4, o5, o6, e⟩ => ?_) nd
 . subst e
   rw [getElem?_map] at hd
   cases hp : q[k]? with
   | none => rw [hp] at hd; cases hd
   | some ps =>
    rw [hp] at hd
    cases hd
    have hmem := mem_of_getElem? hp
    have hk : q.take (k + 1) = q.take k ++ [ps] := by rw [take_add_one, hp]; rfl
    have hpd : D.lst (psDs ps) = .lst (ps.map ptD) := by rw [psDs_map]
    refine sd_set 5 false (d := natsD (oPs row (ps.take 0) L)) (E.cast (e_var 2) (by simp [oPs])) ?_ nd
    refine sd_for 6 false (ds := ps.map ptD) (fun i r => ∃ o6, r = [some (.pl false (questD q)), some (.pl false (strsD row)), some (.pl false (natsD L)), some (.ow true ((oQ row (q.take k) L []).map fun n => .int (n : Nat))), some (.pl false (D.lst (psDs ps))), some (.pl false (natsD (oPs row (ps.take i) L))), o6])
     (it_list (E.cast (e_var 4) hpd)) ⟨_, rfl⟩ (by rintro n r ⟨_, e⟩; subst e; simp) (fun i d r hd ⟨o6, e⟩ => ?_) (fun r ⟨o6, e⟩ => ?_) nd
    . subst e
      rw [getElem?_map] at hd
      cases hpi : ps[i]? with
      | none => rw [hpi] at hd; cases hd
      | some p =>
       rw [hpi] at hd
       cases hd
       have hi : ps.take (i + 1) = ps.take i ++ [p] := by rw [take_add_one, hpi]; rfl
       have hm2 := mem_of_getElem? hpi
       refine sd_set 5 false (d := natsD (oPs row (ps.take (i + 1)) L)) (E.plainM (e_call dO hr (ea_cons (e_var 6) (ea_cons (e_var 1) (ea_one (e_var 5)))) ⟨p, row, _, _, psOk_mem (qOk_mem hok ps hmem) p hm2, psSm_mem (qSm_mem hsm ps hmem) p hm2, rep_ps (ps.take i) hR, h1, h2, rfl, by rw [hi, oPs_snoc]⟩)) ?_ nd
       exact sd_nil ⟨_, rfl⟩
    . subst e
      rw [length_map, take_length]
      have l1 := (rq k).len
      have l2 := (rep_ps ps hR).len
      refine sd_extendF 3 true rfl (es := ((oPs row ps L).filter fun t : Nat => !decide ((t : Int) ∈ intL (oQ row (q.take k) L []))).map fun n => .int (n : Nat)) (E.cast (e_comp (m := true) (me := false) ["_law_tos"] [3] (fun d => match d with | .int t => !decide (t ∈ intL (oQ row (q.take k) L [])) | _ => false) (fun d => d) (it_list (e_var 5))
       (fun C s H fp d hd => ?_) (fun C s H fp d hd _ => e_var 0) (by rw [length_map]; exact smallL (by omega)) (fun _ => .inr fun d hd => by obtain ⟨i, _, rfl⟩ := mem_map.mp hd; rfl)) ?_) (flats_nats _) (by
        rw [length_map, length_map]
        have := length_filter_le (fun t : Nat => !decide ((t : Int) ∈ intL (oQ row (q.take k) L []))) (oPs row ps L)
        exact smallL (by omega)) ?_
      . obtain ⟨t, ht, rfl⟩ := mem_map.mp hd
        exact ts_one (t_notInI (e_var 0) (E.cast (e_var 1) (natsD_ints (oQ row (q.take k) L []))))
      . rw [filter_map]
        simp [Function.comp_def]
      . refine sd_nil ⟨some (.pl false (D.lst (psDs ps))), some (.pl false (natsD (oPs row ps L))), o6, ?_⟩
        rw [hk, oQ_snoc, map_append]
        rfl
 . subst e
   refine sd_ret true (E.cast (e_var 3) ?_) rfl
   rw [length_map, take_length]
   rfl
theorem ok_rec2 {f1 f2 : Addr} {fd1 fd2 : FuncData} (Fo : Fun K "_law_one_on" "_law_one_on" s_law_one_on f1 fd1) (m1 : mg "_law_one_on" = some (.ref f1)) (b1 : Binds K fd1 ["_law_part_here", "_law_row", "_law_froms"] []) (Fa : Fun K "_law_all_on" "_law_all_on" s_law_all_on f2 fd2) (m2 : mg "_law_all_on" = some (.ref f2)) (b2 : Binds K fd2 ["_law_question_here", "_law_row", "_law_froms"] []) (B : Blt mg)
 (dM : Def P w K mg base 1 "_law_meets" true gMeets) : ∀ n, Def P w K mg base (2 * n + 3) "_law_all_on" true (gAllOn n)
 | 0 => ok_law_all_on Fa m2 b2 B (ok_law_one_on Fo m1 b1 B dM 0 fun j hj => absurd hj (by omega))
 | n + 1 => ok_law_all_on Fa m2 b2 B (ok_law_one_on Fo m1 b1 B dM (n + 1) fun j hj => by
  cases hj
  exact ok_rec2 Fo m1 b1 Fa m2 b2 B dM n)
theorem ok_law_plain_spans (Fx : Fun K "_law_plain_spans" "_law_plain_spans" s_law_plain_spans f fd) (hmg : mg "_law_plain_spans" = some (.ref f)) (hb : Binds K fd ["_law_question_here", "_law_row"] []) (B : Blt mg) (dA : Def P w K mg base 21 "_law_all_on" true (gAllOn 9)) : Def P w K mg base 22 "_law_plain_spans" true (gPlainSpans 9) := by
 refine def_of Fx sc_law_plain_spans hmg hb (by rintro ds d ⟨q, row, a1, a2, a3, a4, e1, e2⟩; subst e1; rfl) ?_
 rintro cdv A outer s H Ex Z ds d hr ⟨q, row, hok, hsm, h1, h2, e1, e2⟩
 subst e1 e2
 have nd := sc_law_plain_spans.nd
 refine sd_own 2 (e_lstN ea_nil) rfl ?_ nd
 refine sd_forF 3 (ds := rangeD 0 (row.length + 1)) (fun n r => ∃ o3, r = [some (.pl false (questD q)), some (.pl false (strsD row)), some (.ow true ((spansN row q n).map plD)), o3])
  (it_rangeL (n := row.length + 1) (E.cast (e_add (e_lenL (e_var 1) B.len) e_int) (by rw [length_map]; simp)) B.range (by omega)) flat_range ⟨_, rfl⟩ (by rintro n r ⟨_, e⟩; subst e; simp) ?_ ?_ nd
 . rintro n d r hd ⟨o3, e⟩
   subst e
   obtain ⟨hn, rfl⟩ := rangeD0_get hd
   have hR := rep_start hn
   have hRq := rep_q q hR (y := 0) (acc := []) ⟨List.nodup_nil, fun i => by simp⟩
   rw [Nat.zero_or] at hRq
   have hlen := hRq.len
   have hx := mQ_lt (row := row) q (one_shift_lt hn)
   have hl1 := spansN_len (row := row) q n (by omega)
   have hl2 := numsF_len (row.length + 1) (mQ row q (1 <<< n))
   have hm : n * (row.length + 1) <= 62 * 62 := Nat.mul_le_mul (by omega) (by omega)
   refine sd_extendF 2 true rfl (es := (numsF (row.length + 1) (mQ row q (1 <<< n))).map fun t => plD (n, t)) (E.cast (e_map (m := true) (me := false) ["_law_at"] [3] (fun d => .tup [.int (n : Nat), d]) (it_list (e_sortedI (ns := intL (oQ row q [n] [])) (ns' := intL (numsF (row.length + 1) (mQ row q (1 <<< n)))) (E.cast (e_call dA hr (ea_cons (e_var 0) (ea_cons (e_var 1) (ea_one (E.cast (e_lstN (ea_one (e_var 3))) (show D.lst [.int (n : Nat)] = natsD [n] from rfl))))) ⟨q, row, [n], _, hok, hsm, hR, h1, h2, rfl, rfl⟩) (natsD_ints _)) (by unfold intL; rw [length_map]; omega) (intL_perm hRq.perm) (numsF_up _ _) B.sorted))
    (fun C s H fp d hd => e_tup (ea_cons (e_var 1) (ea_one (e_var 0)))) (by unfold intL; rw [length_map, length_map]; exact smallL (by omega)) (fun _ => .inr fun d hd => by obtain ⟨i, _, rfl⟩ := mem_map.mp hd; rfl)) (by simp [plD, intL, Function.comp_def])) (by
     refine flats_all fun d hd => ?_
     obtain ⟨i, _, rfl⟩ := mem_map.mp hd
     rfl) (by rw [length_map, length_map]; exact smallN (by omega)) ?_
   refine sd_nil ⟨some (.pl true (.int (n : Nat))), ?_⟩
   rw [spansN_succ, numsIn_eq hx, map_append, map_map]
   rfl
 . rintro r ⟨o3, e⟩
   subst e
   refine sd_ret true (E.cast (e_var 2) ?_) rfl
   rw [rangeD_len]
   rfl
theorem ok_links (Fx : Fun K "links" "links" s_links f fd) (hmg : mg "links" = some (.ref f)) (hb : Binds K fd ["steps"] []) (B : Blt mg) : Def P w K mg base 1 "links" true gLinksK := by
 refine def_of Fx sc_links hmg hb (by rintro ds d ⟨st, h1, h2, h3, e1, e2⟩; subst e1; rfl) ?_
 rintro cdv A outer s H Ex Z ds d hr ⟨st, h1, h2, h3, e1, e2⟩
 subst e1 e2
 have nd := sc_links.nd
 refine sd_own 1 (e_lstN ea_nil) rfl ?_ nd
 refine sd_setF 2 e_int rfl ?_ nd
 refine sd_setF 3 e_int rfl ?_ nd
 refine sd_forF 4 (ds := st.map stepK) (fun n r => ∃ o4, r = [some (.pl false ((.lst (st.map stepK)))), some (.ow true ((linksL 0 0 (st.take n)).map lkD)), some (.pl true (.int (sum1 (st.take n) : Nat))), some (.pl true (.int (sum2 (st.take n) : Nat))), o4])
  (it_list (e_var 0)) (fun d hd => by obtain ⟨i, _, rfl⟩ := mem_map.mp hd; rfl) ⟨_, rfl⟩ (by rintro n r ⟨_, e⟩; subst e; simp) ?_ ?_ nd
 . rintro n d r hd ⟨o4, e⟩
   subst e
   rw [getElem?_map] at hd
   cases hq : st[n]? with
   | none => rw [hq] at hd; cases hd
   | some q =>
    rw [hq] at hd
    cases hd
    have hn := (List.getElem?_eq_some_iff.mp hq).1
    have ht : st.take (n + 1) = st.take n ++ [q] := by rw [take_add_one, hq]; rfl
    have b1 : sum1 (st.take n) + q.1 <= 900 := by
     have h := sum1_take_le st (n + 1)
     rw [ht, sum1_snoc] at h
     omega
    have b2 : sum2 (st.take n) + q.2 <= 900 := by
     have h := sum2_take_le st (n + 1)
     rw [ht, sum2_snoc] at h
     omega
    refine sd_append 1 true rfl (d := lkD (natsR (sum1 (st.take n)) q.1, natsR (sum2 (st.take n)) q.2)) (m1 := true) (e_tupF (eaf_cons (E.cast (e_listR (e_var 2) (e_add (e_var 2) (e_ixK (m2 := true) (ks := keyP q) (q := .inl (q.1 : Int)) (e_var 4) e_int rfl)) hr.hd (by omega) (by omega) (by omega) (by omega) (by omega) B.list B.range) ?_) (eaf_cons (E.cast (e_listR (e_var 3) (e_add (e_var 3) (e_ixK (m2 := true) (ks := keyP q) (q := .inl (q.2 : Int)) (e_var 4) e_int rfl)) hr.hd (by omega) (by omega) (by omega) (by omega) (by omega) B.list B.range) ?_) eaf_nil))) (by rw [length_map, linksL_len, length_take]; omega) ?_
    . rw [show (((sum1 (st.take n) : Nat) : Int) + (q.1 : Nat) - (sum1 (st.take n) : Nat)).toNat = q.1 by omega, natsR_D]
    . rw [show (((sum2 (st.take n) : Nat) : Int) + (q.2 : Nat) - (sum2 (st.take n) : Nat)).toNat = q.2 by omega, natsR_D]
    refine sd_setF 2 (d := .int ((sum1 (st.take n) + q.1 : Nat) : Int)) (E.cast (e_add (e_var 2) (e_ixK (m2 := true) (ks := keyP q) (q := .inl (q.1 : Int)) (e_var 4) e_int rfl)) (by simp)) rfl ?_ nd
    refine sd_setF 3 (d := .int ((sum2 (st.take n) + q.2 : Nat) : Int)) (E.cast (e_add (e_var 3) (e_ixK (m2 := true) (ks := keyP q) (q := .inl (q.2 : Int)) (e_var 4) e_int rfl)) (by simp)) rfl ?_ nd
    refine sd_nil ⟨some (.pl true (stepK q)), ?_⟩
    rw [ht, linksL_snoc, sum1_snoc, sum2_snoc, map_append, Nat.zero_add, Nat.zero_add]
    rfl
 . rintro r ⟨o4, e⟩
   subst e
   refine sd_ret true (E.cast (e_var 1) ?_) rfl
   rw [length_map, take_length]
theorem ok_beside (Fx : Fun K "beside" "beside" s_beside f fd) (hmg : mg "beside" = some (.ref f)) (hb : Binds K fd ["lefts", "rights", "steps", "one", "other"] []) (B : Blt mg) (dK : Def P w K mg base 1 "links" true gLinksK) (dS : Def P w K mg base 34 "spans" true (gSpans 9)) : Def P w K mg base 35 "beside" true gBesideK := by
 refine def_of Fx sc_beside hmg hb (by rintro ds d ⟨ls, rs, st, one, other, hok, e1, e2⟩; subst e1; rfl) ?_
 rintro cdv A outer s H Ex Z ds d hr ⟨ls, rs, st, one, other, hok, e1, e2⟩
 subst e1 e2
 have nd := sc_beside.nd
 have hr1 : Room 1 _ := hr.mono (by decide)
 have hsum := wayIn_sum _ _ st 0 0 hok.w
 have l5 := hok.l.1
 have r5 := hok.r.1
 have gS : ∀ (q : List (List Pt)) (rows : List (List Str)) (n : Nat), QsOk q -> RwOk rows -> n < rows.length -> gSpans 9 [questD q, strsD (rows.getD n [])] (plsD (spansL (rows.getD n []) q)) := fun q rows n hq hrw hn => ⟨q, _, hq.1, by have := (row_len hrw hn).1; omega, rfl, rfl⟩
 refine sd_own 5 (e_lstN ea_nil) rfl ?_ nd
 refine sd_for2 6 7 false (ds := (linksL 0 0 st).map lkD) (mi := true) (fun n r => ∃ o6 o7 o8, r = [some (.pl false (rowsD ls)), some (.pl false (rowsD rs)), some (.pl false ((.lst (st.map stepK)))), some (.pl false (questD one)), some (.pl false (questD other)), some (.ow true ((besL ls rs one other 0 0 (st.take n)).map trD)), o6, o7, o8])
  (it_list (e_call dK hr1 (ea_one (e_var 2)) ⟨st, by have := hok.n; omega, by omega, by omega, rfl, rfl⟩)) ⟨_, _, _, rfl⟩ (by rintro n r ⟨_, _, _, e⟩; subst e; simp) (fun d hd => by
   obtain ⟨i, _, rfl⟩ := mem_map.mp hd
   exact ⟨_, _, rfl⟩) (fun n d1 d2 r hd ⟨o6, o7, o8, e⟩ => ?_) (fun r ⟨o6, o7, o8, e⟩ => ?_) nd
 . subst e
   rw [getElem?_map] at hd
   have hn : n < st.length := by
    cases hx : (linksL 0 0 st)[n]? with
    | none => rw [hx] at hd; cases hd
    | some x =>
     have := (List.getElem?_eq_some_iff.mp hx).1
     rw [linksL_len] at this
     exact this
   obtain ⟨q, hq⟩ : ∃ q, st[n]? = some q := ⟨_, List.getElem?_eq_getElem hn⟩
   rw [linksL_get st 0 0 n q hq, Nat.zero_add, Nat.zero_add] at hd
   cases hd
   obtain ⟨w1, w2⟩ := wayIn_at _ _ st 0 0 n q hok.w hq
   rw [Nat.zero_add] at w1 w2
   have ht : st.take (n + 1) = st.take n ++ [q] := by rw [take_add_one, hq]; rfl
   have hbl := besL_len (rs := rs) (one := one) (other := other) hok.l _ _ (Nat.le_refl _) (st.take n) 0 0 (wayIn_take _ _ st 0 0 n hok.w)
   rw [ht, besL_snoc, Nat.zero_add, Nat.zero_add]
   generalize besL ls rs one other 0 0 (st.take n) = told at hbl
   generalize sum1 (st.take n) = I at hbl w1
   generalize sum2 (st.take n) = J at w2
   refine sd_if (T.castB (t_val (e_any (bs := (natsR J q.2).map fun r => decide (spansL (rs.getD r []) other ≠ [])) (E.cast (e_map (m := true) (me := true) ["other", "rights"] [4, 1] (fun d => match d with | .int r => .bl (decide (spansL (rs.getD r.toNat []) other ≠ [])) | d => d) (it_list (e_var 7)) (fun C s H fp d hd => ?_) ?_) ?_) hr.hd B.any)) (show _ = (natsR J q.2).any (fun r => decide (spansL (rs.getD r []) other ≠ [])) by rw [List.any_map]; rfl)) (fun h => ?_) (fun h => sd_nil (sd_nil ⟨some (.pl false (natsD (natsR I q.1))), some (.pl false (natsD (natsR J q.2))), o8, ?_⟩))
   . obtain ⟨r, hr', rfl⟩ := mem_map.mp hd
     have hm := natsR_mem hr'
     have hlt : r < rs.length := by omega
     refine E.cast (e_neD (e_call dS hr (ea_cons (e_var 1) (ea_one (e_ixL (d := strsD (rs.getD r [])) (e_var 2) (e_var 0) (atI_nat (by simp [hlt]))))) (gS other rs r hok.b hok.r hlt)) (e_lst ea_nil) rfl (roomD hr (dep_pls _))) ?_
     rw [show (D.lst [] : D) = plsD [] from rfl, told_pls]
     simp
   . rw [length_map]
     exact smallL (by simp [natsR]; omega)
   . rw [map_map, map_map]
     rfl
   . refine sd_forF 8 (ds := (natsR I q.1).map fun n => D.int (n : Nat)) (fun m r => ∃ o8, r = [some (.pl false (rowsD ls)), some (.pl false (rowsD rs)), some (.pl false ((.lst (st.map stepK)))), some (.pl false (questD one)), some (.pl false (questD other)), some (.ow true ((told ++ tripL ls one (natsR I m)).map trD)), some (.pl false (natsD (natsR I q.1))), some (.pl false (natsD (natsR J q.2))), o8] /\ m <= q.1)
      (it_list (e_var 6)) (fun d hd => by obtain ⟨i, _, rfl⟩ := mem_map.mp hd; rfl) ⟨o8, by simp [natsR, tripL], by omega⟩ (by rintro n r ⟨_, e, _⟩; subst e; simp) (fun m d r hd ⟨o8, e, hm⟩ => ?_) (fun r ⟨o8, e, hm⟩ => ?_) nd
     . subst e
       have hmq : m < q.1 := by
        have := (List.getElem?_eq_some_iff.mp hd).1
        simpa [natsR] using this
       have hdv : d = .int ((I + m : Nat) : Int) := by
        rw [getElem?_map] at hd
        have : (natsR I q.1)[m]? = some (I + m) := by simp [natsR, hmq]
        rw [this] at hd
        exact (Option.some.inj hd).symm
       subst hdv
       have hlt : I + m < ls.length := by omega
       have hrl := (row_len hok.l hlt).1
       have hsl : (spansL (ls.getD (I + m) []) one).length <= 14 * 14 := Nat.le_trans (spansL_len _ _) (Nat.mul_le_mul (by omega) (by omega))
       have htl := tripL_len (one := one) hok.l (show I + m <= ls.length by omega)
       refine sd_extendF 5 true rfl (es := (spansL (ls.getD (I + m) []) one).map fun p => trD (I + m, p.1, p.2)) (E.cast (e_map (m := true) (me := false) ["left"] [8] (fun d => match d with | .tup [.int x, .int y] => .tup [.int ((I + m : Nat) : Int), .int x, .int y] | d => d) (it_list (e_call dS hr (ea_cons (e_var 3) (ea_one (e_ixL (d := strsD (ls.getD (I + m) [])) (e_var 0) (e_var 8) (atI_nat (by simp [hlt]))))) (gS one ls (I + m) hok.a hok.l hlt))) (fun C s H fp d hd => ?_) ?_ ?_) ?_) ?_ ?_ ?_
       . obtain ⟨p, _, rfl⟩ := mem_map.mp hd
         exact e_tup (ea_cons (e_var 1) (ea_cons (e_ixT (d := .int (p.1 : Nat)) (e_var 0) e_int rfl) (ea_one (e_ixT (d := .int (p.2 : Nat)) (e_var 0) e_int rfl))))
       . rw [length_map]
         exact smallL (by omega)
       . intro _
         refine .inr fun d hd => ?_
         obtain ⟨p, _, rfl⟩ := mem_map.mp hd
         rfl
       . rw [map_map]
         rfl
       . refine flats_all fun d hd => ?_
         obtain ⟨p, _, rfl⟩ := mem_map.mp hd
         rfl
       . rw [length_map, length_map, List.length_append]
         exact Nat.le_trans (by omega : _ <= 20000) big20000
       . refine sd_nil ⟨some (.pl true (.int ((I + m : Nat) : Int))), ?_, hmq⟩
         rw [natsR_succ, tripL_snoc, <- List.append_assoc, map_append (l₁ := told ++ _), map_map]
         rfl
     . subst e
       rw [length_map, show (natsR I q.1).length = q.1 by simp [natsR]]
       refine sd_nil (sd_nil ⟨some (.pl false (natsD (natsR I q.1))), some (.pl false (natsD (natsR J q.2))), o8, ?_⟩)
       have : besS ls rs one other I J q = tripL ls one (natsR I q.1) := by
        unfold besS
        rw [if_pos h]
        rfl
       rw [this]
   . have : besS ls rs one other I J q = [] := by
      unfold besS
      rw [if_neg (by rw [h]; decide)]
     rw [this, append_nil]
     rfl
 . subst e
   refine sd_ret true (E.cast (e_var 5) ?_) rfl
   rw [length_map, linksL_len, take_length]
   rfl
theorem ok_law_lines (Fx : Fun K "_law_lines" "_law_lines" s_law_lines f fd) (hmg : mg "_law_lines" = some (.ref f)) (hb : Binds K fd ["_law_words_here", "_law_cells"] []) (B : Blt mg) (dP : Def P w K mg base 1 "_law_part" true gPart) : Def P w K mg base 2 "_law_lines" true gLines := by
 refine def_of Fx sc_law_lines hmg hb (by rintro ds d ⟨ws, cells, h4, hc, e1, e2⟩; subst e1; rfl) ?_
 rintro cdv A outer s H Ex Z ds d hr ⟨ws, cells, h4, hc, e1, e2⟩
 subst e1 e2
 have nd := sc_law_lines.nd
 refine sd_setF 2 e_str rfl ?_ nd
 refine sd_setF 3 e_int rfl ?_ nd
 refine sd_forF 4 (ds := cells.map D.int) (fun n r => ∃ o4 o5, r = [some (.pl false (strsD ws)), some (.pl false (intsD cells)), some (.pl true (.str (lnS ws (cells.take n)).1)), some (.pl true (.int ((lnS ws (cells.take n)).2 : Nat))), o4, o5])
  (it_list (e_var 1)) flat_ints ⟨_, _, rfl⟩ (by rintro n r ⟨_, _, e⟩; subst e; simp) ?_ ?_ nd
 . rintro n d r hd ⟨o4, o5, e⟩
   subst e
   rw [getElem?_map] at hd
   cases hcn : cells[n]? with
   | none => rw [hcn] at hd; cases hd
   | some c =>
    rw [hcn] at hd
    cases hd
    have ht : cells.take (n + 1) = cells.take n ++ [c] := by rw [take_add_one, hcn]; rfl
    have hz := (lines_text h4 (cells := cells.take n) (by rw [length_take]; omega)).2
    have p0 := part_nn c 21 (show (0 : Int) < 6 by decide)
    have p1 := part_nn c 22 (show (0 : Int) < 3 by decide)
    have p2 := part_lt c 22 (show (0 : Int) < 3 by decide)
    rw [ht, lnS_snoc]
    generalize lnS ws (cells.take n) = L at hz
    refine sd_setF 5 (d := .int (part c 21 6)) (e_call dP hr (ea_cons (e_var 4) (ea_cons e_int (ea_one e_int))) ⟨_, _, _, by decide, rfl, rfl⟩) rfl ?_ nd
    refine sd_if (t_ltI (e_var 5) e_int) (fun h => ?_) (fun h => ?_)
    . have h5 : part c 21 6 < 4 := by simpa using h
      have hm : ws.getD (part c 21 6).toNat "" ∈ ws := getD_mem (by have := h4.n; omega)
      have hwl := h4.l _ hm
      have hsl := (sepS_part c).2.2
      refine sd_setF 2 (d := .str (L.1 ++ ws.getD (part c 21 6).toNat "" ++ sepS c)) (e_addS (e_addS (e_var 2) (e_ixL (d := .str (ws.getD (part c 21 6).toNat "")) (e_var 0) (e_var 5) (atI_get p0 (strs_get (by have := h4.n; omega)))) (smallN (by omega))) (e_ixL (d := .str (sepS c)) (ds := [.str " ", .str "; ", .str "-"]) (e_lst (ea_cons e_str (ea_cons e_str (ea_one e_str)))) (e_call dP hr (ea_cons (e_var 4) (ea_cons e_int (ea_one e_int))) ⟨_, _, _, by decide, rfl, rfl⟩) ?_) ?_) rfl ?_ nd
      . unfold sepS
        have h3 : part c 22 3 = 0 \/ part c 22 3 = 1 \/ part c 22 3 = 2 := by omega
        rcases h3 with h3 | h3 | h3 <;> rw [h3] <;> rfl
      . have : (L.1 ++ ws.getD (part c 21 6).toNat "").length = L.1.length + (ws.getD (part c 21 6).toNat "").length := by rw [<- cl_len, cl_append, List.length_append, cl_len, cl_len]
        exact smallN (by omega)
      refine sd_nil (sd_nil ⟨some (.pl true (.int c)), some (.pl true (.int (part c 21 6))), ?_⟩)
      unfold stepLn
      rw [if_pos h5]
      rfl
    . have h5 : ¬ part c 21 6 < 4 := by simpa using h
      refine sd_if (t_ltI (e_var 3) e_int) (fun h => ?_) (fun h => ?_)
      . have h6 : L.2 < 4 := by simp at h; omega
        refine sd_setF 2 (d := .str (L.1 ++ "\n")) (e_addS (e_var 2) e_str (smallN (by rw [show ("\n" : Str).length = 1 from rfl]; omega))) rfl ?_ nd
        refine sd_setF 3 (d := .int ((L.2 + 1 : Nat) : Int)) (E.cast (e_add (e_var 3) e_int) (by simp)) rfl ?_ nd
        refine sd_nil (sd_nil (sd_nil ⟨some (.pl true (.int c)), some (.pl true (.int (part c 21 6))), ?_⟩))
        unfold stepLn
        rw [if_neg h5, if_pos h6]
        rfl
      . have h6 : ¬ L.2 < 4 := by simp at h; omega
        refine sd_nil (sd_nil (sd_nil ⟨some (.pl true (.int c)), some (.pl true (.int (part c 21 6))), ?_⟩))
        unfold stepLn
        rw [if_neg h5, if_neg h6]
        rfl
 . rintro r ⟨o4, o5, e⟩
   subst e
   rw [length_map, take_length]
   exact sd_ret true (e_var 2) rfl
theorem ok_law_beside (Fx : Fun K "_law_beside" "_law_beside" s_law_beside f fd) (hmg : mg "_law_beside" = some (.ref f)) (hb : Binds K fd ["_law_lefts", "_law_rights", "_law_laid", "_law_one", "_law_other"] []) (B : Blt mg) (dS : Def P w K mg base 22 "_law_plain_spans" true (gPlainSpans 9)) : Def P w K mg base 23 "_law_beside" true gBesideL := by
 refine def_of Fx sc_law_beside hmg hb (by rintro ds d ⟨ls, rs, st, one, other, hok, e1, e2⟩; subst e1; rfl) ?_
 rintro cdv A outer s H Ex Z ds d hr ⟨ls, rs, st, one, other, hok, e1, e2⟩
 subst e1 e2
 have nd := sc_law_beside.nd
 have hsum := wayIn_sum _ _ st 0 0 hok.w
 have l5 := hok.l.1
 have r5 := hok.r.1
 have gS : ∀ (q : List (List Pt)) (rows : List (List Str)) (n : Nat), QsOk q -> RwOk rows -> n < rows.length -> gPlainSpans 9 [questD q, strsD (rows.getD n [])] (plsD (spansL (rows.getD n []) q)) := fun q rows n hq hrw hn => ⟨q, _, hq.1, hq.2, (row_len hrw hn).1, (row_len hrw hn).2, rfl, rfl⟩
 refine sd_own 5 (e_lstN ea_nil) rfl ?_ nd
 refine sd_for2 6 7 false (ds := (linksL 0 0 st).map lkD) (fun n r => ∃ o6 o7 o8, r = [some (.pl false (rowsD ls)), some (.pl false (rowsD rs)), some (.pl false ((.lst ((linksL 0 0 st).map lkD)))), some (.pl false (questD one)), some (.pl false (questD other)), some (.ow true ((besL ls rs one other 0 0 (st.take n)).map trD)), o6, o7, o8])
  (it_list (e_var 2)) ⟨_, _, _, rfl⟩ (by rintro n r ⟨_, _, _, e⟩; subst e; simp) (fun d hd => by
   obtain ⟨i, _, rfl⟩ := mem_map.mp hd
   exact ⟨_, _, rfl⟩) (fun n d1 d2 r hd ⟨o6, o7, o8, e⟩ => ?_) (fun r ⟨o6, o7, o8, e⟩ => ?_) nd
 . subst e
   rw [getElem?_map] at hd
   have hn : n < st.length := by
    cases hx : (linksL 0 0 st)[n]? with
    | none => rw [hx] at hd; cases hd
    | some x =>
     have := (List.getElem?_eq_some_iff.mp hx).1
     rw [linksL_len] at this
     exact this
   obtain ⟨q, hq⟩ : ∃ q, st[n]? = some q := ⟨_, List.getElem?_eq_getElem hn⟩
   rw [linksL_get st 0 0 n q hq, Nat.zero_add, Nat.zero_add] at hd
   cases hd
   obtain ⟨w1, w2⟩ := wayIn_at _ _ st 0 0 n q hok.w hq
   rw [Nat.zero_add] at w1 w2
   have ht : st.take (n + 1) = st.take n ++ [q] := by rw [take_add_one, hq]; rfl
   have hbl := besL_len (rs := rs) (one := one) (other := other) hok.l _ _ (Nat.le_refl _) (st.take n) 0 0 (wayIn_take _ _ st 0 0 n hok.w)
   rw [ht, besL_snoc, Nat.zero_add, Nat.zero_add]
   generalize besL ls rs one other 0 0 (st.take n) = told at hbl
   generalize sum1 (st.take n) = I at hbl w1
   generalize sum2 (st.take n) = J at w2
   refine sd_if (T.castB (t_neD (d := natsD ((natsR J q.2).filter fun r => decide (spansL (rs.getD r []) other ≠ []))) (E.cast (e_comp (m := false) (me := false) ["_law_other", "_law_rights"] [4, 1] (fun d => match d with | .int r => decide (spansL (rs.getD r.toNat []) other ≠ []) | _ => false) (fun d => d) (it_list (e_var 7)) (fun C s H fp d hd => ?_) (fun C s H fp d hd _ => e_var 0) ?_) ?_) (e_lst ea_nil) rfl (roomD hr (dep_nats _))) (show _ = (natsR J q.2).any (fun r => decide (spansL (rs.getD r []) other ≠ [])) from ?_)) (fun h => ?_) (fun h => sd_nil (sd_nil ⟨some (.pl false (natsD (natsR I q.1))), some (.pl false (natsD (natsR J q.2))), o8, ?_⟩))
   . obtain ⟨r, hr', rfl⟩ := mem_map.mp hd
     have hm := natsR_mem hr'
     have hlt : r < rs.length := by omega
     refine ts_one (T.castB (t_neD (e_call dS hr (ea_cons (e_var 1) (ea_one (e_ixL (d := strsD (rs.getD r [])) (e_var 2) (e_var 0) (atI_nat (by simp [hlt]))))) (gS other rs r hok.b hok.r hlt)) (e_lst ea_nil) rfl (roomD hr (dep_pls _))) ?_)
     rw [show (D.lst [] : D) = plsD [] from rfl, told_pls]
     simp
   . rw [length_map]
     exact smallL (by simp [natsR]; omega)
   . unfold natsD
     rw [List.map_id', filter_map]
     rfl
   . rw [show (D.lst [] : D) = natsD [] from rfl, told_nats]
     rw [Bool.eq_iff_iff]
     simp
   . refine sd_forF 8 (ds := (natsR I q.1).map fun n => D.int (n : Nat)) (fun m r => ∃ o8, r = [some (.pl false (rowsD ls)), some (.pl false (rowsD rs)), some (.pl false ((.lst ((linksL 0 0 st).map lkD)))), some (.pl false (questD one)), some (.pl false (questD other)), some (.ow true ((told ++ tripL ls one (natsR I m)).map trD)), some (.pl false (natsD (natsR I q.1))), some (.pl false (natsD (natsR J q.2))), o8] /\ m <= q.1)
      (it_list (e_var 6)) (fun d hd => by obtain ⟨i, _, rfl⟩ := mem_map.mp hd; rfl) ⟨o8, by simp [natsR, tripL], by omega⟩ (by rintro n r ⟨_, e, _⟩; subst e; simp) (fun m d r hd ⟨o8, e, hm⟩ => ?_) (fun r ⟨o8, e, hm⟩ => ?_) nd
     . subst e
       have hmq : m < q.1 := by
        have := (List.getElem?_eq_some_iff.mp hd).1
        simpa [natsR] using this
       have hdv : d = .int ((I + m : Nat) : Int) := by
        rw [getElem?_map] at hd
        have : (natsR I q.1)[m]? = some (I + m) := by simp [natsR, hmq]
        rw [this] at hd
        exact (Option.some.inj hd).symm
       subst hdv
       have hlt : I + m < ls.length := by omega
       have hrl := (row_len hok.l hlt).1
       have hsl : (spansL (ls.getD (I + m) []) one).length <= 14 * 14 := Nat.le_trans (spansL_len _ _) (Nat.mul_le_mul (by omega) (by omega))
       have htl := tripL_len (one := one) hok.l (show I + m <= ls.length by omega)
       refine sd_extendF 5 true rfl (es := (spansL (ls.getD (I + m) []) one).map fun p => trD (I + m, p.1, p.2)) (E.cast (e_map (m := true) (me := false) ["_law_number"] [8] (fun d => match d with | .tup [.int x, .int y] => .tup [.int ((I + m : Nat) : Int), .int x, .int y] | d => d) (it_list (e_call dS hr (ea_cons (e_var 3) (ea_one (e_ixL (d := strsD (ls.getD (I + m) [])) (e_var 0) (e_var 8) (atI_nat (by simp [hlt]))))) (gS one ls (I + m) hok.a hok.l hlt))) (fun C s H fp d hd => ?_) ?_ ?_) ?_) ?_ ?_ ?_
       . obtain ⟨p, _, rfl⟩ := mem_map.mp hd
         exact e_tup (ea_cons (e_var 1) (ea_cons (e_ixT (d := .int (p.1 : Nat)) (e_var 0) e_int rfl) (ea_one (e_ixT (d := .int (p.2 : Nat)) (e_var 0) e_int rfl))))
       . rw [length_map]
         exact smallL (by omega)
       . intro _
         refine .inr fun d hd => ?_
         obtain ⟨p, _, rfl⟩ := mem_map.mp hd
         rfl
       . rw [map_map]
         rfl
       . refine flats_all fun d hd => ?_
         obtain ⟨p, _, rfl⟩ := mem_map.mp hd
         rfl
       . rw [length_map, length_map, List.length_append]
         exact Nat.le_trans (by omega : _ <= 20000) big20000
       . refine sd_nil ⟨some (.pl true (.int ((I + m : Nat) : Int))), ?_, hmq⟩
         rw [natsR_succ, tripL_snoc, <- List.append_assoc, map_append (l₁ := told ++ _), map_map]
         rfl
     . subst e
       rw [length_map, show (natsR I q.1).length = q.1 by simp [natsR]]
       refine sd_nil (sd_nil ⟨some (.pl false (natsD (natsR I q.1))), some (.pl false (natsD (natsR J q.2))), o8, ?_⟩)
       have : besS ls rs one other I J q = tripL ls one (natsR I q.1) := by
        unfold besS
        rw [if_pos h]
        rfl
       rw [this]
   . have : besS ls rs one other I J q = [] := by
      unfold besS
      rw [if_neg (by rw [h]; decide)]
     rw [this, append_nil]
     rfl
 . subst e
   refine sd_ret true (E.cast (e_var 5) ?_) rfl
   rw [length_map, linksL_len, take_length]
   rfl
theorem ok_law (Fx : Fun K "law" "law" s_law f fd) (B : Blt mg) (dC : Def P w K mg base 1 "_law_cell_at" true gCellAt) (dPa : Def P w K mg base 1 "_law_part" true gPart) (dW : Def P w K mg base 2 "_law_words" true gWordsA) (dPs : Def P w K mg base 2 "_law_pairs" true gPairs) (dPr : Def P w K mg base 2 "_law_prices" true gPrices)
 (dR : Def P w K mg base 2 "rows_of" true gRowsOf) (dLn : Def P w K mg base 2 "_law_lines" true gLines) (dCh : Def P w K mg base 6 "cheapest" true gCheapest) (dWP : Def P w K mg base 3 "way_price" true gWayPrice) (dP : Def P w K mg base 5 "paper" true gPaper) (dLk : Def P w K mg base 1 "links" true gLinksK) (dQ : Def P w K mg base 3 "_law_question" true gQuestion)
 (dB : Def P w K mg base 35 "beside" true gBesideK) (dD : Def P w K mg base 23 "_law_beside" true gBesideL) : FnOk P w K mg base CX0 36 f fd ["_law_script"] (spD K false lawG) := by
 refine fnD Fx sc_law (by rintro ds d ⟨ns, hz, e1, e2⟩; subst e1; rfl) ?_
 rintro cdv A outer s H Ex Z ds d hr ⟨ns, hz, e1, e2⟩
 subst e1 e2
 have nd := sc_law.nd
 have hr1 : Room 1 _ := hr.mono (by decide)
 have hr2 : Room 2 _ := hr.mono (by decide)
 have hr3 : Room 3 _ := hr.mono (by decide)
 have hr5 : Room 5 _ := hr.mono (by decide)
 have hr6 : Room 6 _ := hr.mono (by decide)
 have hr23 : Room 23 _ := hr.mono (by decide)
 refine sd_setN 1 (d := strsD (wordsA (cellAt ns 0) (cellAt ns 1))) (e_call dW hr2 (ea_cons (e_call dC hr1 (ea_cons (e_var 0) (ea_one e_int)) ⟨ns, 0, by omega, rfl, rfl⟩) (ea_one (e_call dC hr1 (ea_cons (e_var 0) (ea_one e_int)) ⟨ns, 1, by omega, rfl, rfl⟩))) ⟨_, _, rfl, rfl⟩) ?_ nd
 refine sd_setN 2 (d := strsD (wordsA (cellAt ns 2) (cellAt ns 1 + 1))) (e_call dW hr2 (ea_cons (e_call dC hr1 (ea_cons (e_var 0) (ea_one e_int)) ⟨ns, 2, by omega, rfl, rfl⟩) (ea_one (e_add (e_call dC hr1 (ea_cons (e_var 0) (ea_one e_int)) ⟨ns, 1, by omega, rfl, rfl⟩) e_int))) ⟨_, _, rfl, rfl⟩) ?_ nd
 have hws : LnOk (wordsA (cellAt ns 0) (cellAt ns 1)) := ⟨wordsA_len _ _, fun z hz => wordsA_isW hz, fun z hz => wordsA_mem hz⟩
 have hvs : LnOk (wordsA (cellAt ns 2) (cellAt ns 1 + 1)) := ⟨wordsA_len _ _, fun z hz => wordsA_isW hz, fun z hz => wordsA_mem hz⟩
 generalize wordsA (cellAt ns 0) (cellAt ns 1) = ws at hws
 generalize wordsA (cellAt ns 2) (cellAt ns 1 + 1) = vs0 at hvs
 obtain ⟨vs, hv4, hvd⟩ : ∃ vs : List Str, LnOk vs /\ vs = if part (cellAt ns 2) 38 2 = 1 then ws else vs0 := ⟨_, by split <;> assumption, rfl⟩
 refine sd_ifJ [some (.pl false (.lst (ns.map D.int))), some (.pl true (strsD ws)), some (.pl true (strsD vs)), none, none, none, none, none, none, none, none] (t_eqI (e_call dPa hr1 (ea_cons (e_call dC hr1 (ea_cons (e_var 0) (ea_one e_int)) ⟨ns, 2, by omega, rfl, rfl⟩) (ea_cons e_int (ea_one e_int))) ⟨_, _, _, by decide, rfl, rfl⟩) e_int) (fun h => ?_) (fun h => ?_) ?_
 . have h0 : part (cellAt ns 2) 38 2 = 1 := by simpa using h
   rw [if_pos h0] at hvd
   subst hvd
   exact sd_setN 2 (d := strsD vs) (e_listL (m := true) (e_var 1) B.list (fun _ => .inr (flats_strs _))) (sd_nil rfl) nd
 . have h0 : ¬ part (cellAt ns 2) 38 2 = 1 := by simpa using h
   rw [if_neg h0] at hvd
   subst hvd
   exact sd_nil rfl
 refine sd_setN 3 (d := prsD (pairsL ws vs (cellAt ns 3))) (e_call dPs hr2 (ea_cons (e_var 1) (ea_cons (e_var 2) (ea_one (e_call dC hr1 (ea_cons (e_var 0) (ea_one e_int)) ⟨ns, 3, by omega, rfl, rfl⟩)))) ⟨ws, vs, _, hws.n, hv4.n, rfl, rfl⟩) ?_ nd
 have hpl := pairsL_len ws vs (cellAt ns 3)
 generalize pairsL ws vs (cellAt ns 3) = ps at hpl
 refine sd_setF 4 (d := intsT (pricesL (cellAt ns 4))) (e_call dPr hr2 (ea_one (e_call dC hr1 (ea_cons (e_var 0) (ea_one e_int)) ⟨ns, 4, by omega, rfl, rfl⟩)) ⟨_, rfl, rfl⟩) (by show flats _ = true; exact flats_ints _) ?_ nd
 have hp5 := pricesL_len (cellAt ns 4)
 generalize pricesL (cellAt ns 4) = prices at hp5
 have hcut : ∀ a b : Nat, (cut ns (some (a : Int)) (some (b : Int))).length <= b - a := fun a b => by rw [cut_both, length_take]; omega
 have ecut : ∀ a b : Int, D.lst (cut (ns.map D.int) (some a) (some b)) = intsD (cut ns (some a) (some b)) := fun a b => by rw [cut_map]; rfl
 have c1 := hcut 5 17
 have c2 := hcut 17 29
 have c3 := hcut 29 32
 have c4 := hcut 32 35
 have tl := lines_text hws (cells := cut ns (some ((5 : Nat) : Int)) (some ((17 : Nat) : Int))) (by omega)
 have tr := lines_text hv4 (cells := cut ns (some ((17 : Nat) : Int)) (some ((29 : Nat) : Int))) (by omega)
 refine sd_setN 5 (d := rowsD (rowsOfS (lnS ws (cut ns (some ((5 : Nat) : Int)) (some ((17 : Nat) : Int)))).1)) (e_call dR hr2 (ea_one (e_call dLn hr2 (ea_cons (e_var 1) (ea_one (E.cast (e_slL (m := false) (e_var 0) (eo_some e_int) (eo_some e_int)) (ecut 5 17)))) ⟨ws, cut ns (some ((5 : Nat) : Int)) (some ((17 : Nat) : Int)), hws, by omega, rfl, rfl⟩)) ⟨_, by omega, tl.1, rfl, rfl⟩) ?_ nd
 refine sd_setN 6 (d := rowsD (rowsOfS (lnS vs (cut ns (some ((17 : Nat) : Int)) (some ((29 : Nat) : Int)))).1)) (e_call dR hr2 (ea_one (e_call dLn hr2 (ea_cons (e_var 2) (ea_one (E.cast (e_slL (m := false) (e_var 0) (eo_some e_int) (eo_some e_int)) (ecut 17 29)))) ⟨vs, cut ns (some ((17 : Nat) : Int)) (some ((29 : Nat) : Int)), hv4, by omega, rfl, rfl⟩)) ⟨_, by omega, tr.1, rfl, rfl⟩) ?_ nd
 have okl := lines_rows hws (cells := cut ns (some ((5 : Nat) : Int)) (some ((17 : Nat) : Int))) (by omega)
 have okr := lines_rows hv4 (cells := cut ns (some ((17 : Nat) : Int)) (some ((29 : Nat) : Int))) (by omega)
 generalize rowsOfS (lnS ws (cut ns (some ((5 : Nat) : Int)) (some ((17 : Nat) : Int)))).1 = ls at okl
 generalize rowsOfS (lnS vs (cut ns (some ((17 : Nat) : Int)) (some ((29 : Nat) : Int)))).1 = rs at okr
 have l5 := okl.1
 have r5 := okr.1
 have ok : PaOk ls rs prices ps := ⟨by have := okl.2.1; omega, by have := okr.2.1; omega, hp5, by omega⟩
 obtain ⟨cw, cc, clen⟩ := cheap_way ls rs prices ps
 have gC : gCheapest [rowsD ls, rowsD rs, intsT prices, prsD ps] (.lst ((cheapL ls rs prices ps).map stepK)) := ⟨ls, rs, prices, ps, ok, by omega, by omega, rfl, rfl⟩
 generalize cheapL ls rs prices ps = st at cw cc clen gC
 have fst := flats_stepK st
 refine sd_setN 7 (d := .lst (st.map stepK)) (e_call dCh hr6 (ea_cons (e_var 5) (ea_cons (e_var 6) (ea_cons (e_var 4) (ea_one (e_var 3))))) gC) ?_ nd
 refine sd_if (t_inB (bs := st.map fun _ => true) e_bl (E.cast (e_map (m := true) (me := true) [] [] (fun _ => .bl true) (it_list (e_var 7)) (fun C s H fp d hd => ?b1) ?b2) ?b3)) (fun h => ?_) (fun h => sd_nil ?_)
 case b1 =>
  obtain ⟨p, hp, rfl⟩ := mem_map.mp hd
  refine E.cast (e_inD (ds := stepsP.map plD) (e_var 0) (e_lst (ea_cons (e_tup (ea_cons e_int (ea_one e_int))) (ea_cons (e_tup (ea_cons e_int (ea_one e_int))) (ea_cons (e_tup (ea_cons e_int (ea_one e_int))) (ea_cons (e_tup (ea_cons e_int (ea_one e_int))) (ea_one (e_tup (ea_cons e_int (ea_one e_int))))))))) (roomDs hr (by decide +kernel))) ?_
  have := cw.ok p hp
  simp only [stepsP, mem_cons, not_mem_nil, or_false] at this
  rcases this with rfl | rfl | rfl | rfl | rfl <;> exact congrArg D.bl (by decide +kernel)
 case b2 => rw [length_map]; exact smallL (by omega)
 case b3 => rw [map_map, map_map]; rfl
 . exfalso
   simp at h
 have hR : tabD (rowsT (priceE ls rs prices ps) rs.length (ls.length + 1)) = .lst (((rowsT (priceE ls rs prices ps) rs.length ls.length).map fun r => D.lst (r.map entD)) ++ [.lst (((List.range (rs.length + 1)).map (tabM (priceE ls rs prices ps) ls.length)).map entD)]) := by
  unfold tabD
  rw [rowsT_succ, map_append]
  rfl
 have hR2 : ((List.range (rs.length + 1)).map (tabM (priceE ls rs prices ps) ls.length)).map entD = ((List.range rs.length).map (tabM (priceE ls rs prices ps) ls.length)).map entD ++ [.tup [.int (tabM (priceE ls rs prices ps) ls.length rs.length).1, .int (tabM (priceE ls rs prices ps) ls.length rs.length).2]] := by
  rw [range_succ, map_append, map_append]
  rfl
 rw [hR2] at hR
 have gW : gWayPrice [rowsD ls, rowsD rs, intsT prices, prsD ps, .lst (st.map stepK)] (.int (costP (priceE ls rs prices ps) 0 0 st)) := ⟨ls, rs, prices, ps, st, ok, cw, by omega, rfl, rfl⟩
 rw [cc] at gW
 generalize tabM (priceE ls rs prices ps) ls.length rs.length = best at hR gW
 refine sd_if (t_neI (e_call dWP hr3 (ea_cons (e_var 5) (ea_cons (e_var 6) (ea_cons (e_var 4) (ea_cons (e_var 3) (ea_one (e_var 7)))))) gW) (e_ixT (i := 0) (d := .int best.1) (e_ixL (e_ixL (E.cast (e_call dP hr5 (ea_cons (e_var 5) (ea_cons (e_var 6) (ea_cons (e_var 4) (ea_one (e_var 3))))) ⟨ls, rs, prices, ps, ok, by omega, by omega, rfl, rfl⟩) hR) (e_neg e_int) (atI_last _ _)) (e_neg e_int) (atI_last _ _)) e_int rfl)) (fun h => ?_) (fun h => sd_nil ?_)
 . exfalso
   simp at h
 have s1 := cw.s1
 have s2 := cw.s2
 refine sd_setN 8 (d := .lst ((linksL 0 0 st).map lkD)) (e_call dLk hr1 (ea_one (e_var 7)) ⟨st, by omega, by omega, by omega, rfl, rfl⟩) ?_ nd
 have hll := linksL_len st 0 0
 have inj : ∀ ps : List Nat, natsD ps = .lst ((ps.map fun n : Nat => (n : Int)).map D.int) := fun ps => by rw [map_map]; rfl
 have fl : ∀ pss : List (List Nat), (pss.map fun ps => ps.map fun n : Nat => (n : Int)).flatten = pss.flatten.map fun n : Nat => (n : Int) := fun pss => by rw [List.map_flatten]
 refine sd_if (T.castB (b' := false) (t_neD (d := natsD (natsR 0 ls.length)) (d' := natsD (natsR 0 ls.length)) (E.cast (e_sumL (((linksL 0 0 st).map fun p => p.1).map fun ps => ps.map fun n : Nat => (n : Int)) (E.cast (e_map (m := false) (me := false) [] [] (fun d => match d with | .tup [a, b] => a | d => d) (it_list (e_var 8)) (fun C s H fp d hd => ?i1) ?i2) ?i3) (e_lstN ea_nil) ?i4 hr.hd B.sum) ?i5) (E.cast (e_map (m := false) (me := false) [] [] (fun d => d) (it_rangeL (n := ls.length) (E.cast (e_lenL (e_var 5) B.len) (by rw [length_map])) B.range (by omega)) (fun C s H fp d hd => e_var 0) ?i6) ?i7) rfl (roomD hr (dep_nats _))) (by rw [deq_refl]; rfl)) (fun h => by cases h) (fun h => sd_nil ?_)
 case i1 =>
  obtain ⟨p, hp, rfl⟩ := mem_map.mp hd
  exact e_ixT (d := natsD p.1) (e_var 0) e_int rfl
 case i2 => rw [length_map]; exact smallL (by omega)
 case i3 =>
  rw [map_map, map_map, map_map]
  congr 1
  exact map_congr_left fun p _ => inj p.1
 case i4 => rw [fl, links_first, s1, length_map]; simp [natsR]; omega
 case i5 => rw [fl, links_first, s1, inj]
 case i6 => rw [rangeD_len]; exact smallL (by omega)
 case i7 => rw [List.map_id', <- natsR_D]; rfl
 refine sd_if (T.castB (b' := false) (t_neD (d := natsD (natsR 0 rs.length)) (d' := natsD (natsR 0 rs.length)) (E.cast (e_sumL (((linksL 0 0 st).map fun p => p.2).map fun ps => ps.map fun n : Nat => (n : Int)) (E.cast (e_map (m := false) (me := false) [] [] (fun d => match d with | .tup [a, b] => b | d => d) (it_list (e_var 8)) (fun C s H fp d hd => ?j1) ?j2) ?j3) (e_lstN ea_nil) ?j4 hr.hd B.sum) ?j5) (E.cast (e_map (m := false) (me := false) [] [] (fun d => d) (it_rangeL (n := rs.length) (E.cast (e_lenL (e_var 6) B.len) (by rw [length_map])) B.range (by omega)) (fun C s H fp d hd => e_var 0) ?j6) ?j7) rfl (roomD hr (dep_nats _))) (by rw [deq_refl]; rfl)) (fun h => by cases h) (fun h => sd_nil ?_)
 case j1 =>
  obtain ⟨p, hp, rfl⟩ := mem_map.mp hd
  exact e_ixT (d := natsD p.2) (e_var 0) e_int rfl
 case j2 => rw [length_map]; exact smallL (by omega)
 case j3 =>
  rw [map_map, map_map, map_map]
  congr 1
  exact map_congr_left fun p _ => inj p.2
 case j4 => rw [fl, links_second, s2, length_map]; simp [natsR]; omega
 case j5 => rw [fl, links_second, s2, inj]
 case j6 => rw [rangeD_len]; exact smallL (by omega)
 case j7 => rw [List.map_id', <- natsR_D]; rfl
 have hwo : ∀ {us : List Str}, LnOk us -> wordsOk us := fun h => ⟨h.n, fun z hz => ⟨(h.w z hz).1, h.l z hz⟩⟩
 have qok : ∀ (us : List Str) (cells : List Int), LnOk us -> cells.length <= 3 -> gQuestion [strsD us, intsD cells] (questD (questL us (cellAt cells 0 + 3) cells)) /\ QsOk (questL us (cellAt cells 0 + 3) cells) := fun us cells hu hc => ⟨⟨us, cells, hwo hu, by omega, rfl, rfl⟩, qOk_mono (questL_inv (hwo hu) (cellAt cells 0 + 3) cells).ok (show _ <= 9 by omega), questL_sm (hwo hu) _ _⟩
 obtain ⟨gq1, okq1⟩ := qok ws (cut ns (some ((29 : Nat) : Int)) (some ((32 : Nat) : Int))) hws (by omega)
 obtain ⟨gq2, okq2⟩ := qok vs (cut ns (some ((32 : Nat) : Int)) (some ((35 : Nat) : Int))) hv4 (by omega)
 refine sd_setN 9 (e_call dQ hr3 (ea_cons (e_var 1) (ea_one (E.cast (e_slL (m := false) (e_var 0) (eo_some e_int) (eo_some e_int)) (ecut 29 32)))) gq1) ?_ nd
 refine sd_setN 10 (e_call dQ hr3 (ea_cons (e_var 2) (ea_one (E.cast (e_slL (m := false) (e_var 0) (eo_some e_int) (eo_some e_int)) (ecut 32 35)))) gq2) ?_ nd
 generalize questL ws (cellAt (cut ns (some ((29 : Nat) : Int)) (some ((32 : Nat) : Int))) 0 + 3) (cut ns (some ((29 : Nat) : Int)) (some ((32 : Nat) : Int))) = one at okq1
 generalize questL vs (cellAt (cut ns (some ((32 : Nat) : Int)) (some ((35 : Nat) : Int))) 0 + 3) (cut ns (some ((32 : Nat) : Int)) (some ((35 : Nat) : Int))) = other at okq2
 have hok : BsOk ls rs st one other := ⟨okl, okr, wayIn_of _ _ st 0 0 (by omega) (by omega), by omega, okq1, okq2⟩
 refine sd_ret false (E.cast (e_eqD (d := trsD (besL ls rs one other 0 0 st)) (e_call dB hr (ea_cons (e_var 5) (ea_cons (e_var 6) (ea_cons (e_var 7) (ea_cons (e_var 9) (ea_one (e_var 10)))))) ⟨ls, rs, st, one, other, hok, rfl, rfl⟩) (e_call dD hr23 (ea_cons (e_var 5) (ea_cons (e_var 6) (ea_cons (e_var 8) (ea_cons (e_var 9) (ea_one (e_var 10)))))) ⟨ls, rs, st, one, other, hok, rfl, rfl⟩) rfl (roomD hr (dep_trs _))) ?_) rfl
 rw [deq_refl]
end
end
instance : Y.Tabs := ⟨[(176, "last_step.<locals>.<lambda>")]⟩
def FK (K : Frag) (q : Str) (st : Stmt) (f : Addr) : Prop := PySem.W.nsIn K mainGlobals q = some (some (.ref f)) /\ ∃ fd, Fun K q q st f fd
theorem fk {K : Frag} {q : Str} {st : Stmt} {f : Addr} {oc kV dc pm ct : Value} {od an : Option Addr} {sl : Array (Option Value)} {cd : Value} (a : PySem.W.nsIn K mainGlobals q = some (some (.ref f))) (l : K.lookup f = some ⟨oc, od, .func (PySem.W.fnOf q q (defArgs st) (defBody st) (defScope st) .none kV dc pm an cd ct), sl⟩) (c : PySem.W.codeIn K cd q = true) (k : keepIn K (.ref f) = true) : FK K q st f := ⟨a, _, fun_mk l c k⟩
def FKC (K : Frag) (q : Str) (st : Stmt) (f c : Addr) (n : Nat) : Prop := PySem.W.nsIn K mainGlobals q = some (some (.ref f)) /\ (∃ fd, FunC K q q st f fd c) /\ codeHdIn K c n = true
theorem fkc {K : Frag} {q : Str} {st : Stmt} {f : Addr} {oc kV dc pm ct : Value} {od an : Option Addr} {sl : Array (Option Value)} {cc : Addr} {n : Nat} (a : PySem.W.nsIn K mainGlobals q = some (some (.ref f))) (l : K.lookup f = some ⟨oc, od, .func (PySem.W.fnOf q q (defArgs st) (defBody st) (defScope st) .none kV dc pm an (.ref cc) ct), sl⟩) (c : PySem.W.codeIn K (.ref cc) q = true) (k : keepIn K (.ref f) = true) (h : codeHdIn K cc n = true) : FKC K q st f cc n := ⟨a, ⟨_, funC_mk l c k⟩, h⟩
theorem len1 {us : List Value} (h : us.length = 1) : ∃ a, us = [a] := by
  cases us with
  | nil => cases h
  | cons a r =>
    cases r with
    | nil => exact ⟨a, rfl⟩
    | cons b c => simp at h
theorem len2 {us : List Value} (h : us.length = 2) : ∃ a0 a1, us = [a0, a1] := by
  cases us with
  | nil => cases h
  | cons a r =>
    obtain ⟨a1, rfl⟩ := len1 (Nat.succ.inj h)
    exact ⟨a, a1, rfl⟩
theorem len3 {us : List Value} (h : us.length = 3) : ∃ a0 a1 a2, us = [a0, a1, a2] := by
  cases us with
  | nil => cases h
  | cons a r =>
    obtain ⟨a1, a2, rfl⟩ := len2 (Nat.succ.inj h)
    exact ⟨a, a1, a2, rfl⟩
theorem len4 {us : List Value} (h : us.length = 4) : ∃ a0 a1 a2 a3, us = [a0, a1, a2, a3] := by
  cases us with
  | nil => cases h
  | cons a r =>
    obtain ⟨a1, a2, a3, rfl⟩ := len3 (Nat.succ.inj h)
    exact ⟨a, a1, a2, a3, rfl⟩
theorem len5 {us : List Value} (h : us.length = 5) : ∃ a0 a1 a2 a3 a4, us = [a0, a1, a2, a3, a4] := by
  cases us with
  | nil => cases h
  | cons a r =>
    obtain ⟨a1, a2, a3, a4, rfl⟩ := len4 (Nat.succ.inj h)
    exact ⟨a, a1, a2, a3, a4, rfl⟩
theorem all_mk {l : PySem.W.OpenLaw} {w : World} {K : Frag} {h : Heap} {mg : Str -> Option Value} {fa : Addr} (X : K.In h) (G : h.Ns mainGlobals mg) (hfa : mg "law" = some (.ref fa))
 {f1 f2 f3 f4 f5 f6 f7 f8 f9 f10 f11 f12 f13 f14 f15 f16 f17 f18 f19 f20 f21 f22 cc22 f23 f24 f25 f26 f27 f28 f29 f30 f31 f32 f33 f34 f35 f36 f37 f38 f39 db1 db2 db3 db4 db5 aS : Addr} {od39 an39 do1 do2 do3 do4 do5 : Option Addr} {sl39 ds1 ds2 ds3 ds4 ds5 : Array (Option Value)} {oc39 kV39 dc39 pm39 cd39 ct39 : Value} {dh1 dh2 dh3 dh4 dh5 : Int} {dt1 du1 dv1 dt2 du2 dv2 dt3 du3 dv3 dt4 du4 dv4 dt5 du5 dv5 tk2 tk3 tk4 : Tok} {dn1 dn2 dn3 dn4 dn5 dep : Nat}
 (q1 : FK K "spans" s_spans f1)
 (q2 : FK K "numbers_in" s_numbers_in f2)
 (q3 : FK K "united" s_united f3)
 (q4 : FK K "behind_question" s_behind_question f4)
 (q5 : FK K "behind_parts" s_behind_parts f5)
 (q6 : FK K "behind_part" s_behind_part f6)
 (q7 : FK K "behind_upto" s_behind_upto f7)
 (q8 : FK K "behind_word" s_behind_word f8)
 (q9 : FK K "fitting" s_fitting f9)
 (q10 : FK K "fits" s_fits f10)
 (q11 : FK K "links" s_links f11)
 (q12 : FK K "beside" s_beside f12)
 (q13 : FK K "way_price" s_way_price f13)
 (q14 : FK K "is_way" s_is_way f14)
 (q15 : FK K "by_pair" s_by_pair f15)
 (q16 : FK K "step_price" s_step_price f16)
 (q17 : FK K "words_of" s_words_of f17)
 (q18 : FK K "lone_words" s_lone_words f18)
 (q19 : FK K "paper" s_paper f19)
 (q20 : FK K "cheapest" s_cheapest f20)
 (q21 : FK K "entry" s_entry f21)
 (q22 : FKC K "last_step" s_last_step f22 cc22 176)
 (q23 : FK K "last_steps" s_last_steps f23)
 (q24 : FK K "rows_of" s_rows_of f24)
 (q25 : FK K "words_in" s_words_in f25)
 (q26 : FK K "_law_cell_at" s_law_cell_at f26)
 (q27 : FK K "_law_part" s_law_part f27)
 (q28 : FK K "_law_words" s_law_words f28)
 (q29 : FK K "_law_pairs" s_law_pairs f29)
 (q30 : FK K "_law_prices" s_law_prices f30)
 (q31 : FK K "_law_plain_part" s_law_plain_part f31)
 (q32 : FK K "_law_question" s_law_question f32)
 (q33 : FK K "_law_meets" s_law_meets f33)
 (q34 : FK K "_law_one_on" s_law_one_on f34)
 (q35 : FK K "_law_all_on" s_law_all_on f35)
 (q36 : FK K "_law_plain_spans" s_law_plain_spans f36)
 (q37 : FK K "_law_lines" s_law_lines f37)
 (q38 : FK K "_law_beside" s_law_beside f38)
 (a39 : PySem.W.nsIn K mainGlobals "law" = some (some (.ref f39)))
 (l39 : K.lookup f39 = some ⟨oc39, od39, .func (PySem.W.fnOf "law" "law" (defArgs s_law) (defBody s_law) (defScope s_law) .none kV39 dc39 pm39 an39 cd39 ct39), sl39⟩)
 (c39 : PySem.W.codeIn K cd39 "law" = true) (k39 : keepIn K (.ref f39) = true)
 (gS : PySem.W.nsIn K mainGlobals "STEPS" = some (some (.ref aS)))
 (sd : K.lookup aS = some ⟨.type "dict", none, .dict #[⟨dh1, .ref db1, .int 0 dt1⟩, ⟨dh2, .ref db2, .int 1 dt2⟩, ⟨dh3, .ref db3, .int 1 dt3⟩, ⟨dh4, .ref db4, .int 2 dt4⟩, ⟨dh5, .ref db5, .int 2 dt5⟩] dep, #[]⟩)
 (he0 : (aS == sysModules) = false)
 (sq1 : K.lookup db1 = some ⟨.type "tuple", do1, .seq #[.int 1 du1, .int 1 dv1] dn1, ds1⟩)
 (sq2 : K.lookup db2 = some ⟨.type "tuple", do2, .seq #[.int 1 du2, .int 2 dv2] dn2, ds2⟩)
 (sq3 : K.lookup db3 = some ⟨.type "tuple", do3, .seq #[.int 2 du3, .int 1 dv3] dn3, ds3⟩)
 (sq4 : K.lookup db4 = some ⟨.type "tuple", do4, .seq #[.int 1 du4, .int 0 dv4] dn4, ds4⟩)
 (sq5 : K.lookup db5 = some ⟨.type "tuple", do5, .seq #[.int 0 du5, .int 1 dv5] dn5, ds5⟩)
 (he1 : dh1 = tupleKeyHash (mixKind l.prog w) [.inl 1, .inl 1])
 (he2 : dh2 = tupleKeyHash (mixKind l.prog w) [.inl 1, .inl 2])
 (he3 : dh3 = tupleKeyHash (mixKind l.prog w) [.inl 2, .inl 1])
 (he4 : dh4 = tupleKeyHash (mixKind l.prog w) [.inl 1, .inl 0])
 (he5 : dh5 = tupleKeyHash (mixKind l.prog w) [.inl 0, .inl 1])
 (g2 : PySem.W.nsIn K mainGlobals "SLOPE" = some (some (.int 3 tk2)))
 (g3 : PySem.W.nsIn K mainGlobals "LONE" = some (some (.int 4 tk3)))
 (g4 : PySem.W.nsIn K mainGlobals "WORD_SIGNS" = some (some (.str "abcdefghijklmnopqrstuvwxyz0123456789" tk4)))
 (z_ValueError : PySem.W.nsIn K mainGlobals "ValueError" = some none)
 (z_abs : PySem.W.nsIn K mainGlobals "abs" = some none)
 (z_all : PySem.W.nsIn K mainGlobals "all" = some none)
 (z_any : PySem.W.nsIn K mainGlobals "any" = some none)
 (z_enumerate : PySem.W.nsIn K mainGlobals "enumerate" = some none)
 (z_len : PySem.W.nsIn K mainGlobals "len" = some none)
 (z_list : PySem.W.nsIn K mainGlobals "list" = some none)
 (z_min : PySem.W.nsIn K mainGlobals "min" = some none)
 (z_range : PySem.W.nsIn K mainGlobals "range" = some none)
 (z_reversed : PySem.W.nsIn K mainGlobals "reversed" = some none)
 (z_sorted : PySem.W.nsIn K mainGlobals "sorted" = some none)
 (z_sum : PySem.W.nsIn K mainGlobals "sum" = some none)
 (z_tuple : PySem.W.nsIn K mainGlobals "tuple" = some none)
 (z_zip : PySem.W.nsIn K mainGlobals "zip" = some none) :
 ∃ fd : FuncData, (∀ (s : Shared) (v : Value), BindsTo s fd ⟨[v], []⟩ [("_law_script", v)]) /\ ∀ base : Heap, K.In base -> base.Ns mainGlobals mg -> BmB mg base -> FnOk l.prog w K mg base CX0 36 fa fd ["_law_script"] (spLaw K) := by
 have e := hfa.symm.trans (mg_of X G a39)
 cases e
 have B : Blt mg := ⟨mg_none_of X G z_ValueError, mg_none_of X G z_abs, mg_none_of X G z_all, mg_none_of X G z_any, mg_none_of X G z_enumerate, mg_none_of X G z_len, mg_none_of X G z_list, mg_none_of X G z_min, mg_none_of X G z_range, mg_none_of X G z_reversed, mg_none_of X G z_sorted, mg_none_of X G z_sum, mg_none_of X G z_tuple, mg_none_of X G z_zip, ⟨_, mg_of X G g2⟩, ⟨_, mg_of X G g3⟩, ⟨_, mg_of X G g4⟩⟩
 have ki := ki_steps he0 sd sq1 sq2 sq3 sq4 sq5
 have hS := mg_of X G gS
 have kd := kd_steps (P := l.prog) (w := w) sd sq1 he1 sq2 he2 sq3 he3 sq4 he4 sq5 he5
 obtain ⟨a1, _, F1⟩ := q1
 obtain ⟨a2, _, F2⟩ := q2
 obtain ⟨a3, _, F3⟩ := q3
 obtain ⟨a4, _, F4⟩ := q4
 obtain ⟨a5, _, F5⟩ := q5
 obtain ⟨a6, _, F6⟩ := q6
 obtain ⟨a7, _, F7⟩ := q7
 obtain ⟨a8, _, F8⟩ := q8
 obtain ⟨a9, _, F9⟩ := q9
 obtain ⟨a10, _, F10⟩ := q10
 obtain ⟨a11, _, F11⟩ := q11
 obtain ⟨a12, _, F12⟩ := q12
 obtain ⟨a13, _, F13⟩ := q13
 obtain ⟨a14, _, F14⟩ := q14
 obtain ⟨a15, _, F15⟩ := q15
 obtain ⟨a16, _, F16⟩ := q16
 obtain ⟨a17, _, F17⟩ := q17
 obtain ⟨a18, _, F18⟩ := q18
 obtain ⟨a19, _, F19⟩ := q19
 obtain ⟨a20, _, F20⟩ := q20
 obtain ⟨a21, _, F21⟩ := q21
 obtain ⟨a22, ⟨_, G22⟩, h22⟩ := q22
 obtain ⟨a23, _, F23⟩ := q23
 obtain ⟨a24, _, F24⟩ := q24
 obtain ⟨a25, _, F25⟩ := q25
 obtain ⟨a26, _, F26⟩ := q26
 obtain ⟨a27, _, F27⟩ := q27
 obtain ⟨a28, _, F28⟩ := q28
 obtain ⟨a29, _, F29⟩ := q29
 obtain ⟨a30, _, F30⟩ := q30
 obtain ⟨a31, _, F31⟩ := q31
 obtain ⟨a32, _, F32⟩ := q32
 obtain ⟨a33, _, F33⟩ := q33
 obtain ⟨a34, _, F34⟩ := q34
 obtain ⟨a35, _, F35⟩ := q35
 obtain ⟨a36, _, F36⟩ := q36
 obtain ⟨a37, _, F37⟩ := q37
 obtain ⟨a38, _, F38⟩ := q38
 have b1 := F1.binds (ps := ["question", "row"]) fun _ _ _ _ _ _ us hl => by obtain ⟨u0, u1, rfl⟩ := len2 hl; rfl
 have b2 := F2.binds (ps := ["whole"]) fun _ _ _ _ _ _ us hl => by obtain ⟨u0, rfl⟩ := len1 hl; rfl
 have b3 := F3.binds (ps := ["wholes", "others"]) fun _ _ _ _ _ _ us hl => by obtain ⟨u0, u1, rfl⟩ := len2 hl; rfl
 have b4 := F4.binds (ps := ["question", "row", "wholes"]) fun _ _ _ _ _ _ us hl => by obtain ⟨u0, u1, u2, rfl⟩ := len3 hl; rfl
 have b5 := F5.binds (ps := ["parts", "row", "wholes"]) fun _ _ _ _ _ _ us hl => by obtain ⟨u0, u1, u2, rfl⟩ := len3 hl; rfl
 have b6 := F6.binds (ps := ["part", "row", "wholes"]) fun _ _ _ _ _ _ us hl => by obtain ⟨u0, u1, u2, rfl⟩ := len3 hl; rfl
 have b7 := F7.binds (ps := ["most", "row", "wholes"]) fun _ _ _ _ _ _ us hl => by obtain ⟨u0, u1, u2, rfl⟩ := len3 hl; rfl
 have b8 := F8.binds (ps := ["places", "wholes"]) fun _ _ _ _ _ _ us hl => by obtain ⟨u0, u1, rfl⟩ := len2 hl; rfl
 have b9 := F9.binds (ps := ["part", "row"]) fun _ _ _ _ _ _ us hl => by obtain ⟨u0, u1, rfl⟩ := len2 hl; rfl
 have b10 := F10.binds (ps := ["part", "word"]) fun _ _ _ _ _ _ us hl => by obtain ⟨u0, u1, rfl⟩ := len2 hl; rfl
 have b11 := F11.binds (ps := ["steps"]) fun _ _ _ _ _ _ us hl => by obtain ⟨u0, rfl⟩ := len1 hl; rfl
 have b12 := F12.binds (ps := ["lefts", "rights", "steps", "one", "other"]) fun _ _ _ _ _ _ us hl => by obtain ⟨u0, u1, u2, u3, u4, rfl⟩ := len5 hl; rfl
 have b13 := F13.binds (ps := ["lefts", "rights", "prices", "pairs", "steps"]) fun _ _ _ _ _ _ us hl => by obtain ⟨u0, u1, u2, u3, u4, rfl⟩ := len5 hl; rfl
 have b14 := F14.binds (ps := ["lefts", "rights", "steps"]) fun _ _ _ _ _ _ us hl => by obtain ⟨u0, u1, u2, rfl⟩ := len3 hl; rfl
 have b15 := F15.binds (ps := ["pairs"]) fun _ _ _ _ _ _ us hl => by obtain ⟨u0, rfl⟩ := len1 hl; rfl
 have b16 := F16.binds (ps := ["lefts", "rights", "prices", "paired"]) fun _ _ _ _ _ _ us hl => by obtain ⟨u0, u1, u2, u3, rfl⟩ := len4 hl; rfl
 have b17 := F17.binds (ps := ["rows"]) fun _ _ _ _ _ _ us hl => by obtain ⟨u0, rfl⟩ := len1 hl; rfl
 have b18 := F18.binds (ps := ["lefts", "rights", "paired"]) fun _ _ _ _ _ _ us hl => by obtain ⟨u0, u1, u2, rfl⟩ := len3 hl; rfl
 have b19 := F19.binds (ps := ["lefts", "rights", "prices", "pairs"]) fun _ _ _ _ _ _ us hl => by obtain ⟨u0, u1, u2, u3, rfl⟩ := len4 hl; rfl
 have b20 := F20.binds (ps := ["lefts", "rights", "prices", "pairs"]) fun _ _ _ _ _ _ us hl => by obtain ⟨u0, u1, u2, u3, rfl⟩ := len4 hl; rfl
 have b21 := F21.binds (ps := ["lefts", "rights", "prices", "paired", "table"]) fun _ _ _ _ _ _ us hl => by obtain ⟨u0, u1, u2, u3, u4, rfl⟩ := len5 hl; rfl
 have F22 := G22.fn
 have b22 := F22.binds (ps := ["found"]) fun _ _ _ _ _ _ us hl => by obtain ⟨u0, rfl⟩ := len1 hl; rfl
 have b23 := F23.binds (ps := ["lefts", "rights", "prices", "paired", "table"]) fun _ _ _ _ _ _ us hl => by obtain ⟨u0, u1, u2, u3, u4, rfl⟩ := len5 hl; rfl
 have b24 := F24.binds (ps := ["text"]) fun _ _ _ _ _ _ us hl => by obtain ⟨u0, rfl⟩ := len1 hl; rfl
 have b25 := F25.binds (ps := ["part"]) fun _ _ _ _ _ _ us hl => by obtain ⟨u0, rfl⟩ := len1 hl; rfl
 have b26 := F26.binds (ps := ["_law_script", "_law_k"]) fun _ _ _ _ _ _ us hl => by obtain ⟨u0, u1, rfl⟩ := len2 hl; rfl
 have b27 := F27.binds (ps := ["_law_cell", "_law_k", "_law_many"]) fun _ _ _ _ _ _ us hl => by obtain ⟨u0, u1, u2, rfl⟩ := len3 hl; rfl
 have b28 := F28.binds (ps := ["_law_one", "_law_other"]) fun _ _ _ _ _ _ us hl => by obtain ⟨u0, u1, rfl⟩ := len2 hl; rfl
 have b29 := F29.binds (ps := ["_law_lefts", "_law_rights", "_law_cell"]) fun _ _ _ _ _ _ us hl => by obtain ⟨u0, u1, u2, rfl⟩ := len3 hl; rfl
 have b30 := F30.binds (ps := ["_law_cell"]) fun _ _ _ _ _ _ us hl => by obtain ⟨u0, rfl⟩ := len1 hl; rfl
 have b31 := F31.binds (ps := ["_law_words_here", "_law_cell"]) fun _ _ _ _ _ _ us hl => by obtain ⟨u0, u1, rfl⟩ := len2 hl; rfl
 have b32 := F32.binds (ps := ["_law_words_here", "_law_cells"]) fun _ _ _ _ _ _ us hl => by obtain ⟨u0, u1, rfl⟩ := len2 hl; rfl
 have b33 := F33.binds (ps := ["_law_part_here", "_law_word"]) fun _ _ _ _ _ _ us hl => by obtain ⟨u0, u1, rfl⟩ := len2 hl; rfl
 have b34 := F34.binds (ps := ["_law_part_here", "_law_row", "_law_froms"]) fun _ _ _ _ _ _ us hl => by obtain ⟨u0, u1, u2, rfl⟩ := len3 hl; rfl
 have b35 := F35.binds (ps := ["_law_question_here", "_law_row", "_law_froms"]) fun _ _ _ _ _ _ us hl => by obtain ⟨u0, u1, u2, rfl⟩ := len3 hl; rfl
 have b36 := F36.binds (ps := ["_law_question_here", "_law_row"]) fun _ _ _ _ _ _ us hl => by obtain ⟨u0, u1, rfl⟩ := len2 hl; rfl
 have b37 := F37.binds (ps := ["_law_words_here", "_law_cells"]) fun _ _ _ _ _ _ us hl => by obtain ⟨u0, u1, rfl⟩ := len2 hl; rfl
 have b38 := F38.binds (ps := ["_law_lefts", "_law_rights", "_law_laid", "_law_one", "_law_other"]) fun _ _ _ _ _ _ us hl => by obtain ⟨u0, u1, u2, u3, u4, rfl⟩ := len5 hl; rfl
 have F39 := fun_mk (st := s_law) l39 c39 k39
 refine ⟨PySem.W.fnOf "law" "law" (defArgs s_law) (defBody s_law) (defScope s_law) .none kV39 dc39 pm39 an39 cd39 ct39, fun s v => .of_eq rfl, fun base _ _ bm => ?_⟩
 have D2 := ok_numbers_in (P := l.prog) (w := w) (base := base) F2 (mg_of X G a2) b2 B
 have D10 := ok_fits (P := l.prog) (w := w) (base := base) F10 (mg_of X G a10) b10 B
 have D9 := ok_fitting (P := l.prog) (w := w) (base := base) F9 (mg_of X G a9) b9 B D10
 have D3 := ok_united (P := l.prog) (w := w) (base := base) F3 (mg_of X G a3) b3 B
 have D8 := ok_behind_word (P := l.prog) (w := w) (base := base) F8 (mg_of X G a8) b8 B
 have D7 := ok_behind_upto (P := l.prog) (w := w) (base := base) F7 (mg_of X G a7) b7 B D9 D3 D8
 have D4 := ok_rec (P := l.prog) (w := w) (base := base) F6 (mg_of X G a6) b6 F5 (mg_of X G a5) b5 F4 (mg_of X G a4) b4 B D7 D8 D9 D3 9
 have D1 := ok_spans (P := l.prog) (w := w) (base := base) F1 (mg_of X G a1) b1 B D2 D4
 have D11 := ok_links (P := l.prog) (w := w) (base := base) F11 (mg_of X G a11) b11 B
 have D12 := ok_beside (P := l.prog) (w := w) (base := base) F12 (mg_of X G a12) b12 B D11 D1
 have D14 := ok_is_way (P := l.prog) (w := w) (base := base) F14 (mg_of X G a14) b14 B hS kd ki
 have D15 := ok_by_pair (P := l.prog) (w := w) (base := base) F15 (mg_of X G a15) b15 B
 have D17 := ok_words_of (P := l.prog) (w := w) (base := base) F17 (mg_of X G a17) b17 B
 have D18 := ok_lone_words (P := l.prog) (w := w) (base := base) F18 (mg_of X G a18) b18 B
 have D16 := ok_step_price (P := l.prog) (w := w) (base := base) F16 (mg_of X G a16) b16 B hS kd D17 D18
 have D13 := ok_way_price (P := l.prog) (w := w) (base := base) F13 (mg_of X G a13) b13 B D14 D15 D16
 have D23 := ok_last_steps (P := l.prog) (w := w) (base := base) F23 (mg_of X G a23) b23 B hS ki D16
 have D21 := ok_entry (P := l.prog) (w := w) (base := base) F21 (mg_of X G a21) b21 B D23
 have D19 := ok_paper (P := l.prog) (w := w) (base := base) F19 (mg_of X G a19) b19 B D15 D21
 have L22 : LamK K mg base cc22 176 "last_step.<locals>.<lambda>" := ⟨h22, by decide, by decide, bm, by decide⟩
 have D22 := ok_last_step (P := l.prog) (w := w) (base := base) G22 L22 (mg_of X G a22) b22 B
 have D20 := ok_cheapest (P := l.prog) (w := w) (base := base) F20 (mg_of X G a20) b20 B D15 D19 D22 D23
 have D25 := ok_words_in (P := l.prog) (w := w) (base := base) F25 (mg_of X G a25) b25 B
 have D24 := ok_rows_of (P := l.prog) (w := w) (base := base) F24 (mg_of X G a24) b24 B D25
 have D26 := ok_law_cell_at (P := l.prog) (w := w) (base := base) F26 (mg_of X G a26) b26 B
 have D27 := ok_law_part (P := l.prog) (w := w) (base := base) F27 (mg_of X G a27) b27 B
 have D28 := ok_law_words (P := l.prog) (w := w) (base := base) F28 (mg_of X G a28) b28 B D27
 have D29 := ok_law_pairs (P := l.prog) (w := w) (base := base) F29 (mg_of X G a29) b29 B D27
 have D30 := ok_law_prices (P := l.prog) (w := w) (base := base) F30 (mg_of X G a30) b30 B D27
 have D31 := ok_law_plain_part (P := l.prog) (w := w) (base := base) F31 (mg_of X G a31) b31 B D27
 have D32 := ok_law_question (P := l.prog) (w := w) (base := base) F32 (mg_of X G a32) b32 B D26 D27 D31
 have D33 := ok_law_meets (P := l.prog) (w := w) (base := base) F33 (mg_of X G a33) b33 B
 have D35 := ok_rec2 (P := l.prog) (w := w) (base := base) F34 (mg_of X G a34) b34 F35 (mg_of X G a35) b35 B D33 9
 have D36 := ok_law_plain_spans (P := l.prog) (w := w) (base := base) F36 (mg_of X G a36) b36 B D35
 have D37 := ok_law_lines (P := l.prog) (w := w) (base := base) F37 (mg_of X G a37) b37 B D27
 have D38 := ok_law_beside (P := l.prog) (w := w) (base := base) F38 (mg_of X G a38) b38 B D36
 exact law_of (ok_law F39 B D26 D27 D28 D29 D30 D24 D37 D20 D13 D19 D11 D32 D12 D38)
end Z
namespace PySem.W.Fast
def tw11808984048474096688:=0
def tw5186684799052579115:=0
def tw10455048804263125294:=0
def tw3699033000912065661:=0
def tw4973390694291436602:=0
def tw10122351232049318728:=0
def tw8892748327020740845:=0
def tw6479782067215843407:=0
def tw13009470275244439273:=0
def tw1505224144757757396:=0
def tw7321860936930126409:=0
def tw12074589180289767270:=0
def tw15667189569426275156:=0
def tw8878237096759674368:=0
def tw11103950171057332516:=0
def tw16382193879428022656:=0
def tw11585071215030014225:=0
def tw15490677152307198258:=0
def tw6098459030364994811:=0
def tw13783285910846586508:=0
def tw16963650975009600292:=0
def tw11398214789303438493:=0
def tw8749405026187568366:=0
def tw9587906467150656196:=0
def tw9839867109432936020:=0
def tw4927004814693708969:=0
def tw18139394666637354191:=0
def tw11437019424420192372:=0
def tw6117640253736462219:=0
def tw3017777328038670981:=0
def tw6959796947324540775:=0
def tw4139478427679110304:=0
def tw13960368136957167259:=0
def tw11820612639068672762:=0
def tw4521008886862842242:=0
def tw17378807252249900580:=0
def tw11585916012363952870:=0
def tw16757151425691697057:=0
def tw12496844439710770515:=0
def tw2434839456650026598:=0
def tw357489621966873574:=0
def tw8771753480487341342:=0
def tw17762976439323479775:=0
def tw4685055020029520200:=0
def tw3484508456535696602:=0
def tw9112563495057488272:=0
def tw14372730139629439667:=0
def tw13980686637095423535:=0
def tw12027853273572453030:=0
def tw17862843404606280823:=0
def tw12288540147887633596:=0
def tw16250112454235516696:=0
def tw714849799418314435:=0
def tw16040566417124730992:=0
def tw15135469215010773549:=0
def tw508542605331995210:=0
def tw12903575349781044009:=0
def tw14771675441908708421:=0
def tw1924055727532861345:=0
def tw5117473119195139153:=0
def tw13657320977302931562:=0
def tw15508243412564809500:=0
def tw4944610203212323801:=0
def tw9162587864789082045:=0
def tw3417434061393206150:=0
def tw18009096019029833593:=0
def tw17796613352587149575:=0
def tw4610393438636338109:=0
def tw8156166097662583097:=0
def tw17663836005542203059:=0
def tw484617407204505763:=0
def tw3103812234531308362:=0
def tw9052772248939563235:=0
def tw15958799888149577726:=0
def tw4180587772961140109:=0
def tw1327388643844725372:=0
def tw18157577086395425224:=0
def tw9557635364117663592:=0
def tw1392361379283206131:=0
def tw2894104057635200919:=0
def tw5383200693507946356:=0
def tw9213667884227210985:=0
def tw17628933348154406155:=0
def tw14880828640696137133:=0
def tw618799716246377783:=0
def tw6997271252033737700:=0
def tw17249889919204296187:=0
def tw13421467688894376573:=0
def tw758239468042724464:=0
def tw14157325568564800665:=0
def tw81998906871625273:=0
def tw6855164498949809333:=0
def tw6071578332448466229:=0
def tw1416025969841801583:=0
def tw9026726590048533600:=0
def tw9909572986904050037:=0
def tw15322744272468550789:=0
def tw14177270309830906316:=0
def tw9582395553068284704:=0
def tw4946043117823108218:=0
def tw13631788625761346229:=0
def tw6126783962692356799:=0
def tw5450809403625095947:=0
def tw17556958594790482666:=0
def tw5539609008688950978:=0
def tw3442664176457901688:=0
def tw3322781272863157862:=0
def tw12631968694639659814:=0
def tw11356505535777711003:=0
def tw16768326531711255784:=0
def tw4508981294420776943:=0
def tw3175381072561903292:=0
def tw13551174129125821658:=0
def tw6578485422457306871:=0
def tw1308233097864188297:=0
def tw15137005511592797596:=0
def tw16750275063303365021:=0
def tw3151019983370165071:=0
end PySem.W.Fast
open PySem PySem.W PyProof.Rows
set_option maxRecDepth 100000 in
set_option maxHeartbeats 0 in
theorem PySem.Challenge.cw_besidewords_k73_whole_texts_laid_togethe_holds : PySem.Challenge.rw_besidewords_k73_whole_texts_laid_togethe.Holds := by
 w_on; o_law; k_head; (case hw => w_witness2)
 k_fill
 refine Y.walkT (l := PySem.Challenge.rw_besidewords_k73_whole_texts_laid_togethe) (k := 36) (x := "_law_script") rfl rfl ⟨rfl, by decide, by decide⟩ (fun w h Y => km_in_of Y) ?T ?F
 case T =>
  intro w h Yk q hq
  rcases (by simpa [Y.Tabs.T] using hq : q = ((176 : Addr), ("last_step.<locals>.<lambda>" : Str))) with rfl
  . refine Y.tabs_ok (c := 180) Yk ?x1 ?x2 ?x3
    (case x1 => simp)
    (case x2 => kernel_rfl)
    (case x3 => kernel_rfl)
 case F =>
  intro w mg fa h KX G hmg
  refine' Z.all_mk KX G hmg (Z.fk ?a1 ?l1 ?c1 ?k1) (Z.fk ?a2 ?l2 ?c2 ?k2) (Z.fk ?a3 ?l3 ?c3 ?k3) (Z.fk ?a4 ?l4 ?c4 ?k4) (Z.fk ?a5 ?l5 ?c5 ?k5) (Z.fk ?a6 ?l6 ?c6 ?k6) (Z.fk ?a7 ?l7 ?c7 ?k7) (Z.fk ?a8 ?l8 ?c8 ?k8) (Z.fk ?a9 ?l9 ?c9 ?k9) (Z.fk ?a10 ?l10 ?c10 ?k10) (Z.fk ?a11 ?l11 ?c11 ?k11) (Z.fk ?a12 ?l12 ?c12 ?k12) (Z.fk ?a13 ?l13 ?c13 ?k13) (Z.fk ?a14 ?l14 ?c14 ?k14) (Z.fk ?a15 ?l15 ?c15 ?k15) (Z.fk ?a16 ?l16 ?c16 ?k16) (Z.fk ?a17 ?l17 ?c17 ?k17) (Z.fk ?a18 ?l18 ?c18 ?k18) (Z.fk ?a19 ?l19 ?c19 ?k19) (Z.fk ?a20 ?l20 ?c20 ?k20) (Z.fk ?a21 ?l21 ?c21 ?k21) (Z.fkc ?a22 ?l22 ?c22 ?k22 ?h22) (Z.fk ?a23 ?l23 ?c23 ?k23) (Z.fk ?a24 ?l24 ?c24 ?k24) (Z.fk ?a25 ?l25 ?c25 ?k25) (Z.fk ?a26 ?l26 ?c26 ?k26) (Z.fk ?a27 ?l27 ?c27 ?k27) (Z.fk ?a28 ?l28 ?c28 ?k28) (Z.fk ?a29 ?l29 ?c29 ?k29) (Z.fk ?a30 ?l30 ?c30 ?k30) (Z.fk ?a31 ?l31 ?c31 ?k31) (Z.fk ?a32 ?l32 ?c32 ?k32) (Z.fk ?a33 ?l33 ?c33 ?k33) (Z.fk ?a34 ?l34 ?c34 ?k34) (Z.fk ?a35 ?l35 ?c35 ?k35) (Z.fk ?a36 ?l36 ?c36 ?k36) (Z.fk ?a37 ?l37 ?c37 ?k37) (Z.fk ?a38 ?l38 ?c38 ?k38) ?a39 ?l39 ?c39 ?k39 ?gS ?sd ?he0 ?sq1 ?sq2 ?sq3 ?sq4 ?sq5 ?he1 ?he2 ?he3 ?he4 ?he5 ?g2 ?g3 ?g4 ?z_ValueError ?z_abs ?z_all ?z_any ?z_enumerate ?z_len ?z_list ?z_min ?z_range ?z_reversed ?z_sorted ?z_sum ?z_tuple ?z_zip
  (case a1|l1|c1|k1|a2|l2|c2|k2|a3|l3|c3|k3|a4|l4|c4|k4|a5|l5|c5|k5|a6|l6|c6|k6|a7|l7|c7|k7|a8|l8|c8|k8|a9|l9|c9|k9|a10|l10|c10|k10|a11|l11|c11|k11|a12|l12|c12|k12|a13|l13|c13|k13|a14|l14|c14|k14|a15|l15|c15|k15|a16|l16|c16|k16|a17|l17|c17|k17|a18|l18|c18|k18|a19|l19|c19|k19|a20|l20|c20|k20|a21|l21|c21|k21|a22|l22|c22|k22|a23|l23|c23|k23|a24|l24|c24|k24|a25|l25|c25|k25|a26|l26|c26|k26|a27|l27|c27|k27|a28|l28|c28|k28|a29|l29|c29|k29|a30|l30|c30|k30|a31|l31|c31|k31|a32|l32|c32|k32|a33|l33|c33|k33|a34|l34|c34|k34|a35|l35|c35|k35|a36|l36|c36|k36|a37|l37|c37|k37|a38|l38|c38|k38|a39|l39|c39|k39|gS|sd|sq1|sq2|sq3|sq4|sq5|g2|g3|g4|z_ValueError|z_abs|z_all|z_any|z_enumerate|z_len|z_list|z_min|z_range|z_reversed|z_sorted|z_sum|z_tuple|z_zip => k_is)
  (case h22|he0|he1|he2|he3|he4|he5 => kernel_rfl)
