import PyProof.Rows.All
import Wide.All
import OpenK.AllK
import Wide.FinOn
import Lean
import PyProof.EqAt
import PyProof.EqKinds
import PyProof.TupleCall
import PyProof.FactsAll.dict
import PyProof.Rows.SeqMore
import PySem.SetOps
import PyProof.SetScanFacts
import PyProof.Rows.StrCase
import PyProof.ToksMono
import PyProof.AutoIntG2
import PyProof.DictIter
import PyProof.DictWalks
import KE.KItemsList
import PyProof.SetKind
import PyProof.Rows.SetFrom
import PyProof.ListNew
import PyProof.SetNew
import PyProof.SetRoads
import PyProof.FactsAll.set_1
import PyProof.TupleKey
import PyProof.IsRules
import PyProof.AutoListH
import PyProof.FactsAll.list_2
import PyProof.Rows.StrCut
import PyProof.FactsAll.tuple_3
import PyProof.StrOps2
import KE.KDictLaws
import PyProof.DictItems
import KE.KPairComp
import KE.KDictList
import PySem.Challenge.RW_besidewords_k62_twice_and_no_text
open List (length_map mem_map getElem?_map map_map mem_cons map_append size_toArray map_cons mem_append getElem?_append_left mem_of_getElem? mem_cons_of_mem length_take take_length take_add_one mem_cons_self mem_append_right append_nil map_congr_left getElem_mem range_succ length_range nodup_cons getElem?_append_right cons_append length_cons lookup_cons not_mem_nil find?_cons any_eq_true map_nil length_filter_le take_append_drop mem_filter length_drop filter_map filter_append flatten_append)
open PySem.Heap (lt_size get?_push_of_some get?_push_size)
open PySem.W (keepIn codeHdIn kla_obj envX mg_of mg_none_of)
set_option Elab.async false
set_option linter.all false
set_option maxRecDepth 100000
namespace L2
open PySem PySem.Spec PyProof.Rows
abbrev Key:=Sum Int Str
def keyIs:Key->Value->Bool
 |.inl k,v=>Value.isInt k v
 |.inr x,v=>Value.isStrOf x v
def keyH(w:World):Key->Int
 |.inl k=>hashInt k
 |.inr x=>hashStr w x
theorem keyIs_shape:∀{k:Key} {v:Value},keyIs k v=true->(∃i t,k=Sum.inl i/\v=Value.int i t)\/(∃x t,k=Sum.inr x/\v=Value.str x t)
 |.inl i,v,h=>by
  obtain⟨t,e⟩:=Value.isInt_shape (k:=i) (v:=v) h
  exact .inl ⟨i,t,rfl,e⟩
 |.inr x,v,h=>by
  obtain⟨t,e⟩:=Value.isStrOf_shape (x:=x) (v:=v) h
  exact .inr ⟨x,t,rfl,e⟩
theorem keyIs_int(i:Int)(t:Tok):keyIs (.inl i) (.int i t)=true:=by simp[keyIs,Value.isInt]
theorem keyIs_str(x:Str)(t:Tok):keyIs (.inr x) (.str x t)=true:=by simp[keyIs,Value.isStrOf]
theorem key_ll(a b:Int):decide ((Sum.inl a:Key)=Sum.inl b)=(a==b):=by
 by_cases e:a=b
 . subst e;simp
 . have h:¬(Sum.inl a:Key)=Sum.inl b:=fun q=>e (Sum.inl.inj q)
   rw[decide_eq_false h]
   exact(beq_eq_false_iff_ne.mpr e).symm
theorem key_rr(a b:Str):decide ((Sum.inr a:Key)=Sum.inr b)=decide (a=b):=by
 by_cases e:a=b
 . subst e;simp
 . have h:¬(Sum.inr a:Key)=Sum.inr b:=fun q=>e (Sum.inr.inj q)
   rw[decide_eq_false h,decide_eq_false e]
theorem key_lr(a:Int)(b:Str):decide ((Sum.inl a:Key)=Sum.inr b)=false:=decide_eq_false (fun q=>nomatch q)
theorem key_rl(a:Str)(b:Int):decide ((Sum.inr a:Key)=Sum.inl b)=false:=decide_eq_false (fun q=>nomatch q)
def mixKind(prog:Program)(w:World):PySem.KeyKind prog w Key where
 is:=keyIs
 hash:=keyH w
 inj:=fun v a b ha hb=>by
  rcases keyIs_shape ha with⟨i,t,rfl,rfl⟩|⟨x,t,rfl,rfl⟩
  . rcases keyIs_shape hb with⟨j,u,rfl,e⟩|⟨y,u,rfl,e⟩
    . injection e with e1 _;rw[e1]
    . exact nomatch e
  . rcases keyIs_shape hb with⟨j,u,rfl,e⟩|⟨y,u,rfl,e⟩
    . exact nomatch e
    . injection e with e1 _;rw[e1]
 byValue:=fun k v h=>by
  rcases keyIs_shape h with⟨i,t,rfl,rfl⟩|⟨x,t,rfl,rfl⟩<;>rfl
 pyHash:=fun hv h=>by
  rcases keyIs_shape hv with⟨i,t,rfl,rfl⟩|⟨x,t,rfl,rfl⟩
  . exact wpAny_pyHash_int h
  . exact wpAny_pyHash_str h
 eqBool:=fun hu hv h=>by
  rcases keyIs_shape hu with⟨i,t,rfl,rfl⟩|⟨x,t,rfl,rfl⟩
  . rcases keyIs_shape hv with⟨j,u,rfl,rfl⟩|⟨y,u,rfl,rfl⟩
    . rw[key_ll]at h;exact wpAny_eqBool_int h
    . rw[key_lr]at h;exact SeqAt.EqAt.int_str i t y u _ _ _ _ h
  . rcases keyIs_shape hv with⟨j,u,rfl,rfl⟩|⟨y,u,rfl,rfl⟩
    . rw[key_rl]at h;exact SeqAt.EqAt.str_int x t j u _ _ _ _ h
    . rw[key_rr]at h;exact wpAny_eqBool_str h
 «strs» :=fun k x t v h=>by
  rcases keyIs_shape h with⟨i,u,rfl,e⟩|⟨y,u,rfl,e⟩
  . exact nomatch e
  . injection e with e1 _
    subst e1
    cases v<;>rfl
theorem mixKind_is(prog:Program)(w:World)(k:Key)(v:Value):(mixKind prog w).is k v=keyIs k v:=rfl
theorem mixKind_int(prog:Program)(w:World)(i:Int)(t:Tok):(mixKind prog w).is (.inl i) (.int i t)=true:=keyIs_int i t
theorem mixKind_str(prog:Program)(w:World)(x:Str)(t:Tok):(mixKind prog w).is (.inr x) (.str x t)=true:=keyIs_str x t
inductive V where
 |non|bl(b:Bool)|int(i:Int)|str(x:Str)|byt(b:Array UInt8)|flt(b:UInt64)|ref(a:Addr)|ty(n:String)
 deriving DecidableEq
def RelV:V->Value->Prop
 |.non,u=>u=Value.none
 |.bl b,u=>u=Value.bool b
 |.int i,u=>∃t,u=Value.int i t
 |.str x,u=>∃t,u=Value.str x t
 |.byt b,u=>∃t,u=Value.bytes b t
 |.flt b,u=>∃t,u=Value.float b t
 |.ref a,u=>u=Value.ref a
 |.ty n,u=>u=Value.type n
abbrev Vals:List V->List Value->Prop:=Paired RelV
theorem Vals.length{xs:List V}{us:List Value}(r:Vals xs us):xs.length=us.length:=Paired.length r
theorem Vals.get:∀{xs:List V} {us:List Value} {i:Nat} {x:V},Vals xs us->xs[i]? =some x->∃u,us[i]? =some u/\RelV x u
 |_,_,_,_,.nil,e=>by simp at e
 |_,_,0,_,.cons r _,e=>by simp at e;subst e;exact⟨_,rfl,r⟩
 |_,_,i+1,x,.cons _ t,e=>by
  obtain⟨u,h1,h2⟩:=Vals.get (i:=i) (x:=x) t (by simpa using e)
  exact⟨u,by simpa using h1,h2⟩
theorem Vals.append:∀{xs ys:List V} {us ws:List Value},Vals xs us->Vals ys ws->Vals (xs++ys) (us++ws)
 |_,_,_,_,.nil,s=>s
 |_,_,_,_,.cons r t,s=>.cons r (Vals.append t s)
theorem Vals.take:∀{xs:List V} {us:List Value} (n:Nat),Vals xs us->Vals (xs.take n) (us.take n)
 |_,_,0,_=>.nil
 |_,_,_+1,.nil=>.nil
 |_,_,n+1,.cons r t=>.cons r (Vals.take n t)
theorem Vals.drop:∀{xs:List V} {us:List Value} (n:Nat),Vals xs us->Vals (xs.drop n) (us.drop n)
 |_,_,0,r=>r
 |_,_,_+1,.nil=>.nil
 |_,_,n+1,.cons _ t=>Vals.drop n t
def RelO:Option V->Option Value->Prop
 |some v,some u=>RelV v u
 |none,none=>True
 |_,_=>False
def KV{κ:Type}:List (κ×V)->List (κ×Value)->Prop:=Paired fun(p:κ×V) (q:κ×Value)=>p.1=q.1/\RelV p.2 q.2
def kV:Key->V
 |.inl i=>.int i
 |.inr x=>.str x
inductive HO where
 |lst(xs:List V)
 |tup(xs:List V)
 |dK(kvs:List (Key×V))|dT(kvs:List (List Key×V))
 |set(S:Int->Bool)(n:Nat)
 |ins(C dx:Addr)(fs:List (Str×V))
 |own(x:Addr)
 |xd(fs:List (Str×V))
 |met(f x:Addr)
 |rng(lo hi:Int)
 |frz(o:Obj)(u:HO)
 |tbl(ps:Array Value)
 |ext(φ:Heap->Prop)
abbrev Hp:=Addr->Option HO
def upd(H:Hp)(a:Addr)(o:HO):Hp:=fun b=>if b=a then some o else H b
theorem upd_same{H:Hp}{a:Addr}{o:HO}:upd H a o a=some o:=by unfold upd;rw[if_pos rfl]
theorem upd_ne{H:Hp}{a b:Addr}{o:HO}(h:b≠a):upd H a o b=H b:=by unfold upd;rw[if_neg h]
theorem ne_of{H:Hp}{a b:Addr}{o u:HO}(h:H a=some o)(h':H b=some u)(d:o≠u):a≠b:=by
 intro e;subst e;rw[h]at h';exact d (Option.some.inj h')
theorem ne_of_none{H:Hp}{a b:Addr}{o:HO}(h:H a=some o)(h':H b=none):a≠b:=by
 intro e;subst e;rw[h]at h';cases h'
section
variable(P:Program)(w:World)
def ObjOk(H:Hp)(h:Heap)(a:Addr):HO->Prop
 |.lst xs=>xs.length<=sizeLine/\ ∃(its:List Value) (n:Nat),Vals xs its/\h.get? a=some {cls:=.type "list",data:=.seq its.toArray n}
 |.tup xs=>xs.length<=sizeLine/\ ∃its:List Value,Vals xs its/\IsTup h a its.toArray
 |.dK kvs=>kvs.length<=sizeLine/\(a==sysModules)=false/\ ∃vs,KV kvs vs/\h.DictOf (mixKind P w) a vs
 |.dT kvs=>kvs.length<=sizeLine/\(a==sysModules)=false/\ ∃xs:List (List Key×Addr×Value),
  Paired (fun(p:List Key×V) (q:List Key×Addr×Value)=>p.1=q.1/\H q.2.1=some (.tup (p.1.map kV))/\RelV p.2 q.2.2) kvs xs/\
  ∃o es ep,h.get? a=some o/\o.ExactDict/\o.data=.dict es ep/\es.toList=xs.map (entryOfKey (tupleKind (mixKind P w)))/\(xs.map (·.1)).Nodup
 |.set S n=>h.SetOf (intKind P w) a S n
 |.ins C dx fs=>H dx=some (.own a)/\fs.length<=1000/\dx≠a/\h.get? a=some (PySem.W.instObj C dx)/\
  ∃mA,h.Ns1 dx mA/\(∀f,RelO (fs.lookup f) (mA f))/\PySem.Within mA (fs.map (·.1))
 |.own _=>∃o,h.get? a=some o
 |.xd fs=>∃mA,h.Ns1 a mA/\ ∀f,RelO (fs.lookup f) (mA f)
 |.rng lo hi=>∃t u v,h.get? a=some {cls:=.type "range",data:=.fields #[.int lo t,.int hi u,.int 1 v]}
 |.frz o u=>h.get? a=some o/\ObjOk H h a u
 |.tbl ps=>h.get? a=some {cls:=.none,data:=.fields ps}
 |.met f x=>h.get? a=some (PySem.W.methodObj (.ref f) (.ref x))
 |.ext φ=>φ h/\(∃o,h.get? a=some o)/\ ∀h1 h2:Heap,φ h1->(∀o,h1.get? a=some o->h2.get? a=some o)->φ h2
def HOk(H:Hp)(h:Heap):Prop:=∀a o,H a=some o->ObjOk P w H h a o
end
section
variable{P:Program}{w:World}{H H':Hp}{h h':Heap}{a:Addr}{o:HO}
theorem ObjOk.lt(x:ObjOk P w H h a o):a<h.objs.size:=by
 cases o with
 |lst xs=>obtain⟨_,_,_,_,e⟩:=x;exact lt_size e
 |tup xs=>obtain⟨_,_,_,p⟩:=x;exact p.lt
 |dK kvs=>obtain⟨_,_,_,_,o,_,_,e,_⟩:=x;exact lt_size e
 |dT kvs=>obtain⟨_,_,_,_,o,_,_,e,_⟩:=x;exact lt_size e
 |set S n=>obtain⟨o,_,_,_,e,_⟩:=x;exact lt_size e
 |ins C dx fs=>obtain⟨_,_,_,e,_⟩:=x;exact lt_size e
 |own y=>obtain⟨_,e⟩:=x;exact lt_size e
 |xd fs=>obtain⟨_,⟨_,_,_,e,_⟩,_⟩:=x;exact lt_size e
 |rng lo hi=>obtain⟨_,_,_,e⟩:=x;exact lt_size e
 |frz ob u=>obtain⟨e,_⟩:=x;exact lt_size e
 |tbl ps=>exact lt_size (show h.get? a=some _ from x)
 |met f y=>exact lt_size (show h.get? a=some _ from x)
 |ext φ=>obtain⟨_,⟨_,e⟩,_⟩:=x;exact lt_size e
theorem Paired.mapP{α β:Type}{F G:α->β->Prop}:∀{l₁:List α} {l₂:List β},Paired F l₁ l₂->(∀a b,F a b->G a b)->Paired G l₁ l₂
 |_,_,.nil,_=>.nil
 |_,_,.cons r t,f=>.cons (f _ _ r) (Paired.mapP t f)
theorem ObjOk.stay(x:ObjOk P w H h a o)(k:∀b u,(b=a\/H b=some (.own a))->h.get? b=some u->h'.get? b=some u)
 (ho:∀b,H b=some (.own a)->H' b=some (.own a))(ht:∀b xs,H b=some (.tup xs)->H' b=some (.tup xs)):ObjOk P w H' h' a o:=by
 induction o with
 |lst xs=>obtain⟨z,its,n,r,e⟩:=x;exact⟨z,its,n,r,k _ _ (.inl rfl) e⟩
 |tup xs=>obtain⟨z,its,r,ob,e,c⟩:=x;exact⟨z,its,r,ob,k _ _ (.inl rfl) e,c⟩
 |dK kvs=>obtain⟨z,y,vs,r,ob,es,ep,e,c⟩:=x;exact⟨z,y,vs,r,ob,es,ep,k _ _ (.inl rfl) e,c⟩
 |dT kvs=>
  obtain⟨z,y,xs,r,ob,es,ep,e,c⟩:=x
  exact⟨z,y,xs,Paired.mapP r fun p q z=>⟨z.1,ht _ _ z.2.1,z.2.2⟩,ob,es,ep,k _ _ (.inl rfl) e,c⟩
 |set S n=>obtain⟨ob,es,ep,t,e,c⟩:=x;exact⟨ob,es,ep,t,k _ _ (.inl rfl) e,c⟩
 |ins C dx fs=>
  obtain⟨d,z,ne,e,mA,⟨od,es,ep,e2,c⟩,r⟩:=x
  exact⟨ho _ d,z,ne,k _ _ (.inl rfl) e,mA,⟨od,es,ep,k _ _ (.inr d) e2,c⟩,r⟩
 |own y=>obtain⟨ob,e⟩:=x;exact⟨ob,k _ _ (.inl rfl) e⟩
 |xd fs=>obtain⟨mA,⟨od,es,ep,e,c⟩,r⟩:=x;exact⟨mA,⟨od,es,ep,k _ _ (.inl rfl) e,c⟩,r⟩
 |rng lo hi=>obtain⟨t,u,v,e⟩:=x;exact⟨t,u,v,k _ _ (.inl rfl) e⟩
 |frz ob u ih=>obtain⟨e,q⟩:=x;exact⟨k _ _ (.inl rfl) e,ih q⟩
 |tbl ps=>
  have e:h.get? a=some {cls:=.none,data:=.fields ps}:=x
  show h'.get? a=some {cls:=.none,data:=.fields ps}
  exact k a _ (.inl rfl) e
 |met f y=>
  have e:h.get? a=some (PySem.W.methodObj (.ref f) (.ref y)):=x
  show h'.get? a=some (PySem.W.methodObj (.ref f) (.ref y))
  exact k a _ (.inl rfl) e
 |ext φ=>obtain⟨p,⟨o,e⟩,st⟩:=x;exact⟨st _ _ p fun o q=>k _ _ (.inl rfl) q,⟨o,k _ _ (.inl rfl) e⟩,st⟩
theorem HOk.lt(x:HOk P w H h)(e:H a=some o):a<h.objs.size:=(x a o e).lt
theorem HOk.fresh(x:HOk P w H h)(e:h.objs.size<=a):H a=none:=by
 cases q:H a with
 |none=>rfl
 |some u=>exact absurd (Nat.lt_of_lt_of_le (x.lt q) e) (Nat.lt_irrefl _)
theorem HOk.kept(x:HOk P w H h)(k:∀b u,h.get? b=some u->h'.get? b=some u):HOk P w H h':=fun a o e=>
 (x a o e).stay (fun b u _ q=>k b u q) (fun _ q=>q) fun _ _ q=>q
theorem HOk.laid(x:HOk P w H h)(k:∀b u,h.get? b=some u->h'.get? b=some u)(hp:h.objs.size<=a)(new:ObjOk P w (upd H a o) h' a o):HOk P w (upd H a o) h':=fun b u e=>by
 have hn:=x.fresh hp
 by_cases hb:b=a
 . subst hb;rw[upd_same]at e;cases e;exact new
 . rw[upd_ne hb]at e
   exact(x b u e).stay (fun c v _ q=>k c v q) (fun c q=>by rw[upd_ne (ne_of_none q hn)];exact q) fun c xs q=>by rw[upd_ne (ne_of_none q hn)];exact q
end
def Rd(H:Hp)(a:Addr)(u:HO):Prop:=H a=some u\/ ∃o,H a=some (.frz o u)
theorem Rd.ok{P:Program}{w:World}{H:Hp}{h:Heap}{a:Addr}{u:HO}(r:Rd H a u)(x:HOk P w H h):ObjOk P w H h a u:=by
 rcases r with r|⟨o,r⟩
 . exact x a u r
 . obtain⟨_,q⟩:=x a _ r
   exact q
def Mut:Option HO->Prop
 |some (.lst _)=>True
 |some (.dK _)=>True
 |some (.dT _)=>True
 |some (.set _ _)=>True
 |some (.ins _ _ _)=>True
 |some (.ext _)=>True
 |_=>False
section
variable{P:Program}{w:World}{H:Hp}{h h':Heap}{x e:Addr}{o':HO}
theorem HOk.write(ok:HOk P w H h)(mu:Mut (H x))(he:e=x\/H e=some (.own x))(k:∀b u,b≠e->h.get? b=some u->h'.get? b=some u)(heo:∃u,h'.get? e=some u)
 (new:ObjOk P w (upd H x o') h' x o'):HOk P w (upd H x o') h':=fun b u q=>by
 have nown:∀c y,H c=some (.own y)->c≠x:=fun c y r z=>by subst z;rw[r]at mu;exact mu
 have ntup:∀c xs,H c=some (.tup xs)->c≠x:=fun c xs r z=>by subst z;rw[r]at mu;exact mu
 by_cases hb:b=x
 . subst hb;rw[upd_same]at q;cases q;exact new
 . rw[upd_ne hb]at q
   by_cases hbe:b=e
   . have q':H b=some (.own x):=by
      rcases he with z|z
      . exact absurd (hbe.trans z) hb
      . rw[hbe];exact z
     rw[q]at q';cases q'
     obtain⟨v,hv⟩:=heo
     exact⟨v,by rw[hbe];exact hv⟩
   . refine(ok b u q).stay (fun c v hc r=>k c v ?_ r) (fun c r=>by rw[upd_ne (nown c b r)];exact r) fun c xs r=>by rw[upd_ne (ntup c xs r)];exact r
     rcases hc with rfl|hc
     . exact hbe
     . rintro rfl
       rcases he with z|z
       . exact nown c b hc z
       . rw[hc]at z;cases z;exact hb rfl
end
structure Un(fs ex:List Addr)(H H':Hp)(h h':Heap):Prop where
 keep:∀b o,h.get? b=some o->H b=none->b∉fs->b∉ex->h'.get? b=some o
 slot:∀b o,h.get? b=some o->H b=none->b∈fs->b∉ex->∃sl,h'.get? b=some {o with slots:=sl}
 free:∀b o,h.get? b=some o->H b=none->b∉ex->H' b=none
 there:∀b o,h.get? b=some o->b∉ex->∃o',h'.get? b=some o'
 tups:∀b xs,H b=some (.tup xs)->H' b=some (.tup xs)
 frzs:∀b o u,H b=some (.frz o u)->H' b=some (.frz o u)
 tbls:∀b ps,H b=some (.tbl ps)->∃more,H' b=some (.tbl (ps++more))
section
variable{fs fs' ex ex':List Addr}{H H1 H2:Hp}{h h1 h2 h':Heap}{a x e:Addr}{o:HO}
theorem Un.any(u:Un fs ex H H1 h h1){b:Addr}{ob:Obj}(q:h.get? b=some ob)(n:H b=none)(hx:b∉ex):∃sl,h1.get? b=some {ob with slots:=sl}:=by
 by_cases hb:b∈fs
 . exact u.slot b ob q n hb hx
 . exact⟨ob.slots,u.keep b ob q n hb hx⟩
theorem Un.kept(k:∀b u,h.get? b=some u->h'.get? b=some u):Un fs ex H H h h':=
 ⟨fun b ob q _ _ _=>k b ob q,fun b ob q _ _ _=>⟨ob.slots,k b ob q⟩,fun _ _ _ n _=>n,fun b ob q _=>⟨ob,k b ob q⟩,fun _ _ q=>q,fun _ _ _ q=>q,fun _ ps q=>⟨#[],by rw[q];simp⟩⟩
theorem Un.refl:Un fs ex H H h h:=Un.kept fun _ _ q=>q
theorem Un.laid(k:∀b u,h.get? b=some u->h'.get? b=some u)(hp:h.objs.size<=a)(hn:H a=none):Un fs ex H (upd H a o) h h' where
 keep:=fun b u q _ _ _=>k b u q
 slot:=fun b u q _ _ _=>⟨u.slots,k b u q⟩
 free:=fun b u q n _=>by rw[upd_ne (Nat.ne_of_lt (Nat.lt_of_lt_of_le (lt_size q) hp))];exact n
 there:=fun b u q _=>⟨u,k b u q⟩
 tups:=fun b xs q=>by rw[upd_ne (ne_of_none q hn)];exact q
 frzs:=fun b u xs q=>by rw[upd_ne (ne_of_none q hn)];exact q
 tbls:=fun b ps q=>⟨#[],by rw[upd_ne (ne_of_none q hn),q];simp⟩
theorem Un.write(mu:Mut (H x))(he:e=x\/H e=some (.own x))(k:∀b u,b≠e->h.get? b=some u->h'.get? b=some u)(heo:∃u,h'.get? e=some u):Un fs ex H (upd H x o) h h':=by
 have hx:∀b,H b=none->b≠x:=fun b n z=>by subst z;rw[n]at mu;exact mu
 have hb:∀b,H b=none->b≠e:=fun b n z=>by
  subst z
  rcases he with r|r
  . exact hx b n r
  . rw[n]at r;cases r
 have hm:∀b u,H b=some u->¬Mut (some u)->b≠x:=fun b u q nm z=>by subst z;rw[q]at mu;exact nm mu
 refine⟨fun b u q n _ _=>k b u (hb b n) q,fun b u q n _ _=>⟨u.slots,k b u (hb b n) q⟩,fun b u q n _=>by rw[upd_ne (hx b n)];exact n,fun b u q _=>?_,
  fun b xs q=>by rw[upd_ne (hm b _ q fun z=>z)];exact q,fun b u xs q=>by rw[upd_ne (hm b _ q fun z=>z)];exact q,fun b ps q=>⟨#[],by rw[upd_ne (hm b _ q fun z=>z),q];simp⟩⟩
 by_cases hbe:b=e
 . subst hbe;exact heo
 . exact⟨u,k b u hbe q⟩
end
def trk(h:Heap)(H:Hp):List Addr:=(List.range h.objs.size).filter fun a=>(H a).isSome
def hidT(h:Heap)(H:Hp):Heap:=PySem.W.hideAll h (trk h H)
theorem hidT_size(h:Heap)(H:Hp):(hidT h H).objs.size=h.objs.size:=PySem.W.hideAll_size _ _
theorem hidT_get{h:Heap}{H:Hp}{b:Addr}{o:Obj}(e:h.get? b=some o)(n:H b=none):(hidT h H).get? b=some o:=
 PySem.W.hideAll_get _ e fun hm=>by
  have q:(H b).isSome=true:=(mem_filter.mp hm).2
  rw[n]at q;simp at q
theorem of_hidT{h:Heap}{H:Hp}{b:Addr}{o:Obj}(e:(hidT h H).get? b=some o):h.get? b=some o/\H b=none:=by
 have e':h.get? b=some o:=PySem.W.of_hideAll (trk h H) e
 refine⟨e',?_⟩
 cases q:H b with
 |none=>rfl
 |some x=>
  have hm:b∈trk h H:=mem_filter.mpr ⟨List.mem_range.mpr (lt_size e'),by simp[q]⟩
  have z:(hidT h H).get? b=none:=PySem.W.hideAll_none (trk h H) hm
  rw[z]at e;cases e
def allNews(g h:Heap)(L:Addr):List (Addr×Obj):=(List.range h.objs.size).filterMap fun a=>if a=L\/(g.get? a).isSome=true then none else(h.get? a).map fun o=>(a,o)
def rest(g h:Heap)(L d:Addr):List (Addr×Obj):=(allNews g h L).filter fun p=>decide (p.1≠d)
structure Mod(K:PySem.W.Frag)(mg:Str->Option Value)(base:Heap):Prop where
 kin:K.In base
 glob:base.Ns mainGlobals mg
 blt:∃mb,base.Ns builtinsNs mb/\ ∀x:Str,x≠"__name__"->mb x=bootBuiltins x
 nolimit:base.NoLimit
structure Cx where
 prog:Program
 w:World
 K:PySem.W.Frag
 mg:Str->Option Value
 base:Heap
 A:Around
 N:List Str
 s₀:Shared
 H₀:Hp
 env:Env
 outer:List Env
 stack:List Env
 ex:List Addr
 fn:Str->Bool
 calm:Bool
 pn:List (Addr×Obj)
 xe:Value->Shared->Prop
def frs(l:List Env):List Addr:=l.filterMap (·.frame)
abbrev Cx.fs(X:Cx):List Addr:=frs X.outer
def Vis(sc:Scope)(x:Str):Prop:=sc.names.lookup x=some .local\/sc.names.lookup x=some .cell\/sc.names.lookup x=some .free
def Loc(sc:Scope)(x:Str):Prop:=sc.names.lookup x=some .local\/sc.names.lookup x=some .cell
def Look(env:Env)(h:Heap)(m:Str->Option Value)(x:Str)(u:Value):Prop:=
 (env.kindOf x=some .local/\m x=some u)\/((env.kindOf x=some .cell\/env.kindOf x=some .free)/\ ∃c,env.cells.lookup x=some c/\h.IsCell c (some u))
structure Cx.Ok(X:Cx):Prop where
 mod:Mod X.K X.mg X.base
 kind:X.env.scope.kind=.function
 glob:X.env.globals=mainGlobals
 blt:X.env.builtins=builtinsNs
 above:X.s₀.heap.objs.size<=X.env.locals
 inj:∀x y c,X.env.cells.lookup x=some c->X.env.cells.lookup y=some c->x=y
 has:∀x,(X.env.kindOf x=some .cell\/X.env.kindOf x=some .free)->∃c,X.env.cells.lookup x=some c
 cab:∀x c,X.fn x=true->X.env.cells.lookup x=some c->X.s₀.heap.objs.size<=c
 hd:X.calm=true->X.A.handled=none
 frames:X.A.frames=some X.stack
 stk:X.stack=X.outer\/(X.stack=X.env::X.outer/\X.env.frame=some X.env.locals)
 exf:∀b∈X.ex,b≠X.env.locals/\ ∀x c,X.env.cells.lookup x=some c->c≠b
 bs:∀b o,X.base.get? b=some o->X.s₀.heap.get? b=some o/\X.H₀ b=none
 bsz:X.base.objs.size<=X.s₀.heap.objs.size
 noex:∀b o,X.base.get? b=some o->b∉X.ex
 exfs:∀b∈X.ex,b∉X.fs
 funs:X.s₀.heap.FunFrames X.base X.outer
 frf:∀b∈X.fs,X.H₀ b=none
structure Inv(X:Cx)(pins:List (Addr×Obj))(σ:List (Option V))(H:Hp)(s:Shared):Prop where
 ok:X.Ok
 os:s.os=X.s₀.os
 bare:AllBare s.gens
 base:Un X.fs X.ex X.H₀ H X.s₀.heap s.heap
 loc:∃m,s.heap.Ns X.env.locals m/\ ∀(i:Nat) (x:Str) (v:V),X.N[i]? =some x->σ[i]? =some (some v)->Vis X.env.scope x->∃u,RelV v u/\Look X.env s.heap m x u
 cell:∀x c,X.env.cells.lookup x=some c->∃v,s.heap.IsCell c v
 free:H X.env.locals=none
 freeC:∀x c,X.env.cells.lookup x=some c->H c=none
 pin:∀p∈X.pn++pins,s.heap.get? p.1=some p.2/\H p.1=none/\p.1≠X.env.locals/\p.1∉X.fs/\ ∀v,p.2.data≠ .cell v
 hok:HOk X.prog X.w H s.heap
 len:σ.length=X.N.length
section
variable{X:Cx}{pins:List (Addr×Obj)}{σ:List (Option V)}{H H':Hp}{s:Shared}{h':Heap}
theorem Cx.Ok.nofr(ok:X.Ok){b:Addr}{o:Obj}(e:X.base.get? b=some o):b∉X.fs:=fun hb=>by
 have:=(ok.funs.mem hb).1
 rw[e]at this;cases this
theorem Inv.bs(I:Inv X pins σ H s):∀b o,X.base.get? b=some o->s.heap.get? b=some o/\H b=none:=fun b o e=>
 ⟨I.base.keep b o (I.ok.bs b o e).1 (I.ok.bs b o e).2 (I.ok.nofr e) (I.ok.noex b o e),I.base.free b o (I.ok.bs b o e).1 (I.ok.bs b o e).2 (I.ok.noex b o e)⟩
theorem Inv.bk(I:Inv X pins σ H s):∀b o,X.base.get? b=some o->s.heap.get? b=some o:=fun b o e=>(I.bs b o e).1
theorem Inv.mod(I:Inv X pins σ H s):Mod X.K X.mg X.base:=I.ok.mod
theorem Inv.kIn(I:Inv X pins σ H s):X.K.In s.heap:=I.ok.mod.kin.keeps I.bk
theorem Inv.nolimit(I:Inv X pins σ H s):s.heap.NoLimit:=I.ok.mod.nolimit.keeps I.bk
theorem Inv.lt(I:Inv X pins σ H s):X.env.locals<s.heap.objs.size:=let⟨_,hn,_⟩:=I.loc;hn.lt
theorem Inv.sz(I:Inv X pins σ H s):X.s₀.heap.objs.size<=s.heap.objs.size:=Nat.le_trans I.ok.above (Nat.le_of_lt I.lt)
theorem Inv.nofs(I:Inv X pins σ H s){a:Addr}(h:s.heap.objs.size<=a):a∉X.fs:=fun hb=>by
 obtain⟨_,o,ho,_⟩:=I.ok.funs.mem hb
 exact absurd (Nat.lt_of_lt_of_le (lt_size ho) (Nat.le_trans I.sz h)) (Nat.lt_irrefl _)
theorem Inv.cne(I:Inv X pins σ H s):∀x c,X.env.cells.lookup x=some c->c≠X.env.locals:=fun x c e z=>by
 obtain⟨v,o,ho,hd⟩:=I.cell x c e
 obtain⟨m,⟨o',es,ep,ho',hd',_⟩,_⟩:=I.loc
 rw[z,ho']at ho;cases ho;rw[hd']at hd;cases hd
theorem Inv.funs(I:Inv X pins σ H s):s.heap.FunFrames X.base X.outer:=by
 have all:∀(l:List Env),(∀b∈frs l,b∈X.fs)->X.s₀.heap.FunFrames X.base l->s.heap.FunFrames X.base l:=by
  intro l
  induction l with
  |nil=>intro _ _;trivial
  |cons env r ih=>
   intro hs hl
   obtain⟨hk,⟨L,o,hf,hn,ho,hd⟩,hr⟩:=hl
   have hL:L∈X.fs:=hs L (by unfold frs;rw[List.filterMap_cons,hf];exact mem_cons_self)
   obtain⟨sl,e⟩:=I.base.slot L o ho (I.ok.frf L hL) hL fun z=>I.ok.exfs L z hL
   exact⟨hk,⟨L,_,hf,hn,e,hd⟩,ih (fun b hb=>hs b (by unfold frs;rw[List.filterMap_cons,hf];exact mem_cons_of_mem _ hb)) hr⟩
 exact all X.outer (fun _ hb=>hb) I.ok.funs
theorem Inv.stack(I:Inv X pins σ H s):s.heap.FunFrames X.base X.stack:=by
 rcases I.ok.stk with e|⟨e,hf⟩
 . rw[e];exact I.funs
 . rw[e]
   obtain⟨m,hn,_⟩:=I.loc
   refine .cons (by rw[I.ok.kind];decide) hf hn ?_ I.funs
   exact Heap.get?_none_of_le (Nat.le_trans I.ok.bsz I.ok.above)
theorem Inv.stkSub(I:Inv X pins σ H s):∀b∈frs X.stack,b∈X.env.locals::X.fs:=fun b hb=>by
 rcases I.ok.stk with e|⟨e,hf⟩
 . rw[e]at hb;exact mem_cons_of_mem _ hb
 . rw[e]at hb
   unfold frs at hb
   rw[List.filterMap_cons,hf]at hb
   exact hb
theorem Inv.stkFree(I:Inv X pins σ H s):∀b∈frs X.stack,H b=none:=fun b hb=>by
 rcases mem_cons.mp (I.stkSub b hb)with e|hb
 . rw[e];exact I.free
 . obtain⟨_,o,ho,_⟩:=I.ok.funs.mem hb
   exact I.base.free b o ho (I.ok.frf b hb) fun z=>I.ok.exfs b z hb
theorem Inv.step{g':Array GenState}{t':Nat}{d':Drawn}{ch:List Addr}(I:Inv X pins σ H s)
 (hch:∀b∈ch,(b∈X.ex\/X.s₀.heap.get? b=none)/\b≠X.env.locals/\(∀x c,X.env.cells.lookup x=some c->c≠b)/\ ∀p∈X.pn++pins,p.1≠b)
 (keep:∀b o,b≠X.env.locals->b∉X.fs->b∉ch->s.heap.get? b=some o->H b=none->h'.get? b=some o)
 (slot:∀b o,b≠X.env.locals->b∈X.fs->b∉ch->s.heap.get? b=some o->H b=none->∃sl,h'.get? b=some {o with slots:=sl})(free:∀b o,b∉ch->s.heap.get? b=some o->H b=none->H' b=none)
 (there:∀b o,b∉ch->s.heap.get? b=some o->∃o',h'.get? b=some o')
 (tups:∀b xs,H b=some (.tup xs)->H' b=some (.tup xs))(frzs:∀b o u,H b=some (.frz o u)->H' b=some (.frz o u))(tbls:∀b ps,H b=some (.tbl ps)->∃more,H' b=some (.tbl (ps++more)))
 (ns:∀m,s.heap.Ns X.env.locals m->h'.Ns X.env.locals m)(hok:HOk X.prog X.w H' h')(hg:AllBare g'):
 Inv X pins σ H' {s with heap:=h',gens:=g',drawn:=d',toks:=t'}:=by
 have neL:∀b o,X.s₀.heap.get? b=some o->b≠X.env.locals:=fun b o e=>Nat.ne_of_lt (Nat.lt_of_lt_of_le (lt_size e) I.ok.above)
 have neC:∀b o,X.s₀.heap.get? b=some o->b∉X.ex->b∉ch:=fun b o e hx hb=>by
  rcases(hch b hb).1 with z|z
  . exact hx z
  . rw[z]at e;cases e
 have cellK:∀x c,X.env.cells.lookup x=some c->∀v,s.heap.IsCell c v->h'.IsCell c v:=fun x c e v ⟨o,ho,hd⟩=>by
  have nch:c∉ch:=fun z=>(hch c z).2.2.1 x c e rfl
  by_cases hc:c∈X.fs
  . obtain⟨sl,q⟩:=slot c o (I.cne x c e) hc nch ho (I.freeC x c e)
    exact⟨_,q,hd⟩
  . exact⟨o,keep c o (I.cne x c e) hc nch ho (I.freeC x c e),hd⟩
 refine⟨I.ok,I.os,hg,⟨fun b o e n hb hx=>?_,fun b o e n hb hx=>?_,fun b o e n hx=>?_,fun b o e hx=>?_,fun b xs e=>tups b xs (I.base.tups b xs e),fun b o xs e=>frzs b o xs (I.base.frzs b o xs e),fun b ps e=>?_⟩,?_,fun x c e=>?_,?_,fun x c e=>?_,fun p hp=>?_,hok,I.len⟩
 . exact keep b o (neL b o e) hb (neC b o e hx) (I.base.keep b o e n hb hx) (I.base.free b o e n hx)
 . obtain⟨sl,e1⟩:=I.base.slot b o e n hb hx
   obtain⟨sl',e2⟩:=slot b _ (neL b o e) hb (neC b o e hx) e1 (I.base.free b o e n hx)
   exact⟨sl',e2⟩
 . obtain⟨o',e1⟩:=I.base.there b o e hx
   exact free b o' (neC b o e hx) e1 (I.base.free b o e n hx)
 . obtain⟨o',e1⟩:=I.base.there b o e hx
   exact there b o' (neC b o e hx) e1
 . obtain⟨m1,e1⟩:=I.base.tbls b ps e
   obtain⟨m2,e2⟩:=tbls b _ e1
   exact⟨m1++m2,by rw[e2,Array.append_assoc]⟩
 . obtain⟨m,hn,hl⟩:=I.loc
   refine⟨m,ns m hn,fun i x v e1 e2 e3=>?_⟩
   obtain⟨u,r,l⟩:=hl i x v e1 e2 e3
   refine⟨u,r,?_⟩
   rcases l with l|⟨k,c,e,z⟩
   . exact .inl l
   . exact .inr ⟨k,c,e,cellK x c e _ z⟩
 . obtain⟨v,z⟩:=I.cell x c e
   exact⟨v,cellK x c e v z⟩
 . obtain⟨m,⟨o,_,_,ho,_⟩,_⟩:=I.loc
   exact free _ o (fun z=>(hch _ z).2.1 rfl) ho I.free
 . obtain⟨v,o,ho,hd⟩:=I.cell x c e
   exact free c o (fun z=>(hch c z).2.2.1 x c e rfl) ho (I.freeC x c e)
 . obtain⟨e,n,ne,nf,d⟩:=I.pin p hp
   have nch:p.1∉ch:=fun z=>(hch p.1 z).2.2.2 p hp rfl
   exact⟨keep p.1 p.2 ne nf nch e n,free p.1 p.2 nch e n,ne,nf,d⟩
theorem Inv.un{t':Nat}(I:Inv X pins σ H s)(u:Un X.fs [] H H' s.heap h')(hok:HOk X.prog X.w H' h'):Inv X pins σ H' {s with heap:=h',toks:=t'}:=by
 obtain⟨m,⟨o,es,ep,ho,r⟩,_⟩:=id I.loc
 obtain⟨sl,hL⟩:=u.any ho I.free (by simp)
 exact I.step (g':=s.gens) (d':=s.drawn) (ch:=[]) (fun _ z=>nomatch z) (fun b o _ hb _ e n=>u.keep b o e n hb (by simp)) (fun b o _ hb _ e n=>u.slot b o e n hb (by simp)) (fun b o _ e n=>u.free b o e n (by simp)) (fun b o _ e=>u.there b o e (by simp)) u.tups u.frzs u.tbls (fun m' hm=>by
  obtain⟨o',es',ep',ho',r'⟩:=hm
  rw[ho]at ho';cases ho'
  exact⟨_,es',ep',hL,r'⟩) hok I.bare
theorem Inv.call{g':Array GenState}{t':Nat}{d':Drawn}{ch:List Addr}(I:Inv X pins σ H s)(u:Un (frs X.stack) ch H H' s.heap h')(hok:HOk X.prog X.w H' h')(hg:AllBare g')
 (hch:∀b∈ch,(b∈X.ex\/X.s₀.heap.get? b=none)/\b≠X.env.locals/\(∀x c,X.env.cells.lookup x=some c->c≠b)/\ ∀p∈X.pn++pins,p.1≠b):
 Inv X pins σ H' {s with heap:=h',gens:=g',drawn:=d',toks:=t'}:=by
 obtain⟨m,⟨o,es,ep,ho,r⟩,_⟩:=id I.loc
 obtain⟨sl,hL⟩:=u.any ho I.free fun z=>(hch _ z).2.1 rfl
 exact I.step (ch:=ch) hch (fun b o hL hb hc e n=>u.keep b o e n (fun z=>(mem_cons.mp (I.stkSub b z)).elim hL hb) hc) (fun b o _ _ hc e n=>u.any e n hc) (fun b o hc e n=>u.free b o e n hc) (fun b o hc e=>u.there b o e hc) u.tups u.frzs u.tbls (fun m' hm=>by
  obtain⟨o',es',ep',ho',r'⟩:=hm
  rw[ho]at ho';cases ho'
  exact⟨_,es',ep',hL,r'⟩) hok hg
theorem Inv.turned{t':Nat}{it:Addr}(I:Inv X pins σ H s)(k:∀b o,b≠it->s.heap.get? b=some o->h'.get? b=some o)(hn:H it=none)(hL:it≠X.env.locals)
 (h1:it∈X.ex\/X.s₀.heap.get? it=none)(h2:∀x c,X.env.cells.lookup x=some c->c≠it)(h3:∀p∈X.pn++pins,p.1≠it):Inv X pins σ H {s with heap:=h',toks:=t'}:=by
 have nit:∀b u,H b=some u->b≠it:=fun b u e z=>by rw[z,hn]at e;cases e
 refine I.step (g':=s.gens) (d':=s.drawn) (ch:=[it]) (fun b hb=>?_) (fun b o _ _ hc e _=>k b o (fun z=>hc (by simp[z])) e) (fun b o _ _ hc e _=>⟨o.slots,k b o (fun z=>hc (by simp[z])) e⟩) (fun _ _ _ _ n=>n)
  (fun b o hc e=>⟨o,k b o (fun z=>hc (by simp[z])) e⟩) (fun _ _ e=>e) (fun _ _ _ e=>e) (fun b ps e=>⟨#[],by rw[e];simp⟩) (fun m hm=>?_) (fun b u e=>?_) I.bare
 . have e:b=it:=by simpa using hb
   subst e
   exact⟨h1,hL,h2,h3⟩
 . obtain⟨o,es,ep,ho,r⟩:=hm
   exact⟨o,es,ep,k _ o (Ne.symm hL) ho,r⟩
 . refine(I.hok b u e).stay (fun c v hc q=>k c v ?_ q) (fun _ q=>q) fun _ _ q=>q
   rcases hc with z|z
   . rw[z];exact nit b u e
   . exact nit c _ z
theorem Inv.tok(I:Inv X pins σ H s)(t:Nat):Inv X pins σ H {s with toks:=t}:=I.un (h':=s.heap) (t':=t) Un.refl I.hok
theorem Inv.kept{t':Nat}(I:Inv X pins σ H s)(k:∀b u,s.heap.get? b=some u->h'.get? b=some u):Inv X pins σ H {s with heap:=h',toks:=t'}:=I.un (Un.kept k) (I.hok.kept k)
theorem Inv.laid{a:Addr}{o:HO}{t':Nat}(I:Inv X pins σ H s)(k:∀b u,s.heap.get? b=some u->h'.get? b=some u)(hp:s.heap.objs.size<=a)(new:ObjOk X.prog X.w (upd H a o) h' a o):
 Inv X pins σ (upd H a o) {s with heap:=h',toks:=t'}:=I.un (Un.laid k hp (I.hok.fresh hp)) (I.hok.laid k hp new)
theorem Inv.write{x e:Addr}{o:HO}{t':Nat}(I:Inv X pins σ H s)(mu:Mut (H x))(he:e=x\/H e=some (.own x))(k:∀b u,b≠e->s.heap.get? b=some u->h'.get? b=some u)(heo:∃u,h'.get? e=some u)
 (new:ObjOk X.prog X.w (upd H x o) h' x o):Inv X pins σ (upd H x o) {s with heap:=h',toks:=t'}:=I.un (Un.write mu he k heo) (I.hok.write mu he k heo new)
theorem Inv.pins_of{pins':List (Addr×Obj)}(I:Inv X pins σ H s)(h:∀p∈pins',s.heap.get? p.1=some p.2/\H p.1=none/\p.1≠X.env.locals/\p.1∉X.fs/\ ∀v,p.2.data≠ .cell v):Inv X pins' σ H s:=
 ⟨I.ok,I.os,I.bare,I.base,I.loc,I.cell,I.free,I.freeC,fun p hp=>(mem_append.mp hp).elim (fun z=>I.pin p (List.mem_append_left _ z)) (h p),I.hok,I.len⟩
theorem nodup_ix{N:List Str}(hN:N.Nodup){i j:Nat}{x:Str}(a:N[i]? =some x)(b:N[j]? =some x):i=j:=by
 obtain⟨h1,e1⟩:=List.getElem?_eq_some_iff.mp a
 obtain⟨h2,e2⟩:=List.getElem?_eq_some_iff.mp b
 exact(List.getElem_inj hN).mp (e1.trans e2.symm)
theorem store_ok2{M:Model}{A:Around}{E:Value->Shared->Prop}{i:Nat}{x:Str}{v:V}{u:Value}{Q:Unit->Shared->Prop}(I:Inv X pins σ H s)(hN:X.N.Nodup)(hi:X.N[i]? =some x)(hx:Loc X.env.scope x)(r:RelV v u)
 (h:∀s',Inv X pins (σ.set i (some v)) H s'->(∃a,Heap.SameBut a s.heap s'.heap/\(a=X.env.locals\/X.env.cells.lookup x=some a))->Q () s')(hf:X.fn x=true\/X.env.scope.names.lookup x=some .local:=by first|exact .inl rfl|exact .inr rfl|assumption):wpAny M A (storeName X.env x u) Q E s:=by
 obtain⟨m,hn,hl⟩:=id I.loc
 have hcls:(X.env.scope.kind==.class||(X.env.scope.kind==.module&&X.env.locals !=X.env.globals))=false:=by rw[I.ok.kind];rfl
 have hiσ:i<σ.length:=by rw[I.len];exact(List.getElem?_eq_some_iff.mp hi).1
 have cne:=I.cne
 have tracked:∀{a:Addr} {h':Heap},(∃o,s.heap.get? a=some o/\H a=none)->Heap.SameBut a s.heap h'->HOk X.prog X.w H h':=fun{a h'} ha hs b ob e=>by
  obtain⟨_,_,hfree⟩:=ha
  refine(I.hok b ob e).stay (fun c w' hc q=>(hs.2 c ?_).trans q) (fun _ q=>q) fun _ _ q=>q
  rintro rfl
  rcases hc with rfl|hc
  . rw[hfree]at e;cases e
  . rw[hfree]at hc;cases hc
 rcases hx with hk|hk
 . refine wpAny_storeName_local hk hn (fun h' hn' hs=>?_) hcls
   obtain⟨oL,_,_,hoL,_⟩:=id hn
   refine h _ ⟨I.ok,I.os,I.bare,⟨fun b o e n hb hx=>?_,fun b o e n hb hx=>?_,I.base.free,fun b o e hx=>?_,I.base.tups,I.base.frzs,I.base.tbls⟩,⟨_,hn',fun j y v' e1 e2 e3=>?_⟩,fun y c e=>?_,I.free,I.freeC,fun p hp=>?_,tracked ⟨oL,hoL,I.free⟩ hs,by simpa using I.len⟩ ⟨_,hs,.inl rfl⟩
   . exact(hs.2 b (Nat.ne_of_lt (Nat.lt_of_lt_of_le (lt_size e) I.ok.above))).trans (I.base.keep b o e n hb hx)
   . obtain⟨sl,e1⟩:=I.base.slot b o e n hb hx
     exact⟨sl,(hs.2 b (Nat.ne_of_lt (Nat.lt_of_lt_of_le (lt_size e) I.ok.above))).trans e1⟩
   . obtain⟨o',e1⟩:=I.base.there b o e hx
     exact⟨o',(hs.2 b (Nat.ne_of_lt (Nat.lt_of_lt_of_le (lt_size e) I.ok.above))).trans e1⟩
   . by_cases hj:j=i
     . subst hj
       rw[hi]at e1;cases e1
       rw[List.getElem?_set_self hiσ]at e2
       cases e2
       exact⟨u,r,.inl ⟨hk,by simp⟩⟩
     . rw[List.getElem?_set_ne (Ne.symm hj)]at e2
       obtain⟨u',r',q⟩:=hl j y v' e1 e2 e3
       refine⟨u',r',?_⟩
       rcases q with⟨k,e⟩|⟨k,c,e,z⟩
       . refine .inl ⟨k,?_⟩
         have:y≠x:=fun e=>hj (nodup_ix hN e1 (e▸hi))
         simp[this,e]
       . exact .inr ⟨k,c,e,z.sameBut hs (cne y c e)⟩
   . obtain⟨w',z⟩:=I.cell y c e
     exact⟨w',z.sameBut hs (cne y c e)⟩
   . obtain⟨e,n,ne,nf,d⟩:=I.pin p hp
     exact⟨(hs.2 p.1 ne).trans e,n,ne,nf,d⟩
 . have hfn:X.fn x=true:=by
    rcases hf with z|z
    . exact z
    . rw[z]at hk;cases hk
   obtain⟨c,hc⟩:=I.ok.has x (.inl hk)
   obtain⟨w',z⟩:=I.cell x c hc
   refine wpAny_storeName_cell I.ok.kind hk hc z (fun h' hc' hs=>?_)
   obtain⟨oc,hoc,hocd⟩:=id z
   refine h {s with heap:=h'} ⟨I.ok,I.os,I.bare,⟨fun b o e n hb hx=>?_,fun b o e n hb hx=>?_,I.base.free,fun b o e hx=>?_,I.base.tups,I.base.frzs,I.base.tbls⟩,⟨m,hn.sameBut hs (Ne.symm (cne x c hc)),fun j y v' e1 e2 e3=>?_⟩,fun y c' e=>?_,I.free,I.freeC,fun p hp=>?_,tracked ⟨oc,hoc,I.freeC x c hc⟩ hs,by simpa using I.len⟩ ⟨c,hs,.inr hc⟩
   . exact(hs.2 b (Nat.ne_of_lt (Nat.lt_of_lt_of_le (lt_size e) (I.ok.cab x c hfn hc)))).trans (I.base.keep b o e n hb hx)
   . obtain⟨sl,e1⟩:=I.base.slot b o e n hb hx
     exact⟨sl,(hs.2 b (Nat.ne_of_lt (Nat.lt_of_lt_of_le (lt_size e) (I.ok.cab x c hfn hc)))).trans e1⟩
   . obtain⟨o',e1⟩:=I.base.there b o e hx
     exact⟨o',(hs.2 b (Nat.ne_of_lt (Nat.lt_of_lt_of_le (lt_size e) (I.ok.cab x c hfn hc)))).trans e1⟩
   . by_cases hj:j=i
     . subst hj
       rw[hi]at e1;cases e1
       rw[List.getElem?_set_self hiσ]at e2
       cases e2
       exact⟨u,r,.inr ⟨.inl hk,c,hc,hc'⟩⟩
     . rw[List.getElem?_set_ne (Ne.symm hj)]at e2
       obtain⟨u',r',q⟩:=hl j y v' e1 e2 e3
       refine⟨u',r',?_⟩
       rcases q with q|⟨k,c',e,z'⟩
       . exact .inl q
       . refine .inr ⟨k,c',e,z'.sameBut hs ?_⟩
         rintro rfl
         exact hj (nodup_ix hN e1 (I.ok.inj _ _ _ e hc▸hi))
   . by_cases hcc:c'=c
     . subst hcc;exact⟨_,hc'⟩
     . obtain⟨w2,z2⟩:=I.cell y c' e
       exact⟨w2,z2.sameBut hs hcc⟩
   . obtain⟨e,n,ne,nf,d⟩:=I.pin p hp
     refine⟨(hs.2 p.1 ?_).trans e,n,ne,nf,d⟩
     intro q
     rw[q,hoc]at e
     have q':oc=p.2:=Option.some.inj e
     exact d w' (by rw[<-q'];exact hocd)
theorem store_ok{M:Model}{A:Around}{E:Value->Shared->Prop}{i:Nat}{x:Str}{v:V}{u:Value}{Q:Unit->Shared->Prop}(I:Inv X pins σ H s)(hN:X.N.Nodup)(hi:X.N[i]? =some x)(hx:Loc X.env.scope x)(r:RelV v u)
 (h:∀s',Inv X pins (σ.set i (some v)) H s'->Q () s')(hf:X.fn x=true\/X.env.scope.names.lookup x=some .local:=by first|exact .inl rfl|exact .inr rfl|assumption):wpAny M A (storeName X.env x u) Q E s:=
 store_ok2 I hN hi hx r (fun s' I' _=>h s' I') hf
theorem Inv.call'{s':Shared}{ch:List Addr}(I:Inv X pins σ H s)(ho:s'.os=s.os)(u:Un (frs X.stack) ch H H' s.heap s'.heap)(hok:HOk X.prog X.w H' s'.heap)(hg:AllBare s'.gens)
 (hch:∀b∈ch,(b∈X.ex\/X.s₀.heap.get? b=none)/\b≠X.env.locals/\(∀x c,X.env.cells.lookup x=some c->c≠b)/\ ∀p∈X.pn++pins,p.1≠b):Inv X pins σ H' s':=by
 obtain⟨h',g',d',t',o'⟩:=s'
 have e:o'=s.os:=ho
 subst e
 exact I.call (g':=g') (t':=t') (d':=d') u hok hg hch
end
abbrev XK:=Value->Option Addr->Hp->Prop
abbrev St:=List (Option V)
abbrev VK:=V->Hp->Prop
abbrev TE:=St->Hp->VK->Prop
abbrev TT:=St->Hp->(Bool->Hp->Prop)->Prop
abbrev TA:=St->Hp->(List V->Hp->Prop)->Prop
structure Ends where
 nx:St->Hp->Prop
 rt:VK
 bk:St->Hp->Prop:=fun _ _=>False
 ct:St->Hp->Prop:=fun _ _=>False
abbrev TS:=Ends->St->Hp->Prop
def EP(X:Cx)(pins:List (Addr×Obj))(σ:St)(Q:VK)(u:Value)(s':Shared):Prop:=∃v H',Inv X pins σ H' s'/\RelV v u/\Q v H'
def TP(X:Cx)(pins:List (Addr×Obj))(σ:St)(Q:Bool->Hp->Prop)(b:Bool)(s':Shared):Prop:=∃H',Inv X pins σ H' s'/\Q b H'
def AP(X:Cx)(pins:List (Addr×Obj))(σ:St)(Q:List V->Hp->Prop)(us:List Value)(s':Shared):Prop:=∃vs H',Inv X pins σ H' s'/\Vals vs us/\Q vs H'
def SP(X:Cx)(pins:List (Addr×Obj))(D:Ends)(f:Flow)(s':Shared):Prop:=
 match f with
 |.next=>∃σ' H',Inv X pins σ' H' s'/\D.nx σ' H'
 |.brk=>∃σ' H',Inv X pins σ' H' s'/\D.bk σ' H'
 |.cont=>∃σ' H',Inv X pins σ' H' s'/\D.ct σ' H'
 |.ret u=>∃v σ' H',Inv X pins σ' H' s'/\RelV v u/\D.rt v H'
def PE(X:Cx)(e:Expr)(t:TE):Prop:=
 ∀(pins:List (Addr×Obj)) (s:Shared) (σ:St) (H:Hp) (Q:VK),Inv X pins σ H s->t σ H Q->wpAny (model X.prog X.w) X.A (eval e X.env) (EP X pins σ Q) X.xe s
def PT(X:Cx)(e:Expr)(t:TT):Prop:=
 ∀(pins:List (Addr×Obj)) (s:Shared) (σ:St) (H:Hp) (Q:Bool->Hp->Prop),Inv X pins σ H s->t σ H Q->wpAny (model X.prog X.w) X.A (isTrue e X.env (eval e X.env)) (TP X pins σ Q) X.xe s
def PW(X:Cx)(e:Expr)(t:TT):Prop:=
 ∀(whole:Sem Value) (pins:List (Addr×Obj)) (s:Shared) (σ:St) (H:Hp) (Q:Bool->Hp->Prop),Inv X pins σ H s->t σ H Q->wpAny (model X.prog X.w) X.A (isTrue e X.env whole) (TP X pins σ Q) X.xe s
theorem PW.pt{X:Cx}{e:Expr}{t:TT}(h:PW X e t):PT X e t:=h _
def PA(X:Cx)(es:List Expr)(t:TA):Prop:=
 ∀(pos:Pos) (pins:List (Addr×Obj)) (s:Shared) (σ:St) (H:Hp) (Q:List V->Hp->Prop),Inv X pins σ H s->t σ H Q->wpAny (model X.prog X.w) X.A (spliced (backTo pos (starEach es X.env))) (AP X pins σ Q) X.xe s
def PS(X:Cx)(st:Stmt)(t:TS):Prop:=
 ∀(pins:List (Addr×Obj)) (s:Shared) (σ:St) (H:Hp) (D:Ends),Inv X pins σ H s->t D σ H->wpAny (model X.prog X.w) X.A (exec st X.env) (SP X pins D) X.xe s
def PSs(X:Cx)(st:List Stmt)(t:TS):Prop:=
 ∀(pins:List (Addr×Obj)) (s:Shared) (σ:St) (H:Hp) (D:Ends),Inv X pins σ H s->t D σ H->wpAny (model X.prog X.w) X.A (execs st X.env) (SP X pins D) X.xe s
theorem thn{α:Type}{t:Sem α}{Q Q':α->Shared->Prop}{M:Model}{A:Around}{E:Value->Shared->Prop}{s:Shared}(h:wpAny M A t Q E s)(hQ:∀a s,Q a s->Q' a s):wpAny M A t Q' E s:=wpAny_mono h hQ fun _ _ x=>x
section
variable{X:Cx}
def tVar(i:Nat):TE:=fun σ H Q=>∃v,σ[i]? =some (some v)/\Q v H
def tC(v:V):TE:=fun _ H Q=>Q v H
theorem pe_var{i:Nat}{x:Str}{pos:Pos}(hN:X.N[i]? =some x)(hv:Vis X.env.scope x)(hd:(x==("__debug__":Str))=false:=by decide)(hcd:(x==("__classdict__":Str))=false:=by decide):PE X (.Name x pos) (tVar i):=by
 intro pins s σ H Q I h
 obtain⟨v,e,h⟩:=h
 obtain⟨m,hn,hl⟩:=I.loc
 obtain⟨u,r,l⟩:=hl i x v hN e hv
 have fin:EP X pins σ Q u s:=⟨v,H,I,r,h⟩
 rcases l with⟨hk,hm⟩|⟨hk,c,hc,hcell⟩
 . exact wpAny_Name (wpAny_loadName_local I.ok.kind hk hn hm fin) hd
 . rcases hk with hk|hk
   . exact wpAny_Name (wpAny_loadName_cell I.ok.kind hk hc hcell fin) hd
   . exact wpAny_Name (wpAny_loadName_free I.ok.kind hk hc hcell fin hcd) hd
theorem pe_int{i j pos}:PE X (.Constant (.int i) j pos) (tC (.int i)):=fun _ _ _ H _ I h=>wpAny_Constant_int ⟨.int i,H,I.tok _,⟨_,rfl⟩,h⟩
theorem pe_bl{b j pos}:PE X (.Constant (.bool b) j pos) (tC (.bl b)):=fun _ _ _ H _ I h=>Constant_bool ⟨.bl b,H,I,rfl,h⟩
theorem pe_str{x j pos}:PE X (.Constant (.str x) j pos) (tC (.str x)):=fun _ _ _ H _ I h=>Calls.Constant_str ⟨.str x,H,I.tok _,⟨_,rfl⟩,h⟩
def Gl(X:Cx)(x:Str):Prop:=X.env.kindOf x=some .globalImplicit
theorem ld_glob{E:Value->Shared->Prop}{pins:List (Addr×Obj)}{s:Shared}{σ:St}{H:Hp}{x:Str}{u:Value}{pos:Pos}{Q:Value->Shared->Prop}(I:Inv X pins σ H s)(hg:Gl X x)(hm:X.mg x=some u)(h:Q u s)
 (hd:(x==("__debug__":Str))=false:=by decide):wpAny (model X.prog X.w) X.A (eval (.Name x pos) X.env) Q E s:=
 Calls.Name_function_global I.ok.kind hg (Calls.loadGlobal_global (by rw[I.ok.glob];exact I.mod.glob.keeps I.bk) hm h) hd
theorem ld_blt{E:Value->Shared->Prop}{pins:List (Addr×Obj)}{s:Shared}{σ:St}{H:Hp}{x:Str}{u:Value}{pos:Pos}{Q:Value->Shared->Prop}(I:Inv X pins σ H s)(hg:Gl X x)(hm:X.mg x=none)(hv:bootBuiltins x=some u)(h:Q u s)
 (hn:x≠"__name__":=by decide)(hd:(x==("__debug__":Str))=false:=by decide):wpAny (model X.prog X.w) X.A (eval (.Name x pos) X.env) Q E s:=by
 obtain⟨mb,h1,h2⟩:=I.mod.blt
 exact Calls.Name_function_global I.ok.kind hg (Calls.loadGlobal_builtin (by rw[I.ok.glob];exact I.mod.glob.keeps I.bk) hm (by rw[I.ok.blt];exact h1.keeps I.bk) ((h2 x hn).trans hv) h) hd
theorem pe_glob{x:Str}{v:V}{u:Value}{pos:Pos}(hg:Gl X x)(hm:X.mg x=some u)(r:RelV v u)(hd:(x==("__debug__":Str))=false:=by decide):PE X (.Name x pos) (tC v):=
 fun _ _ _ H _ I h=>ld_glob I hg hm ⟨v,H,I,r,h⟩ hd
theorem pe_bltn{x:Str}{v:V}{u:Value}{pos:Pos}(hg:Gl X x)(hm:X.mg x=none)(hv:bootBuiltins x=some u)(r:RelV v u)(hn:x≠"__name__":=by decide)(hd:(x==("__debug__":Str))=false:=by decide):PE X (.Name x pos) (tC v):=
 fun _ _ _ H _ I h=>ld_blt I hg hm hv ⟨v,H,I,r,h⟩ hn hd
variable{a b:Expr}{ta tb:TE}{pos:Pos}
def PC(X:Cx)(op:CmpOp)(a b:Expr)(t:TE):Prop:=
 ∀(pins:List (Addr×Obj)) (s:Shared) (σ:St) (H:Hp) (Q:VK),Inv X pins σ H s->t σ H Q->
  wpAny (model X.prog X.w) X.A (eval a X.env) (fun v s₁=>wpAny (model X.prog X.w) X.A (eval b X.env) (fun u s₂=>wpAny (model X.prog X.w) X.A (compareOp op v u) (EP X pins σ Q) X.xe s₂) X.xe s₁) X.xe s
theorem nobehind(b:Expr){op:CmpOp}(h:op≠ .In)(h2:op≠ .NotIn):behindInMarks op b=false:=by
 have e1:(op==CmpOp.In)=false:=by cases op<;>first|rfl|exact absurd rfl h
 have e2:(op==CmpOp.NotIn)=false:=by cases op<;>first|rfl|exact absurd rfl h2
 cases b<;>simp[behindInMarks,e1,e2]
def tB(t:TE):TT:=fun σ H Q=>t σ H fun x H1=>∃c,x=.bl c/\Q c H1
theorem pe_cmp{op:CmpOp}{t:TE}(h:PC X op a b t)(h1:behindInMarks op b=false:=by first|exact nobehind _ (by decide) (by decide)|rfl):PE X (.Compare a [op] [b] pos) t:=fun pins s σ H Q I hw=>wpAny_Compare1 (h pins s σ H Q I hw) h1
theorem pt_cmp{op:CmpOp}{t:TE}(h:PC X op a b t)(h1:behindInMarks op b=false:=by first|exact nobehind _ (by decide) (by decide)|rfl):PT X (.Compare a [op] [b] pos) (tB t):=by
 intro pins s σ H Q I hw
 refine wpAny_isTrue_Compare1 (thn (h pins s σ H _ I hw) fun v s1 h1=>thn h1 fun u s2 h2=>thn h2 fun c s3 ⟨x,H1,I1,r1,q1⟩=>?_) h1
 obtain⟨d,rfl,q⟩:=q1
 cases r1
 exact wpAny_truthy_bool ⟨H1,I1,q⟩
theorem pt_val{e:Expr}{t:TE}(h:PE X e t)(he:∀whole,isTrue e X.env whole=(do let v<-whole;standAt e.pos;holding [v] (truthy v)):=by intro _;rfl):PT X e (tB t):=by
 intro pins s σ H Q I hw
 refine isTrue_plain (thn (h pins s σ H _ I hw) fun v s1 ⟨x,H1,I1,r1,q1⟩=>?_) (he _)
 obtain⟨d,rfl,q⟩:=q1
 cases r1
 exact wpAny_truthy_bool ⟨H1,I1,q⟩
variable{tA tB':TT}{rest:List Expr}
def tAnd(t u:TT):TT:=fun σ H Q=>t σ H fun c H1=>if c=true then u σ H1 Q else Q false H1
def tOr(t u:TT):TT:=fun σ H Q=>t σ H fun c H1=>if c=true then Q true H1 else u σ H1 Q
def tNot(t:TT):TT:=fun σ H Q=>t σ H fun c H1=>Q (!c) H1
theorem pw_and1(ha:PT X a tA):PW X (.BoolOp .And [a] pos) tA:=by
 intro wh pins s σ H Q I h
 refine isTrue_and (thn (ha pins s σ H Q I h) fun c s1 e=>?_)
 cases c with
 |true=>exact isTrue_and_nil e
 |false=>exact e
theorem pw_or1(ha:PT X a tA):PW X (.BoolOp .Or [a] pos) tA:=by
 intro wh pins s σ H Q I h
 refine isTrue_or (thn (ha pins s σ H Q I h) fun c s1 e=>?_)
 cases c with
 |false=>exact isTrue_or_nil e
 |true=>exact e
theorem pw_and(ha:PT X a tA)(hb:PW X (.BoolOp .And (b::rest) pos) tB'):PW X (.BoolOp .And (a::b::rest) pos) (tAnd tA tB'):=by
 intro wh pins s σ H Q I h
 refine isTrue_and (thn (ha pins s σ H _ I h) fun c s1 ⟨H1,I1,q1⟩=>?_)
 cases c with
 |true=>exact hb wh pins s1 σ H1 Q I1 q1
 |false=>exact⟨H1,I1,q1⟩
theorem pw_or(ha:PT X a tA)(hb:PW X (.BoolOp .Or (b::rest) pos) tB'):PW X (.BoolOp .Or (a::b::rest) pos) (tOr tA tB'):=by
 intro wh pins s σ H Q I h
 refine isTrue_or (thn (ha pins s σ H _ I h) fun c s1 ⟨H1,I1,q1⟩=>?_)
 cases c with
 |true=>exact⟨H1,I1,q1⟩
 |false=>exact hb wh pins s1 σ H1 Q I1 q1
theorem pt_not(ha:PT X a tA):PT X (.UnaryOp .Not a pos) (tNot tA):=by
 intro pins s σ H Q I h
 exact isTrue_not (ha pins s σ H (fun c H1=>Q (!c) H1) I h)
def tIf(t:TT)(ta tb:TE):TE:=fun σ H Q=>t σ H fun c H1=>if c=true then ta σ H1 Q else tb σ H1 Q
theorem pe_ifExp{c:Expr}(hc:PT X c tA)(ha:PE X a ta)(hb:PE X b tb):PE X (.IfExp c a b pos) (tIf tA ta tb):=by
 intro pins s σ H Q I h
 refine wpAny_IfExp (thn (hc pins s σ H _ I h) fun d s1 ⟨H1,I1,q1⟩=>?_)
 cases d with
 |true=>exact ha pins s1 σ H1 Q I1 q1
 |false=>exact hb pins s1 σ H1 Q I1 q1
end
def SqL(K:PySem.W.Frag)(H:Hp)(a:Addr)(xs:List V):Prop:=
 Rd H a (.lst xs)\/
  ∃(o:Obj) (its:Array Value) (n:Nat),K.lookup a=some o/\o.cls=.type "list"/\o.dict=none/\o.data=.seq its n/\its.size<=sizeLine/\Vals xs its.toList
def SqT(K:PySem.W.Frag)(H:Hp)(a:Addr)(xs:List V):Prop:=
 Rd H a (.tup xs)\/
  ∃(o:Obj) (its:Array Value) (n:Nat),K.lookup a=some o/\o.cls=.type "tuple"/\o.data=.seq its n/\its.size<=sizeLine/\Vals xs its.toList
def absV:Value->Option V
 |.none=>some .non
 |.bool b=>some (.bl b)
 |.int i _=>some (.int i)
 |.str x _=>some (.str x)
 |.bytes b _=>some (.byt b)
 |.float b _=>some (.flt b)
 |.ref a=>some (.ref a)
 |.type n=>some (.ty n)
 |_=>none
theorem RelV.abs{x:V}{u:Value}(r:RelV x u):absV u=some x:=by
 cases x with
 |non=>cases r;rfl
 |bl _=>cases r;rfl
 |int _=>obtain⟨t,rfl⟩:=r;rfl
 |str _=>obtain⟨t,rfl⟩:=r;rfl
 |byt _=>obtain⟨t,rfl⟩:=r;rfl
 |flt _=>obtain⟨t,rfl⟩:=r;rfl
 |ref _=>cases r;rfl
 |ty _=>cases r;rfl
theorem RelV.inj{x y:V}{u:Value}(r:RelV x u)(q:RelV y u):x=y:=Option.some.inj (r.abs.symm.trans q.abs)
theorem Vals.inj:∀{xs ys:List V} {us:List Value},Vals xs us->Vals ys us->xs=ys
 |_,_,_,.nil,.nil=>rfl
 |_,_,_,.cons r t,.cons r' t'=>by rw[r.inj r',Vals.inj t t']
section
variable{X:Cx}{pins:List (Addr×Obj)}{σ:St}{H:Hp}{s:Shared}{a:Addr}{xs ys:List V}
theorem SqL.of{K:PySem.W.Frag}(h:H a=some (.lst xs)):SqL K H a xs:=.inl (.inl h)
theorem Inv.list(I:Inv X pins σ H s)(h:SqL X.K H a xs):∃its:List Value,Vals xs its/\PlainL s.heap a its.toArray/\xs.length<=sizeLine:=by
 rcases h with h|⟨o,its,n,hk,hc,hd,hs,hz,r⟩
 . obtain⟨z,its,n,r,e⟩:=h.ok I.hok
   exact⟨its,r,⟨_,n,e,rfl,rfl,rfl⟩,z⟩
 . refine⟨its.toList,r,⟨o,n,I.kIn a o hk,hc,hd,by simpa using hs⟩,?_⟩
   have e:=r.length
   simp only[Array.length_toList]at e
   omega
theorem Inv.tuple(I:Inv X pins σ H s)(h:SqT X.K H a xs):∃its:List Value,Vals xs its/\IsTup s.heap a its.toArray/\xs.length<=sizeLine:=by
 rcases h with h|⟨o,its,n,hk,hc,hs,hz,r⟩
 . obtain⟨z,its,r,p⟩:=h.ok I.hok
   exact⟨its,r,p,z⟩
 . refine⟨its.toList,r,⟨o,I.kIn a o hk,hc,n,by simpa using hs⟩,?_⟩
   have e:=r.length
   simp only[Array.length_toList]at e
   omega
theorem Inv.list_inj(I:Inv X pins σ H s)(h:SqL X.K H a xs)(h':SqL X.K H a ys):xs=ys:=by
 obtain⟨its,r,⟨o,n,e,_,_,d⟩,_⟩:=I.list h
 obtain⟨its',r',⟨o',n',e',_,_,d'⟩,_⟩:=I.list h'
 rw[e]at e';cases e'
 rw[d]at d'
 injection d' with d1 _
 have:its=its':=by simpa using congrArg Array.toList d1
 subst this
 exact r.inj r'
theorem Inv.tuple_inj(I:Inv X pins σ H s)(h:SqT X.K H a xs)(h':SqT X.K H a ys):xs=ys:=by
 obtain⟨its,r,⟨o,e,_,n,d⟩,_⟩:=I.tuple h
 obtain⟨its',r',⟨o',e',_,n',d'⟩,_⟩:=I.tuple h'
 rw[e]at e';cases e'
 rw[d]at d'
 injection d' with d1 _
 have:its=its':=by simpa using congrArg Array.toList d1
 subst this
 exact r.inj r'
end
abbrev Cx.wish(X:Cx)(E:Value->Shared->Prop):Cx:={X with xe:=E}
abbrev Cx.nox(X:Cx):Cx:=X.wish fun _ _=>False
theorem Cx.Ok.wish{X:Cx}(ok:X.Ok)(E:Value->Shared->Prop):(X.wish E).Ok:=
 ⟨ok.mod,ok.kind,ok.glob,ok.blt,ok.above,ok.inj,ok.has,ok.cab,ok.hd,ok.frames,ok.stk,ok.exf,ok.bs,ok.bsz,ok.noex,ok.exfs,ok.funs,ok.frf⟩
theorem Cx.Ok.unwish{X:Cx}{E:Value->Shared->Prop}(ok:(X.wish E).Ok):X.Ok:=
 ⟨ok.mod,ok.kind,ok.glob,ok.blt,ok.above,ok.inj,ok.has,ok.cab,ok.hd,ok.frames,ok.stk,ok.exf,ok.bs,ok.bsz,ok.noex,ok.exfs,ok.funs,ok.frf⟩
section
variable{X:Cx}{pins:List (Addr×Obj)}{σ:St}{H:Hp}{s:Shared}{E:Value->Shared->Prop}
theorem Inv.wish(I:Inv X pins σ H s)(E:Value->Shared->Prop):Inv (X.wish E) pins σ H s:=⟨I.ok.wish E,I.os,I.bare,I.base,I.loc,I.cell,I.free,I.freeC,I.pin,I.hok,I.len⟩
theorem Inv.unwish(I:Inv (X.wish E) pins σ H s):Inv X pins σ H s:=⟨I.ok.unwish,I.os,I.bare,I.base,I.loc,I.cell,I.free,I.freeC,I.pin,I.hok,I.len⟩
theorem SP.unwish{D:Ends}{f:Flow}{s':Shared}(h:SP (X.wish E) pins D f s'):SP X pins D f s':=by
 cases f with
 |next=>obtain⟨σ',H',I,q⟩:=h;exact⟨σ',H',I.unwish,q⟩
 |brk=>obtain⟨σ',H',I,q⟩:=h;exact⟨σ',H',I.unwish,q⟩
 |cont=>obtain⟨σ',H',I,q⟩:=h;exact⟨σ',H',I.unwish,q⟩
 |ret u=>obtain⟨v,σ',H',I,r,q⟩:=h;exact⟨v,σ',H',I.unwish,r,q⟩
theorem PSs.nox{st:List Stmt}{t:TS}(h:PSs X.nox st t):PSs X st t:=fun pins s σ H D I hw=>
 wpAny_mono (h pins s σ H D (I.wish _) hw) (fun _ _ q=>q.unwish) fun _ _ z=>False.elim z
end
section
variable{X:Cx}{st:Stmt}{rest:List Stmt}{t u:TS}{e:Expr}{te:TE}{pos:Pos}
def tNext:TS:=fun D σ H=>D.nx σ H
def tSeq(t u:TS):TS:=fun D σ H=>t {D with nx:=u D} σ H
theorem pss_nil:PSs X [] tNext:=fun _ _ σ H _ I h=>wpAny_execs_nil ⟨σ,H,I,h⟩
theorem pss_cons(h1:PS X st t)(h2:PSs X rest u):PSs X (st::rest) (tSeq t u):=by
 intro pins s σ H D I h
 refine wpAny_execs_cons (thn (h1 pins s σ H {D with nx:=u D} I h) fun f s1 q=>?_)
 cases f with
 |next=>
  obtain⟨σ',H',I',q⟩:=q
  exact h2 pins s1 σ' H' D I' q
 |ret v=>exact q
 |brk=>exact q
 |cont=>exact q
theorem Inv.quiet{pins:List (Addr×Obj)}{σ:St}{H:Hp}{s:Shared}(I:Inv X pins σ H s):interactive X.env=false:=by simp[interactive,I.ok.kind]
def tDrop(te:TE):TS:=fun D σ H=>te σ H fun _ H1=>D.nx σ H1
theorem ps_expr(he:PE X e te)(hs:swapsWith e none pos.line X.env=pure false:=by rfl):PS X (.Expr e pos) (tDrop te):=by
 intro pins s σ H D I h
 exact wpAny_Expr_any (thn (he pins s σ H _ I h) fun v s1 ⟨x,H1,I1,r1,q1⟩=>⟨σ,H1,I1,q1⟩) I.quiet hs
def tRet(te:TE):TS:=fun D σ H=>te σ H D.rt
theorem ps_ret(he:PE X e te):PS X (.Return (some e) pos) (tRet te):=by
 intro pins s σ H D I h
 exact wpAny_Return_some (thn (he pins s σ H _ I h) fun v s1 ⟨x,H1,I1,r1,q1⟩=>⟨x,σ,H1,I1,r1,q1⟩)
def tIfS(c:TT)(t u:TS):TS:=fun D σ H=>c σ H fun b H1=>if b=true then t D σ H1 else u D σ H1
theorem ps_if{c:Expr}{a b:List Stmt}{tc:TT}(hc:PT X c tc)(ha:PSs X a t)(hb:PSs X b u):PS X (.If c a b pos) (tIfS tc t u):=by
 intro pins s σ H D I h
 refine wpAny_If (thn (hc pins s σ H _ I h) fun d s1 ⟨H1,I1,q1⟩=>?_)
 cases d with
 |true=>exact ha pins s1 σ H1 D I1 q1
 |false=>exact hb pins s1 σ H1 D I1 q1
def tNever:TS:=fun _ _ _=>False
theorem pss_never{sts:List Stmt}:PSs X sts tNever:=fun _ _ _ _ _ _ h=>h.elim
end
abbrev TG:=V->St->Hp->(St->Hp->Prop)->Prop
abbrev TGs:=List V->St->Hp->(St->Hp->Prop)->Prop
def PG(X:Cx)(target:Expr)(t:TG):Prop:=
 ∀(pins:List (Addr×Obj)) (s:Shared) (σ:St) (H:Hp) (v:V) (u:Value) (Q:St->Hp->Prop),Inv X pins σ H s->RelV v u->t v σ H Q->
  wpAny (model X.prog X.w) X.A (assign target X.env u) (fun _ s'=>∃σ' H',Inv X pins σ' H' s'/\Q σ' H') X.xe s
def PGs(X:Cx)(ts:List Expr)(t:TGs):Prop:=
 ∀(pins:List (Addr×Obj)) (s:Shared) (σ:St) (H:Hp) (vs:List V) (us:List Value) (Q:St->Hp->Prop),Inv X pins σ H s->Vals vs us->t vs σ H Q->
  wpAny (model X.prog X.w) X.A (assignInOrder ((assignEach ts X.env).map (·.2)) us) (fun _ s'=>∃σ' H',Inv X pins σ' H' s'/\Q σ' H') X.xe s
section
variable{X:Cx}{pos:Pos}
def gName(i:Nat):TG:=fun v σ H Q=>Q (σ.set i (some v)) H
theorem pg_name{i:Nat}{x:Str}(hN:X.N.Nodup)(hi:X.N[i]? =some x)(hx:Loc X.env.scope x)(hf:X.fn x=true\/X.env.scope.names.lookup x=some .local:=by first|exact .inl rfl|exact .inr rfl|assumption):PG X (.Name x pos) (gName i):=by
 intro pins s σ H v u Q I r h
 exact wpAny_assign_Name (store_ok I hN hi hx r (fun s' I'=>⟨_,H,I',h⟩) hf)
def gNil:TGs:=fun vs σ H Q=>vs=[]/\Q σ H
def gCons(t:TG)(u:TGs):TGs:=fun vs σ H Q=>∃v r,vs=v::r/\t v σ H fun σ' H'=>u r σ' H' Q
theorem pgs_nil:PGs X [] gNil:=by
 intro pins s σ H vs us Q I r h
 obtain⟨e,h⟩:=h
 subst e
 cases r
 exact assignInOrder_nil ⟨σ,H,I,h⟩
theorem pgs_cons{e:Expr}{es:List Expr}{t:TG}{u:TGs}(h1:PG X e t)(h2:PGs X es u)
 (hs:(assignEach (e::es) X.env).map (·.2)=assign e X.env::(assignEach es X.env).map (·.2):=by rfl):PGs X (e::es) (gCons t u):=by
 intro pins s σ H vs us Q I r h
 obtain⟨v,vr,e1,h⟩:=h
 subst e1
 cases r with
 |cons r rr=>
  rw[hs]
  refine assignInOrder_cons (thn (h1 pins s σ H _ _ _ I r h) fun _ s1 ⟨σ1,H1,I1,q1⟩=>?_)
  exact h2 pins s1 σ1 H1 _ _ Q I1 rr q1
def gTup(K:PySem.W.Frag)(n:Nat)(t:TGs):TG:=fun v σ H Q=>∃a xs,v=.ref a/\SqT K H a xs/\xs.length=n/\t xs σ H Q
theorem pg_tup{es:List Expr}{k:Nat}{t:TGs}{n:Nat}(hc:X.calm=true)(h:PGs X es t)
 (hn:(assignEach es X.env).length=n:=by rfl)(hst:(assignEach es X.env).findIdx? (·.1)=none:=by rfl):PG X (.Tuple es k pos) (gTup X.K n t):=by
 intro pins s σ H v u Q I r hw
 obtain⟨a,xs,e1,hq,hl,hw⟩:=hw
 subst e1
 cases r
 obtain⟨its,rv,ht,hz⟩:=I.tuple hq
 refine assign_Tuple_tuple (I.ok.hd hc) ht (by simp[hn, <-hl,rv.length]) hst fun h' hx=>?_
 have I1:Inv X pins σ H {s with heap:=h'}:=I.kept (t':=s.toks) fun b o e=>hx b o (Nat.ne_of_lt (lt_size e)) e
 exact h pins _ σ H xs _ Q I1 (by simpa using rv) hw
def tAsg(te:TE)(g:TG):TS:=fun D σ H=>te σ H fun x H1=>g x σ H1 D.nx
theorem ps_set{i:Nat}{x:Str}{e:Expr}{te:TE}{pos':Pos}(hN:X.N.Nodup)(hi:X.N[i]? =some x)(hx:Loc X.env.scope x)(he:PE X e te)(hs:swapsWith e (some (.Name x pos')) pos.line X.env=pure false:=by rfl)(hf:X.fn x=true\/X.env.scope.names.lookup x=some .local:=by first|exact .inl rfl|exact .inr rfl|assumption):
 PS X (.Assign [.Name x pos'] e pos) (tAsg te (gName i)):=by
 intro pins s σ H D I h
 refine wpAny_Assign_Name (thn (he pins s σ H _ I h) fun v s1 ⟨y,H1,I1,r1,q1⟩=>?_) hs
 exact store_ok I1 hN hi hx r1 (fun s2 I2=>⟨_,H1,I2,q1⟩) hf
end
structure It where
 go:Nat->Hp->Prop
 yld:Nat->Hp->V->Hp->Prop
 stop:Nat->Hp->Prop
def FpOk(X:Cx)(pins:List (Addr×Obj))(H:Hp)(b:Addr):Prop:=
 H b=none/\b≠X.env.locals/\b∉X.fs/\(b∈X.ex\/X.s₀.heap.get? b=none)/\(∀x c,X.env.cells.lookup x=some c->c≠b)/\ ∀p∈X.pn++pins,p.1≠b
theorem Inv.fpOk{X:Cx}{pins:List (Addr×Obj)}{σ:St}{H H':Hp}{s:Shared}{b:Addr}(I:Inv X pins σ H s)(hb:s.heap.objs.size<=b)(hn:H' b=none):FpOk X pins H' b:=by
 refine⟨hn,Nat.ne_of_gt (Nat.lt_of_lt_of_le I.lt hb),I.nofs hb,.inr (Heap.get?_none_of_le (Nat.le_trans I.sz hb)),fun x c e z=>?_,fun p hp z=>?_⟩
 . obtain⟨v,q⟩:=I.cell x c e
   exact absurd (Nat.lt_of_lt_of_le q.lt (by rw[z];exact hb)) (Nat.lt_irrefl _)
 . exact absurd (Nat.lt_of_lt_of_le (lt_size (I.pin p hp).1) (by rw[z];exact hb)) (Nat.lt_irrefl _)
structure Turn(P:Program)(w:World)(K:PySem.W.Frag)(tg:Expr)(J:It)(fp:List Addr)(it:Addr)(tn:Nat->Heap->Prop):Prop where
 mem:it∈fp
 obj:∀i h,tn i h->∀b∈fp,∃o,h.get? b=some o/\ ∀v,o.data≠ .cell v
 keep:∀i h h',tn i h->(∀b∈fp,∀o,h.get? b=some o->h'.get? b=some o)->tn i h'
 item:∀(X:Cx),X.prog=P->X.w=w->X.K=K->X.calm=true->∀(i:Nat) (pins:List (Addr×Obj)) (s:Shared) (σ:St) (H:Hp) (E:Value->Shared->Prop),Inv X pins σ H s->(∀b∈fp,FpOk X pins H b)->tn i s.heap->J.go i H->
  wpAny (model P w) X.A (pyNext (.ref it)) (fun r s1=>∃u,r=some u/\
   wpAny (model P w) X.A (letOwnedTupleGo tg (.ref it) u) (fun _ s2=>∃x H',Inv X pins σ H' s2/\RelV x u/\J.yld i H x H'/\tn (i+1) s2.heap/\ ∀b∈fp,H' b=none) E s1) E s
 done:∀(X:Cx),X.prog=P->X.w=w->X.K=K->X.calm=true->∀(i:Nat) (pins:List (Addr×Obj)) (s:Shared) (σ:St) (H:Hp) (E:Value->Shared->Prop),Inv X pins σ H s->(∀b∈fp,FpOk X pins H b)->tn i s.heap->J.stop i H->
  wpAny (model P w) X.A (pyNext (.ref it)) (fun r s1=>r=none/\Inv X pins σ H s1) E s
 self:∀(A:Around) (i:Nat) (s:Shared) (Q:Value->Shared->Prop) (E:Value->Shared->Prop),tn i s.heap->Q (.ref it) s->wpAny (model P w) A (pyIter (.ref it)) Q E s
abbrev TI:=St->Hp->(It->Hp->Prop)->Prop
def PIE(X:Cx)(pins:List (Addr×Obj))(σ:St)(tg:Expr)(R:It->Hp->Prop)(itv:Value)(s2:Shared):Prop:=
 ∃(it:Addr) (fp:List Addr) (tn:Nat->Heap->Prop) (J:It) (H':Hp),itv=.ref it/\Inv X pins σ H' s2/\Turn X.prog X.w X.K tg J fp it tn/\tn 0 s2.heap/\(∀b∈fp,FpOk X pins H' b)/\R J H'
def PI(X:Cx)(tg iter:Expr)(wi:TI):Prop:=
 ∀(pins:List (Addr×Obj)) (s:Shared) (σ:St) (H:Hp) (R:It->Hp->Prop),Inv X pins σ H s->wi σ H R->
  wpAny (model X.prog X.w) X.A (eval iter X.env) (fun v s1=>wpAny (model X.prog X.w) X.A (pyIter v) (PIE X pins σ tg R) X.xe s1) X.xe s
theorem go_of{M:Model}{A:Around}{E:Value->Shared->Prop}{s:Shared}{tg:Expr}{it:Addr}{u:Value}{o:Obj}{n:String}{vs:Array Value}{Q:Unit->Shared->Prop}(ho:s.heap.get? it=some o)(hc:o.cls=.type n)(hd:o.data=.fields vs)
    (hn:["enumerate","zip","dict_itemiterator","dict_reverseitemiterator","odict_iterator","itertools.zip_longest","itertools.pairwise"].contains n=false)(hQ:Q () s):wpAny M A (letOwnedTupleGo tg (.ref it) u) Q E s:=by
  unfold letOwnedTupleGo
  cases tg<;>first
    |exact wpAny_pure hQ
    |(cases u<;>first
        |exact wpAny_pure hQ
        | (refine wpAny_bind (wpAny_load ho ?_)
           rw[hc,hd]
           show wpAny M A (if(["enumerate","zip","dict_itemiterator","dict_reverseitemiterator","odict_iterator","itertools.zip_longest","itertools.pairwise"].contains n&&vs[0]? ==some (rawInt _))=true then _ else _) Q E s
           rw[if_neg (by intro h;rw[hn,Bool.false_and]at h;cases h)]
           exact wpAny_pure hQ))
def Itl(K:PySem.W.Frag)(a:Addr):It:=
 ⟨fun i H=>∃xs x,SqL K H a xs/\xs[i]? =some x,fun i H x H'=>H'=H/\ ∀xs,SqL K H a xs->xs[i]? =some x,fun i H=>∃xs,SqL K H a xs/\xs.length<=i⟩
def Itr(lo:Int)(n:Nat):It:=⟨fun i _=>i<n,fun i H x H'=>H'=H/\x=.int (lo+i),fun i _=>n<=i⟩
theorem turn_list{P:Program}{w:World}{K:PySem.W.Frag}{tg:Expr}(a it:Addr):Turn P w K tg (Itl K a) [it] it (fun i h=>h.IsListIter it a i) where
 mem:=by simp
 obj:=fun i h st b hb=>by
  have e:b=it:=by simpa using hb
  subst e
  obtain⟨o,e,c,d⟩:=st
  exact⟨o,e,fun v z=>by rw[d]at z;cases z⟩
 keep:=fun i h h' st k=>st.at fun o e=>k it (by simp) o e
 item:=by
  intro X hP hw hK hc i pins s σ H E I hf st hg
  subst hP hw hK
  obtain⟨xs,x,hq,hx⟩:=hg
  obtain⟨its,rv,p,hz⟩:=I.list hq
  obtain⟨u,hu,ru⟩:=rv.get hx
  obtain⟨f0,f1,f2,f3,f4,f5⟩:=hf it (by simp)
  refine wpAny_pyNext_list_item st p.isList (x:=u) (by simpa using hu) fun h' st' sb=>?_
  have I1:Inv X pins σ H {s with heap:=h'}:=I.turned (t':=s.toks) (fun b o hb e=>(sb.2 b hb).trans e) f0 f1 f3 f4 f5
  obtain⟨o,e,c,d⟩:=id st'
  exact⟨u,rfl,go_of (s:={s with heap:=h'}) e c d (by decide) ⟨x,H,I1,ru,⟨rfl,fun ys hy=>by rw[I.list_inj hy hq];exact hx⟩,st',fun b hb=>(hf b hb).1⟩⟩
 done:=by
  intro X hP hw hK hc i pins s σ H E I hf st hg
  subst hP hw hK
  obtain⟨xs,hq,hx⟩:=hg
  obtain⟨its,rv,p,hz⟩:=I.list hq
  obtain⟨f0,f1,f2,f3,f4,f5⟩:=hf it (by simp)
  have hl:=rv.length
  exact wpAny_pyNext_list_end (I.ok.hd hc) st p.isList (by simp;omega) fun h' eb=>⟨rfl,I.turned (t':=s.toks) (fun b o hb e=>eb b o hb e) f0 f1 f3 f4 f5⟩
 self:=fun _ _ _ _ _ st h=>wpAny_pyIter_listiter st h
theorem turn_range{P:Program}{w:World}{K:PySem.W.Frag}{tg:Expr}(it:Addr)(lo:Int)(n:Nat):Turn P w K tg (Itr lo n) [it] it (fun i h=>IsRangeIter h it (lo+(i:Nat)*1) ((n:Int)-(i:Nat)) 1) where
 mem:=by simp
 obj:=fun i h st b hb=>by
  have e:b=it:=by simpa using hb
  subst e
  exact⟨_,st,fun v z=>by
   have z':Data.fields _=Data.cell v:=z
   cases z'⟩
 keep:=fun i h h' st k=>k it (by simp) _ st
 item:=by
  intro X hP hw hK hc i pins s σ H E I hf st hg
  subst hP hw hK
  obtain⟨f0,f1,f2,f3,f4,f5⟩:=hf it (by simp)
  have W:=Walks.range (prog:=X.prog) (w:=X.w) (I.ok.hd hc) it lo 1 n
  refine W.item i s _ _ hg st fun v h' tk hv st' kk=>?_
  obtain⟨t,rfl⟩:=hv
  have I1:Inv X pins σ H {s with heap:=h',toks:=tk}:=I.turned (fun b o hb e=>kk b o (by simpa using hb) e) f0 f1 f3 f4 f5
  refine⟨_,rfl,go_of (s:={s with heap:=h',toks:=tk}) (n:="range_iterator") st' rfl rfl (by decide) ⟨.int (lo+i),H,I1,⟨t,?_⟩,⟨rfl,rfl⟩,st',fun b hb=>(hf b hb).1⟩⟩
  rw[Int.mul_one]
 done:=by
  intro X hP hw hK hc i pins s σ H E I hf st hg
  subst hP hw hK
  obtain⟨f0,f1,f2,f3,f4,f5⟩:=hf it (by simp)
  exact wpAny_pyNext_range_end (I.ok.hd hc) st (by have:n<=i:=hg;omega) fun h' eb=>⟨rfl,I.turned (t':=s.toks) (fun b o hb e=>eb b o hb e) f0 f1 f3 f4 f5⟩
 self:=fun _ _ _ _ _ st h=>wpAny_pyIter_rangeiter st h
section
variable{X:Cx}{tg:Expr}
def iList(K:PySem.W.Frag)(tl:TE):TI:=fun σ H R=>tl σ H fun x H1=>∃a,x=.ref a/\(∃xs,SqL K H1 a xs)/\R (Itl K a) H1
theorem pi_list{l:Expr}{tl:TE}(hl:PE X l tl):PI X tg l (iList X.K tl):=by
 intro pins s σ H R I h
 refine thn (hl pins s σ H _ I h) fun v s1 ⟨x,H1,I1,r1,q1⟩=>?_
 obtain⟨a,e,⟨xs,hq⟩,q⟩:=q1
 subst e
 cases r1
 obtain⟨its,rv,p,hz⟩:=I1.list hq
 refine wpAny_pyIter_list p.isList ?_
 refine⟨s1.heap.objs.size,[s1.heap.objs.size],_,_,H1,rfl,I1.kept (t':=s1.toks) fun b o e=>get?_push_of_some _ e,turn_list a _,⟨_,get?_push_size _ rfl,rfl,rfl⟩,fun b hb=>?_,q⟩
 have e:b=s1.heap.objs.size:=by simpa using hb
 subst e
 exact I1.fpOk (Nat.le_refl _) (I1.hok.fresh (Nat.le_refl _))
theorem range_it{pins:List (Addr×Obj)}{σ:St}{H:Hp}{s:Shared}{R:It->Hp->Prop}{E:Value->Shared->Prop}{lo hi:Int}{t u v:Tok}{tk:Nat}(I:Inv X pins σ H s)(h1: -(2^62)<=lo)(h2:lo<2^62)(h3: -(2^62)<=hi)(h4:hi<2^62)
 (q:R (Itr lo (hi-lo).toNat) H):wpAny (model X.prog X.w) X.A (pyIter (.ref s.heap.objs.size)) (PIE X pins σ tg R) E {s with heap:=s.heap.push {cls:=.type "range",data:=.fields #[.int lo t,.int hi u,.int 1 v]},toks:=tk}:=by
 refine wpAny_pyIter_range (IsRange.new ..) (small_one h1 h2 h3 h4) ?_
 have I1:Inv X pins σ H {s with heap:=s.heap.push {cls:=.type "range",data:=.fields #[.int lo t,.int hi u,.int 1 v]},toks:=tk}:=I.kept fun b o e=>get?_push_of_some _ e
 refine⟨(s.heap.push {cls:=.type "range",data:=.fields #[.int lo t,.int hi u,.int 1 v]}).objs.size,[(s.heap.push {cls:=.type "range",data:=.fields #[.int lo t,.int hi u,.int 1 v]}).objs.size],_,_,H,rfl,
  I1.kept (t':=tk) fun b o e=>get?_push_of_some _ e,turn_range _ lo (hi-lo).toNat,?_,fun b hb=>?_,q⟩
 . have e1:lo+((0:Nat):Int)*1=lo:=by simp
   have e2:(((hi-lo).toNat:Nat):Int)-((0:Nat):Int)=Builtin.Range.rangeSize lo hi 1:=by rw[rangeSize_one];split<;>omega
   show IsRangeIter _ _ (lo+((0:Nat):Int)*1) ((((hi-lo).toNat:Nat):Int)-((0:Nat):Int)) 1
   rw[e1,e2]
   exact get?_push_size _ rfl
 . have e:b=(s.heap.push {cls:=.type "range",data:=.fields #[.int lo t,.int hi u,.int 1 v]}).objs.size:=by simpa using hb
   subst e
   exact I1.fpOk (Nat.le_refl _) (I1.hok.fresh (Nat.le_refl _))
def iRng1(ta:TA):TI:=fun σ H R=>ta σ H fun vs H1=>∃j:Int,vs=[.int j]/\ -(2^62)<=j/\j<2^62/\R (Itr 0 j.toNat) H1
theorem pi_range1{a:Expr}{ta:TA}{p pos:Pos}(hg:Gl X "range")(hm:X.mg "range"=none)(ha:PA X [a] ta)(hs:starEach [a] X.env=[(false,eval a X.env)]:=by rfl):PI X tg (.Call (.Name "range" p) [a] [] pos) (iRng1 ta):=by
 intro pins s σ H R I h
 refine Call_ (ld_blt I hg hm boot_range (PyProof.Rows.callWith_type1 (thn (ha pos pins s σ H _ I h) fun us s1 ⟨vs,H1,I1,r1,q1⟩=>?_) hs rfl))
 obtain⟨j,e,q1,q2,q⟩:=q1
 subst e
 cases r1 with
 |cons r rr=>
  cases rr
  obtain⟨t,rfl⟩:=r
  exact call_range_1 (range_it I1 (by omega) (by omega) q1 q2 (by simpa using q))
def tFor(wi:TI)(g:TG)(tb:TS):TS:=fun D σ H=>wi σ H fun J H1=>∃W:Nat->Nat->St->Hp->Prop,(∃m,W 0 m σ H1)/\ ∀i m σ H,W i m σ H->
 (J.stop i H/\D.nx σ H)\/(J.go i H/\ ∃N:St->Hp->Prop,(∀σ' H',N σ' H'->∃m',m'<m/\W (i+1) m' σ' H')/\ ∀x H',J.yld i H x H'->g x σ H' fun σ2 H2=>tb {D with nx:=N,ct:=N,bk:=D.nx} σ2 H2)
def pinsAt(fp:List Addr)(h:Heap):List (Addr×Obj):=fp.filterMap fun b=>(h.get? b).map fun o=>(b,o)
theorem mem_pinsAt{fp:List Addr}{h:Heap}{b:Addr}{o:Obj}(hb:b∈fp)(e:h.get? b=some o):(b,o)∈pinsAt fp h:=List.mem_filterMap.mpr ⟨b,hb,by rw[e];rfl⟩
theorem of_pinsAt{fp:List Addr}{h:Heap}{p:Addr×Obj}(hp:p∈pinsAt fp h):p.1∈fp/\h.get? p.1=some p.2:=by
 obtain⟨b,hb,e⟩:=List.mem_filterMap.mp hp
 cases q:h.get? b with
 |none=>rw[q]at e;cases e
 |some o=>
  rw[q]at e
  have e':(b,o)=p:=Option.some.inj e
  subst e'
  exact⟨hb,q⟩
theorem Inv.pinned{pins:List (Addr×Obj)}{σ:St}{H:Hp}{s:Shared}{fp:List Addr}(I:Inv X pins σ H s)(hf:∀b∈fp,FpOk X pins H b)(ho:∀b∈fp,∃o,s.heap.get? b=some o/\ ∀v,o.data≠ .cell v):Inv X (pins++pinsAt fp s.heap) σ H s:=
 I.pins_of fun p hp=>(mem_append.mp hp).elim (fun z=>I.pin p (mem_append_right _ z)) fun z=>by
  obtain⟨hb,e⟩:=of_pinsAt z
  obtain⟨f0,f1,f2,_⟩:=hf p.1 hb
  obtain⟨o,e',d⟩:=ho p.1 hb
  rw[e]at e';cases e'
  exact⟨e,f0,f1,f2,d⟩
theorem Inv.unpinned{pins pl:List (Addr×Obj)}{σ:St}{H:Hp}{s:Shared}(I:Inv X (pins++pl) σ H s):Inv X pins σ H s:=I.pins_of fun p hp=>I.pin p (mem_append_right _ (List.mem_append_left _ hp))
theorem ps_for{iter:Expr}{body:List Stmt}{wi:TI}{g:TG}{tb:TS}{pos:Pos}(hp:PassesOwn (model X.prog X.w) X.A X.env X.xe)(hc:X.calm=true)(hi:PI X tg iter wi)(hg:PG X tg g)(hb:PSs X body tb)
 (hs:∀x,foldedSetIterable iter X.env x=pure x:=by intro _;rfl):PS X (.For tg iter body [] pos) (tFor wi g tb):=by
 intro pins s σ H D I h
 refine wpAny_For (thn (hi pins s σ H _ I h) fun v s1 h1=>thn h1 fun itv s2 h2=>?_) hs
 obtain⟨it,fp,tn,J,H2,e,I2,T,st2,f2,W,⟨m0,w0⟩,turn⟩:=h2
 subst e
 --what stays true of the iterator's objects through the loop
 have stat:∀{H':Hp},(∀b∈fp,H' b=none)->∀b∈fp,FpOk X pins H' b:=fun hn b hb=>⟨hn b hb,(f2 b hb).2⟩
 refine codeAny_forLoop_any (fun n s'=>∃i σ' H',Inv X pins σ' H' s'/\tn i s'.heap/\(∀b∈fp,H' b=none)/\W i n σ' H') ?_ m0 ⟨0,σ,H2,I2,st2,fun b hb=>(f2 b hb).1,w0⟩
 rintro n s3 ⟨i,σ3,H3,I3,st3,fr3,w3⟩
 rcases turn i n σ3 H3 w3 with⟨stop,qn⟩|⟨go,N,hN,step⟩
 . refine wpAny_passesOwn hp (thn (T.done X rfl rfl rfl hc i pins s3 σ3 H3 X.xe I3 (stat fr3) st3 stop) fun r s4 ⟨hr,I4⟩=>?_)
   subst hr
   exact wpAny_execs_nil ⟨σ3,H3,I4,qn⟩
 . refine wpAny_passesOwn hp (thn (T.item X rfl rfl rfl hc i pins s3 σ3 H3 X.xe I3 (stat fr3) st3 go) fun r s4 ⟨u,hr,h4⟩=>?_)
   subst hr
   refine wpAny_passesOwn hp (thn h4 fun _ s5 ⟨x,H5,I5,r5,y5,st5,fr5⟩=>?_)
   have I5':=I5.pinned (stat fr5) (T.obj _ _ st5)
   refine wpAny_passesOwn hp (thn (hg _ s5 σ3 H5 x u _ I5' r5 (step x H5 y5)) fun _ s6 ⟨σ6,H6,I6,q6⟩=>?_)
   refine wpAny_passesOwn hp (thn (hb _ s6 σ6 H6 _ I6 q6) fun f s7 q7=>?_)
   have again:∀{σ7:St} {H7:Hp},Inv X (pins++pinsAt fp s5.heap) σ7 H7 s7->N σ7 H7->∃m,m<n/\ ∃i σ' H',Inv X pins σ' H' s7/\tn i s7.heap/\(∀b∈fp,H' b=none)/\W i m σ' H':=fun{σ7 H7} I7 n7=>by
    obtain⟨m',hm,w7⟩:=hN σ7 H7 n7
    refine⟨m',hm,i+1,σ7,H7,I7.unpinned,T.keep _ _ _ st5 fun b hb o e=>(I7.pin (b,o) (mem_append_right _ (mem_append_right _ (mem_pinsAt hb e)))).1,fun b hb=>?_,w7⟩
    obtain⟨o,e,d⟩:=T.obj _ _ st5 b hb
    exact(I7.pin (b,o) (mem_append_right _ (mem_append_right _ (mem_pinsAt hb e)))).2.1
   cases f with
   |next=>obtain⟨σ7,H7,I7,n7⟩:=q7;exact again I7 n7
   |cont=>obtain⟨σ7,H7,I7,n7⟩:=q7;exact again I7 n7
   |brk=>obtain⟨σ7,H7,I7,q7⟩:=q7;exact⟨σ7,H7,I7.unpinned,q7⟩
   |ret v=>obtain⟨x7,σ7,H7,I7,r7,q7⟩:=q7;exact⟨x7,σ7,H7,I7.unpinned,r7,q7⟩
end
abbrev R2:=V->V->Hp->VK->Prop
def OpR(X:Cx)(f:Value->Value->Sem Value)(r:R2):Prop:=
 ∀(pins:List (Addr×Obj)) (s:Shared) (σ:St) (H:Hp) (x y:V) (v u:Value) (Q:VK),Inv X pins σ H s->RelV x v->RelV y u->r x y H Q->
  wpAny (model X.prog X.w) X.A (f v u) (EP X pins σ Q) X.xe s
def UnR(X:Cx)(f:Value->Sem Value)(r:V->Hp->VK->Prop):Prop:=
 ∀(pins:List (Addr×Obj)) (s:Shared) (σ:St) (H:Hp) (x:V) (v:Value) (Q:VK),Inv X pins σ H s->RelV x v->r x H Q->
  wpAny (model X.prog X.w) X.A (f v) (EP X pins σ Q) X.xe s
def CallR(X:Cx)(f:Value)(r:List V->Hp->VK->Prop):Prop:=
 ∀(pins:List (Addr×Obj)) (s:Shared) (σ:St) (H:Hp) (xs:List V) (us:List Value) (Q:VK),Inv X pins σ H s->Vals xs us->r xs H Q->
  wpAny (model X.prog X.w) X.A (call f us) (EP X pins σ Q) X.xe s
def tOp(r:R2)(ta tb:TE):TE:=fun σ H Q=>ta σ H fun x H1=>tb σ H1 fun y H2=>r x y H2 Q
def tUn(r:V->Hp->VK->Prop)(ta:TE):TE:=fun σ H Q=>ta σ H fun x H1=>r x H1 Q
def rI(C:Int->Int->Prop)(g:Int->Int->V):R2:=fun x y H Q=>∃i j,x=.int i/\y=.int j/\C i j/\Q (g i j) H
def rI0(g:Int->Int->V):R2:=fun x y H Q=>∃i j,x=.int i/\y=.int j/\Q (g i j) H
def rU(g:Int->V):V->Hp->VK->Prop:=fun x H Q=>∃i,x=.int i/\Q (g i) H
section
variable{X:Cx}{a b c:Expr}{ta tb tc:TE}{pos:Pos}
theorem binT(ha:PE X a ta)(hb:PE X b tb){pins:List (Addr×Obj)}{s:Shared}{σ:St}{H:Hp}{R:V->V->Hp->Prop}(I:Inv X pins σ H s)
 (h:ta σ H fun x H1=>tb σ H1 fun y H2=>R x y H2){Q:Value->Shared->Prop}{f:Value->Value->Sem Value}
 (hf:∀v u s2 x y H2,Inv X pins σ H2 s2->RelV x v->RelV y u->R x y H2->wpAny (model X.prog X.w) X.A (f v u) Q X.xe s2):
 wpAny (model X.prog X.w) X.A (eval a X.env) (fun v s₁=>wpAny (model X.prog X.w) X.A (eval b X.env) (fun u s₂=>wpAny (model X.prog X.w) X.A (f v u) Q X.xe s₂) X.xe s₁) X.xe s:=by
 refine thn (ha pins s σ H _ I h) fun v s1 ⟨x,H1,I1,r1,q1⟩=>?_
 refine thn (hb pins s1 σ H1 _ I1 q1) fun u s2 ⟨y,H2,I2,r2,q2⟩=>?_
 exact hf v u s2 x y H2 I2 r1 r2 q2
theorem pe_op{op:Operator}{r:R2}(ho:OpR X (binaryOp op) r)(ha:PE X a ta)(hb:PE X b tb):PE X (.BinOp a op b pos) (tOp r ta tb):=by
 intro pins s σ H Q I h
 exact wpAny_BinOp (binT ha hb I h fun v u s2 x y H2 I2 rx ry q=>ho pins s2 σ H2 x y v u Q I2 rx ry q)
theorem pe_un{op:UnaryOp}{r:V->Hp->VK->Prop}(ho:UnR X (unaryOp op) r)(ha:PE X a ta):PE X (.UnaryOp op a pos) (tUn r ta):=by
 intro pins s σ H Q I h
 exact UnaryOp_ (thn (ha pins s σ H _ I h) fun v s1 ⟨x,H1,I1,r1,q1⟩=>ho pins s1 σ H1 x v Q I1 r1 q1)
theorem opI{f:Value->Value->Sem Value}{C:Int->Int->Prop}{g:Int->Int->Int}
 (rule:∀(i j:Int) (t u:Tok) (s:Shared) (Q:Value->Shared->Prop) (E:Value->Shared->Prop),C i j->Q (.int (g i j) s.toks) {s with toks:=s.toks+1}->wpAny (model X.prog X.w) X.A (f (.int i t) (.int j u)) Q E s):
 OpR X f (rI C fun i j=>.int (g i j)):=by
 intro pins s σ H x y v u Q I rx ry h
 obtain⟨i,j,rfl,rfl,hc,q⟩:=h
 obtain⟨t,rfl⟩:=rx
 obtain⟨t',rfl⟩:=ry
 exact rule i j t t' s _ _ hc ⟨.int (g i j),H,I.tok _,⟨_,rfl⟩,q⟩
theorem opI0{f:Value->Value->Sem Value}{g:Int->Int->Int}
 (rule:∀(i j:Int) (t u:Tok) (s:Shared) (Q:Value->Shared->Prop) (E:Value->Shared->Prop),Q (.int (g i j) s.toks) {s with toks:=s.toks+1}->wpAny (model X.prog X.w) X.A (f (.int i t) (.int j u)) Q E s):
 OpR X f (rI0 fun i j=>.int (g i j)):=by
 intro pins s σ H x y v u Q I rx ry h
 obtain⟨i,j,rfl,rfl,q⟩:=h
 obtain⟨t,rfl⟩:=rx
 obtain⟨t',rfl⟩:=ry
 exact rule i j t t' s _ _ ⟨.int (g i j),H,I.tok _,⟨_,rfl⟩,q⟩
theorem opB0{f:Value->Value->Sem Value}{g:Int->Int->Bool}
 (rule:∀(i j:Int) (t u:Tok) (s:Shared) (Q:Value->Shared->Prop) (E:Value->Shared->Prop),Q (.bool (g i j)) s->wpAny (model X.prog X.w) X.A (f (.int i t) (.int j u)) Q E s):
 OpR X f (rI0 fun i j=>.bl (g i j)):=by
 intro pins s σ H x y v u Q I rx ry h
 obtain⟨i,j,rfl,rfl,q⟩:=h
 obtain⟨t,rfl⟩:=rx
 obtain⟨t',rfl⟩:=ry
 exact rule i j t t' s _ _ ⟨.bl (g i j),H,I,rfl,q⟩
def CDiv(i j:Int):Prop:=0<j/\j<1073741824
def CMul(i j:Int):Prop:=(-(2^64)<i/\i<2^64)\/(-(2^64)<j/\j<2^64)
theorem CMul.ok{i j:Int}(h:CMul i j):IntMulOk i j:=by
 rcases h with⟨h1,h2⟩|⟨h1,h2⟩
 . exact .of_left (intBits_le_64 h1 h2)
 . exact .of_right (intBits_le_64 h1 h2)
theorem op_add:OpR X (binaryOp .Add) (rI0 fun i j=>.int (i+j)):=opI0 fun _ _ _ _ _ _ _ q=>add_int q
theorem op_sub:OpR X (binaryOp .Sub) (rI0 fun i j=>.int (i-j)):=opI0 fun _ _ _ _ _ _ _ q=>sub_int q
theorem op_mul:OpR X (binaryOp .Mult) (rI CMul fun i j=>.int (i*j)):=opI fun _ _ _ _ _ _ _ hc q=>mul_int q hc.ok
theorem op_fdiv:OpR X (binaryOp .FloorDiv) (rI CDiv fun i j=>.int (i/j)):=opI fun i j _ _ _ _ _ hc q=>by
 have h1:(0:Int)<j:=hc.1
 have h2:j<1073741824:=hc.2
 exact floordiv_int (by omega) (by rw[Int.fdiv_eq_ediv_of_nonneg i (by omega)];exact q) (.inl (PyProof.noPylong_small (by omega)))
theorem op_mod:OpR X (binaryOp .Mod) (rI (fun _ j=>0<j) fun i j=>.int (i%j)):=opI fun i j _ _ _ _ _ hc q=>by
 have h1:(0:Int)<j:=hc
 exact mod_int' (by omega) (by rw[Int.fmod_eq_emod_of_nonneg i (by omega)];exact q)
theorem unI{f:Value->Sem Value}{g:Int->Int}
 (rule:∀(i:Int) (t:Tok) (s:Shared) (Q:Value->Shared->Prop) (E:Value->Shared->Prop),Q (.int (g i) s.toks) {s with toks:=s.toks+1}->wpAny (model X.prog X.w) X.A (f (.int i t)) Q E s):
 UnR X f (rU fun i=>.int (g i)):=by
 intro pins s σ H x v Q I rx h
 obtain⟨i,rfl,q⟩:=h
 obtain⟨t,rfl⟩:=rx
 exact rule i t s _ _ ⟨.int (g i),H,I.tok _,⟨_,rfl⟩,q⟩
theorem un_neg:UnR X (unaryOp .USub) (rU fun i=>.int (-i)):=unI fun _ _ _ _ _ q=>neg_int q
end
def scal:V->V->Bool
 |.non,.non=>true|.non,.int _=>true|.int _,.non=>true|.non,.bl _=>true|.bl _,.non=>true|.non,.str _=>true|.str _,.non=>true
 |.int _,.int _=>true|.bl _,.bl _=>true|.str _,.str _=>true|.byt _,.byt _=>true
 |.int _,.str _=>true|.str _,.int _=>true|.bl _,.str _=>true|.str _,.bl _=>true
 |_,_=>false
def rEq:R2:=fun x y H Q=>scal x y=true/\Q (.bl (decide (x=y))) H
def rNe:R2:=fun x y H Q=>scal x y=true/\Q (.bl (!decide (x=y))) H
theorem dec_int{i j:Int}:decide (V.int i=V.int j)=(i==j):=by
 rw[Bool.eq_iff_iff]
 simp
theorem dec_bl{i j:Bool}:decide (V.bl i=V.bl j)=(i==j):=by
 rw[Bool.eq_iff_iff]
 simp
theorem dec_str{i j:Str}:decide (V.str i=V.str j)=(i==j):=by
 rw[Bool.eq_iff_iff]
 simp
theorem dec_byt{i j:Array UInt8}:decide (V.byt i=V.byt j)=(i.toList==j.toList):=by
 rw[Bool.eq_iff_iff]
 cases i
 cases j
 simp
section
variable{X:Cx}{a b c:Expr}{ta tb tc:TE}{pos:Pos}
theorem fin_bl{pins:List (Addr×Obj)}{σ:St}{H:Hp}{s:Shared}{Q:VK}{k k':Bool}(I:Inv X pins σ H s)(q:Q (.bl k) H)(e:k=k'):EP X pins σ Q (.bool k') s:=by
 subst e
 exact⟨.bl k,H,I,rfl,q⟩
theorem op_eq:OpR X (compareOp .Eq) rEq:=by
 intro pins s σ H x y v u Q I rx ry h
 obtain⟨hs,q⟩:=h
 cases x with
 |non=>
  cases rx
  cases y with
  |non=>cases ry;exact PySem.EqNone.eq_none_none (fin_bl I q (by simp))
  |bl j=>cases ry;exact PySem.EqNone.eq_none_bool (fin_bl I q (by simp))
  |int j=>obtain⟨t',rfl⟩:=ry;exact PySem.EqNone.eq_none_int (fin_bl I q (by simp))
  |str j=>obtain⟨t',rfl⟩:=ry;exact PySem.EqNone.eq_none_str (fin_bl I q (by simp))
  |_=>exact absurd (show false=true from hs) Bool.false_ne_true
 |bl i=>
  cases rx
  cases y with
  |non=>cases ry;exact PySem.EqNone.eq_bool_none (fin_bl I q (by simp))
  |bl j=>cases ry;exact eq_bool (fin_bl I q dec_bl)
  |str j=>obtain⟨t',rfl⟩:=ry;exact PySem.EqMixed.eq_bool_str (fin_bl I q (by simp))
  |_=>exact absurd (show false=true from hs) Bool.false_ne_true
 |int i=>
  obtain⟨t,rfl⟩:=rx
  cases y with
  |non=>cases ry;exact PySem.EqNone.eq_int_none (fin_bl I q (by simp))
  |int j=>obtain⟨t',rfl⟩:=ry;exact eq_int (fin_bl I q dec_int)
  |str j=>obtain⟨t',rfl⟩:=ry;exact PySem.EqMixed.eq_int_str (fin_bl I q (by simp))
  |_=>exact absurd (show false=true from hs) Bool.false_ne_true
 |str i=>
  obtain⟨t,rfl⟩:=rx
  cases y with
  |non=>cases ry;exact PySem.EqNone.eq_str_none (fin_bl I q (by simp))
  |bl j=>cases ry;exact PySem.EqMixed.eq_str_bool (fin_bl I q (by simp))
  |int j=>obtain⟨t',rfl⟩:=ry;exact PySem.EqMixed.eq_str_int (fin_bl I q (by simp))
  |str j=>obtain⟨t',rfl⟩:=ry;exact eq_str (fin_bl I q dec_str)
  |_=>exact absurd (show false=true from hs) Bool.false_ne_true
 |byt i=>
  obtain⟨t,rfl⟩:=rx
  cases y with
  |byt j=>obtain⟨t',rfl⟩:=ry;exact PySem.W.eq_bytes (fin_bl I q dec_byt)
  |_=>exact absurd (show false=true from hs) Bool.false_ne_true
 |_=>cases y<;>exact absurd (show false=true from hs) Bool.false_ne_true
theorem op_ne:OpR X (compareOp .NotEq) rNe:=by
 intro pins s σ H x y v u Q I rx ry h
 obtain⟨hs,q⟩:=h
 cases x with
 |non=>
  cases rx
  cases y with
  |non=>cases ry;exact PySem.EqNone.ne_none_none (fin_bl I q (by simp))
  |bl j=>cases ry;exact PySem.EqNone.ne_none_bool (fin_bl I q (by simp))
  |int j=>obtain⟨t',rfl⟩:=ry;exact PySem.EqNone.ne_none_int (fin_bl I q (by simp))
  |str j=>obtain⟨t',rfl⟩:=ry;exact PySem.EqNone.ne_none_str (fin_bl I q (by simp))
  |_=>exact absurd (show false=true from hs) Bool.false_ne_true
 |bl i=>
  cases rx
  cases y with
  |non=>cases ry;exact PySem.EqNone.ne_bool_none (fin_bl I q (by simp))
  |bl j=>cases ry;exact ne_bool (fin_bl I q (congrArg not dec_bl))
  |str j=>obtain⟨t',rfl⟩:=ry;exact PySem.EqMixed.ne_bool_str (fin_bl I q (by simp))
  |_=>exact absurd (show false=true from hs) Bool.false_ne_true
 |int i=>
  obtain⟨t,rfl⟩:=rx
  cases y with
  |non=>cases ry;exact PySem.EqNone.ne_int_none (fin_bl I q (by simp))
  |int j=>obtain⟨t',rfl⟩:=ry;exact ne_int (fin_bl I q (congrArg not dec_int))
  |str j=>obtain⟨t',rfl⟩:=ry;exact PySem.EqMixed.ne_int_str (fin_bl I q (by simp))
  |_=>exact absurd (show false=true from hs) Bool.false_ne_true
 |str i=>
  obtain⟨t,rfl⟩:=rx
  cases y with
  |non=>cases ry;exact PySem.EqNone.ne_str_none (fin_bl I q (by simp))
  |bl j=>cases ry;exact PySem.EqMixed.ne_str_bool (fin_bl I q (by simp))
  |int j=>obtain⟨t',rfl⟩:=ry;exact PySem.EqMixed.ne_str_int (fin_bl I q (by simp))
  |str j=>obtain⟨t',rfl⟩:=ry;exact ne_str (fin_bl I q (congrArg not dec_str))
  |_=>exact absurd (show false=true from hs) Bool.false_ne_true
 |byt i=>
  obtain⟨t,rfl⟩:=rx
  cases y with
  |byt j=>obtain⟨t',rfl⟩:=ry;exact PySem.W.ne_bytes (fin_bl I q (congrArg not dec_byt))
  |_=>exact absurd (show false=true from hs) Bool.false_ne_true
 |_=>cases y<;>exact absurd (show false=true from hs) Bool.false_ne_true
theorem op_lt:OpR X (compareOp .Lt) (rI0 fun i j=>.bl (decide (i<j))):=opB0 fun _ _ _ _ _ _ _ q=>lt_int q
theorem op_gt:OpR X (compareOp .Gt) (rI0 fun i j=>.bl (decide (j<i))):=opB0 fun _ _ _ _ _ _ _ q=>gt_int q
theorem op_in_str:OpR X (compareOp .In) (fun x y H Q=>∃i j,x=.str i/\y=.str j/\Q (.bl (!(Builtin.Str.occurrences j i 0 j.length 1).isEmpty)) H):=by
 intro pins s σ H x y v u Q I rx ry h
 obtain⟨i,j,rfl,rfl,q⟩:=h
 obtain⟨t,rfl⟩:=rx
 obtain⟨t',rfl⟩:=ry
 exact in_str (fin_bl I q rfl)
theorem nomark(b:Expr){op:CmpOp}(h:op≠ .In:=by decide)(h2:op≠ .NotIn:=by decide):behindInMarks op b=false:=by
 have e1:(op==CmpOp.In)=false:=by cases op<;>first|rfl|exact absurd rfl h
 have e2:(op==CmpOp.NotIn)=false:=by cases op<;>first|rfl|exact absurd rfl h2
 cases b<;>simp[behindInMarks,e1,e2]
theorem pe_cmpR{op:CmpOp}{r:R2}(ho:OpR X (compareOp op) r)(ha:PE X a ta)(hb:PE X b tb)(hm:behindInMarks op b=false):PE X (.Compare a [op] [b] pos) (tOp r ta tb):=by
 intro pins s σ H Q I h
 exact wpAny_Compare1 (binT ha hb I h fun v u s2 x y H2 I2 rx ry q=>ho pins s2 σ H2 x y v u Q I2 rx ry q) hm
def tTest(t:TE):TT:=fun σ H Q=>t σ H fun x H'=>∃k,x=.bl k/\Q k H'
theorem pt_cmpR{op:CmpOp}{r:R2}(ho:OpR X (compareOp op) r)(ha:PE X a ta)(hb:PE X b tb)(hm:behindInMarks op b=false):PT X (.Compare a [op] [b] pos) (tTest (tOp r ta tb)):=by
 intro pins s σ H Q I h
 refine wpAny_isTrue_Compare1 (thn (ha pins s σ H _ I h) fun v s1 ⟨x,H1,I1,r1,q1⟩=>thn (hb pins s1 σ H1 _ I1 q1) fun u s2 ⟨y,H2,I2,r2,q2⟩=>
  thn (ho pins s2 σ H2 x y v u _ I2 r1 r2 q2) fun c s3 ⟨z,H3,I3,r3,k,e,q3⟩=>?_) hm
 subst e
 cases r3
 exact wpAny_truthy_bool ⟨H3,I3,q3⟩
theorem line63:(sizeLine:Nat)<2^63:=by rw[sizeLine_eq];decide
theorem op_add_str:OpR X (binaryOp .Add) (fun x y H Q=>∃i j,x=.str i/\y=.str j/\i.length+j.length<=sizeLine/\Q (.str (i++j)) H):=by
 intro pins s σ H x y v u Q I rx ry h
 obtain⟨i,j,rfl,rfl,hz,q⟩:=h
 obtain⟨t,rfl⟩:=rx
 obtain⟨t',rfl⟩:=ry
 exact add_str (fun t' tk=>⟨.str (i++j),H,I.tok _,⟨_,rfl⟩,q⟩) hz
theorem vals1{x:V}{us:List Value}(r:Vals [x] us):∃u,us=[u]/\RelV x u:=by
 cases r with
 |cons r1 r2=>cases r2;exact⟨_,rfl,r1⟩
theorem vals2{x y:V}{us:List Value}(r:Vals [x,y] us):∃u w',us=[u,w']/\RelV x u/\RelV y w':=by
 cases r with
 |cons r1 r2=>
  cases r2 with
  |cons r3 r4=>cases r4;exact⟨_,_,rfl,r1,r3⟩
end
structure ObjM(h:Heap)(x dx C:Addr)(mA:Str->Option Value):Prop where
 obj:h.get? x=some (PySem.W.instObj C dx)
 ns:h.Ns1 dx mA
 ne:dx≠x
theorem lookIn_ns{h:Heap}{dx:Addr}{mA:Str->Option Value}(n:h.Ns1 dx mA):∃od,h.get? dx=some od/\ ∀name,PySem.W.lookIn name od=some (mA name):=by
 obtain⟨o,es,ep,ho,hd,hk,_,hm⟩:=n
 refine⟨o,ho,fun name=>?_⟩
 have e:=hm name
 unfold nsFind findBy at e
 rw[<-Array.find?_toList]at e
 unfold PySem.W.lookIn
 rw[hd]
 dsimp only
 split
 . rename_i y q
   rw[q]at e
   exact congrArg some e
 . rename_i q
   rw[q]at e
   have a:es.toList.any (·.refKey)=false:=by
    rw[List.any_eq_false]
    intro y hy
    obtain⟨z,t,hkey⟩:=hk y (Array.mem_toList_iff.mp hy)
    simp[DictEntry.refKey,hkey]
   have a':¬es.toList.any (·.refKey)=true:=by rw[a];exact Bool.false_ne_true
   rw[if_neg a']
   exact congrArg some e
theorem ObjM.look{h:Heap}{x dx C:Addr}{mA:Str->Option Value}(I:ObjM h x dx C mA):∃od,PySem.W.InstAt h x (PySem.W.instObj C dx) C (some od)/\ ∀name,PySem.W.lookIn name od=some (mA name):=
 let⟨od,ho,hl⟩:=lookIn_ns I.ns
 ⟨od,⟨I.obj,rfl,rfl,ho⟩,hl⟩
section
variable{prog:Program}{w:World}{A:Around}{E:Value->Shared->Prop}{s:Shared}{K:PySem.W.Frag}{x dx C f:Addr}{mA:Str->Option Value}{name:Str}{v:Value}
theorem get_map{expr:Bool}{Q:Value->Shared->Prop}(X:K.In s.heap)(I:ObjM s.heap x dx C mA)(hg:PySem.W.plainGet K C name=true)(hh:PySem.W.hasDictIn K C=true)
 (ha:PySem.W.findIn K (.ref C) name=some none)(hv:mA name=some v)(hv':PySem.W.handedIn v=true)(h:Q v {s with toks:=s.toks+1}):
 wpAny (model prog w) A (getAttr (.ref x) name expr) Q E s:=by
 obtain⟨od,J,hl⟩:=I.look
 exact PySem.W.get_value X J (PySem.W.plainGet_of hg).1 (PySem.W.findObj_own hh ha rfl (by rw[hl,hv])) hv' h
theorem get_meth{pl:Sem Bool}{Q:Value×List Value->Shared->Prop}(X:K.In s.heap)(I:ObjM s.heap x dx C mA)(hg:PySem.W.plainGet K C name=true)
 (hf:PySem.W.findIn K (.ref C) name=some (some (.ref f)))(ht:PySem.W.isFn K (.ref f)=true)(hv:mA name=none)(h:Q (.ref f,[.ref x]) s):
 wpAny (model prog w) A (getMethod (.ref x) name pl) Q E s:=by
 obtain⟨od,J,hl⟩:=I.look
 exact PySem.W.method_fn X J (PySem.W.plainGet_of hg).1 (PySem.W.plainGet_of hg).2 hf (beq_iff_eq.mp ht) (by show(PySem.W.lookIn name od).map (·.isSome)=some false;rw[hl,hv];rfl) h
theorem set_map{ns:List Str}{Q:Unit->Shared->Prop}(X:K.In s.heap)(I:ObjM s.heap x dx C mA)
 (hs:PySem.W.findIn K (.ref C) "__setattr__"=some (some (.builtin "object.__setattr__")))(hp:PySem.W.plainOver K C=true)(ht:PySem.W.takerIn K C name=some none)(hh:PySem.W.hasDictIn K C=true)
 (hw:PySem.Within mA ns)(hsz:ns.length<=sizeLine)
 (h:∀h',ObjM h' x dx C (fun y=>if y=name then some v else mA y)->Heap.SameBut dx s.heap h'->Q () {s with heap:=h',toks:=s.toks+2}):
 wpAny (model prog w) A (setAttr (.ref x) name v) Q E s:=by
 obtain⟨od,J,hl⟩:=I.look
 refine PySem.W.set_plain X J hs (PySem.W.osa_open (s:={s with toks:=s.toks+1}) (r:=none) X J hp ht fun b=>?_)
 obtain⟨cd,hc,hd'⟩:=PySem.W.any_some hh
 have hx:s.heap.get? x=some ⟨.ref C,some dx,.plain, #[]⟩:=I.obj
 refine wpAny_bind (wpAny_pure (wpAny_bind (wpAny_bind (wpAny_loadPart hx (wpAny_bind (PySem.W.Looks.here (s:={s with toks:=s.toks+1}) (PySem.W.looks_clsIn X hc) ?_))))))
 rw[hd']
 refine wpAny_pure (a:=some dx) (wpAny_bind (wpAny_pure (wpAny_bind ?_)))
 refine wpAny_nsSet1 (s:={s with toks:=s.toks+1}) I.ns fun h' hn2 hs2=>?_
 obtain⟨oD,esD,epD,hoD,hdD,hcD⟩:=hn2.count (PySem.Within.cons name v hw)
 refine wpAny_bind (wpAny_lookBehind hoD (by rw[hdD];exact pastItsLine_dict (Nat.le_trans hcD (by rw[length_cons];omega))) ?_)
 exact wpAny_pure (h _ ⟨(hs2.2 _ (Ne.symm I.ne)).trans I.obj,hn2,I.ne⟩ hs2)
theorem make_map{R:Result->Shared->Prop}{vs:List Value}{kw:List (Str×Value)}(X:K.In s.heap)(hm:PySem.W.makesIn K C=true)
 (hi:PySem.W.findIn K (.ref C) "__init__"=some (some (.ref f)))(hf:PySem.W.typeIn K (.ref f)=some (.type "function"))
 (h:codeAny (model prog w) (A.under (.builtin "type.__call__" ⟨.ref C::vs,kw⟩)) (.call (.ref f) ⟨.ref (s.heap.objs.size+1)::vs,kw⟩) (PySem.W.InitBack (s.heap.objs.size+1) R)
  {s with heap:=(s.heap.push PySem.W.emptyDict).push (PySem.W.instObj C s.heap.objs.size)}):
 codeAny (model prog w) A (.call (.ref C) ⟨vs,kw⟩) R s:=by
 obtain⟨hh,g,d,t,os⟩:=s
 exact PySem.W.make_core (PySem.W.makes_of X hm) (PySem.W.looks_findIn X hi) (fun self=>PySem.W.bind_fn X self hf) (.inl rfl) h
end
def putF(f:Str)(v:V):List (Str×V)->List (Str×V)
 |[]=>[(f,v)]
 |(g,x)::r=>if g=f then(g,v)::r else(g,x)::putF f v r
theorem lookup_putF(f g:Str)(v:V):∀fs:List (Str×V),(putF f v fs).lookup g=if g=f then some v else fs.lookup g
 |[]=>by
  show List.lookup g [(f,v)]=_
  by_cases h:g=f
  . have hb:(g==f)=true:=beq_iff_eq.mpr h
    simp only[List.lookup,hb,if_pos h]
  . have hb:(g==f)=false:=beq_eq_false_iff_ne.mpr h
    simp only[List.lookup,hb,if_neg h]
 |(k,x)::r=>by
  have ih:=lookup_putF f g v r
  rw[show putF f v ((k,x)::r)=(if k=f then(k,v)::r else(k,x)::putF f v r)from rfl]
  by_cases hk:k=f
  . rw[if_pos hk]
    by_cases h:g=k
    . have hb:(g==k)=true:=beq_iff_eq.mpr h
      simp only[List.lookup,hb,if_pos (h.trans hk)]
    . have hb:(g==k)=false:=beq_eq_false_iff_ne.mpr h
      simp only[List.lookup,hb,if_neg (fun e:g=f=>h (e.trans hk.symm))]
  . rw[if_neg hk]
    by_cases h:g=k
    . have hb:(g==k)=true:=beq_iff_eq.mpr h
      simp only[List.lookup,hb,if_neg (fun e:g=f=>hk (h.symm.trans e))]
    . have hb:(g==k)=false:=beq_eq_false_iff_ne.mpr h
      simp only[List.lookup,hb]
      exact ih
theorem keys_putF(f:Str)(v:V):∀fs:List (Str×V),f∈(putF f v fs).map (·.1)/\ ∀g,g∈fs.map (·.1)->g∈(putF f v fs).map (·.1)
 |[]=>⟨by simp[putF],fun g h=>by simp at h⟩
 |(k,x)::r=>by
  obtain⟨i1,i2⟩:=keys_putF f v r
  rw[show putF f v ((k,x)::r)=(if k=f then(k,v)::r else(k,x)::putF f v r)from rfl]
  by_cases hk:k=f
  . rw[if_pos hk]
    subst hk
    exact⟨by simp,fun g h=>by simpa using h⟩
  . rw[if_neg hk]
    refine⟨?_,fun g h=>?_⟩
    . rw[map_cons]
      exact mem_cons_of_mem _ i1
    . rw[map_cons]at h⊢
      rcases mem_cons.mp h with e|e
      . exact mem_cons.mpr (.inl e)
      . exact mem_cons_of_mem _ (i2 g e)
theorem length_putF(f:Str)(v:V):∀fs:List (Str×V),(putF f v fs).length<=fs.length+1
 |[]=>by simp[putF]
 |(k,x)::r=>by
  have ih:=length_putF f v r
  rw[show putF f v ((k,x)::r)=(if k=f then(k,v)::r else(k,x)::putF f v r)from rfl]
  by_cases hk:k=f
  . rw[if_pos hk,length_cons,length_cons];omega
  . rw[if_neg hk,length_cons,length_cons];omega
theorem RelO.some_of{v:V}{o:Option Value}(r:RelO (some v) o):∃u,o=some u/\RelV v u:=by
 cases o with
 |none=>exact(show False from r).elim
 |some u=>exact⟨u,rfl,r⟩
theorem RelO.none_of{o:Option Value}(r:RelO none o):o=none:=by
 cases o with
 |none=>rfl
 |some u=>exact(show False from r).elim
theorem handed_of{v:V}{u:Value}(r:RelV v u):PySem.W.handedIn u=true:=by
 cases v with
 |non=>cases(show u=Value.none from r);rfl
 |bl b=>cases(show u=Value.bool b from r);rfl
 |int i=>obtain⟨t,e⟩:=(show∃t,u=Value.int i t from r);cases e;rfl
 |str x=>obtain⟨t,e⟩:=(show∃t,u=Value.str x t from r);cases e;rfl
 |byt b=>obtain⟨t,e⟩:=(show∃t,u=Value.bytes b t from r);cases e;rfl
 |flt b=>obtain⟨t,e⟩:=(show∃t,u=Value.float b t from r);cases e;rfl
 |ref a=>cases(show u=Value.ref a from r);rfl
 |ty n=>cases(show u=Value.type n from r);rfl
section
variable{P:Program}{w:World}{H H':Hp}{h h':Heap}{a C dx:Addr}{fs fs':List (Str×V)}
theorem ins_get(hok:HOk P w H h)(e:H a=some (.ins C dx fs)):∃mA,ObjM h a dx C mA/\(∀f,RelO (fs.lookup f) (mA f))/\PySem.Within mA (fs.map (·.1))/\fs.length<=1000/\H dx=some (.own a):=by
 obtain⟨d,z,ne,ob,mA,n,r,q⟩:=(show ObjOk P w H h a (.ins C dx fs)from hok a _ e)
 exact⟨mA,⟨ob,n,ne⟩,r,q,z,d⟩
end
structure Cls(K:PySem.W.Frag)(C:Addr):Prop where
 pg:PySem.W.plainGet K C Str.empty=true
 hd:PySem.W.hasDictIn K C=true
 po:PySem.W.plainOver K C=true
 sa:PySem.W.findIn K (.ref C) "__setattr__"=some (some (.builtin "object.__setattr__"))
theorem Cls.get{K:PySem.W.Frag}{C:Addr}(c:Cls K C)(f:Str):PySem.W.plainGet K C f=true:=c.pg
def NoAttr(K:PySem.W.Frag)(C:Addr)(f:Str):Prop:=PySem.W.findIn K (.ref C) f=some none
theorem NoAttr.taker{K:PySem.W.Frag}{C:Addr}{f:Str}(n:NoAttr K C f):PySem.W.takerIn K C f=some none:=by
 unfold PySem.W.takerIn
 rw[show PySem.W.findIn K (.ref C) f=some none from n]
 rfl
structure Meth(K:PySem.W.Frag)(C:Addr)(m:Str)(f:Addr):Prop where
 at_:PySem.W.findIn K (.ref C) m=some (some (.ref f))
 fn:PySem.W.isFn K (.ref f)=true
 kp:keepIn K (.ref f)=true
section
variable{X:Cx}{pins:List (Addr×Obj)}{σ:St}{H:Hp}{s:Shared}{a C dx:Addr}{fs:List (Str×V)}{f:Str}{v:V}{A:Around}{E:Value->Shared->Prop}
theorem getattr_ok{b:Bool}{Q:Value->Shared->Prop}(I:Inv X pins σ H s)(e:H a=some (.ins C dx fs))(c:Cls X.K C)(n:NoAttr X.K C f)(l:fs.lookup f=some v)
 (h:∀u s',Inv X pins σ H s'->RelV v u->Q u s'):wpAny (model X.prog X.w) A (getAttr (.ref a) f b) Q E s:=by
 obtain⟨mA,O,r,_,_,_⟩:=ins_get I.hok e
 obtain⟨u,hu,ru⟩:=RelO.some_of (v:=v) (o:=mA f) (by rw[<-l];exact r f)
 exact get_map I.kIn O (c.get f) c.hd n hu (handed_of ru) (h u _ (I.tok _) ru)
theorem getmeth_ok{m:Str}{g:Addr}{pl:Sem Bool}{Q:Value×List Value->Shared->Prop}(I:Inv X pins σ H s)(e:H a=some (.ins C dx fs))(c:Cls X.K C)(k:Meth X.K C m g)(l:fs.lookup m=none)
 (h:Q (.ref g,[.ref a]) s):wpAny (model X.prog X.w) A (getMethod (.ref a) m pl) Q E s:=by
 obtain⟨mA,O,r,_,_,_⟩:=ins_get I.hok e
 have hn:mA m=none:=RelO.none_of (by rw[<-l];exact r m)
 exact get_meth I.kIn O (c.get m) k.at_ k.fn hn h
theorem setattr_ok{y:V}{u:Value}{Q:Unit->Shared->Prop}(I:Inv X pins σ H s)(e:H a=some (.ins C dx fs))(c:Cls X.K C)(n:NoAttr X.K C f)(hl:fs.length<1000)(ry:RelV y u)
 (h:∀s',Inv X pins σ (upd H a (.ins C dx (putF f y fs))) s'->Q () s'):wpAny (model X.prog X.w) A (setAttr (.ref a) f u) Q E s:=by
 obtain⟨mA,O,r,wi,_,ho⟩:=ins_get I.hok e
 have hz:(fs.map (·.1)).length<=sizeLine:=by rw[length_map,sizeLine_eq];omega
 refine set_map I.kIn O c.sa c.po n.taker c.hd wi hz fun h' O' sb=>h _ ?_
 have hd:∃o,h'.get? dx=some o:=let⟨o,_,_,e',_⟩:=O'.ns;⟨o,e'⟩
 refine I.write (x:=a) (e:=dx) (by rw[e];exact True.intro) (.inr ho) (fun b q hb z=>(sb.2 b hb).trans z) hd ?_
 refine⟨by rw[upd_ne O.ne];exact ho,?_,O.ne,O'.obj,_,O'.ns,fun g=>?_,fun g hg=>?_⟩
 . have:=length_putF f y fs;omega
 . show RelO ((putF f y fs).lookup g) (if g=f then some u else mA g)
   rw[lookup_putF]
   by_cases q:g=f
   . rw[if_pos q,if_pos q];exact ry
   . rw[if_neg q,if_neg q];exact r g
 . by_cases q:g=f
   . rw[q];exact(keys_putF f y fs).1
   . refine(keys_putF f y fs).2 g (wi g fun z=>hg ?_)
     show(if g=f then some u else mA g)=none
     rw[if_neg q];exact z
theorem Inv.made(I:Inv X pins σ H s):Inv X pins σ (upd (upd H s.heap.objs.size (.own (s.heap.objs.size+1))) (s.heap.objs.size+1) (.ins C s.heap.objs.size []))
 {s with heap:=(s.heap.push PySem.W.emptyDict).push (PySem.W.instObj C s.heap.objs.size)}:=by
 have e1:(s.heap.push PySem.W.emptyDict).get? s.heap.objs.size=some PySem.W.emptyDict:=get?_push_size s.heap rfl
 have e2:((s.heap.push PySem.W.emptyDict).push (PySem.W.instObj C s.heap.objs.size)).get? (s.heap.objs.size+1)=some (PySem.W.instObj C s.heap.objs.size):=by
  have:=get?_push_size (s.heap.push PySem.W.emptyDict) (o:=PySem.W.instObj C s.heap.objs.size) rfl
  rwa [Heap.size_push]at this
 have e3:(s.heap.push PySem.W.emptyDict).Ns s.heap.objs.size (fun _=>none):=⟨PySem.W.emptyDict, #[],_,e1,rfl,(fun e he=>absurd he (by simp)),fun _=>rfl⟩
 have I1:=I.laid (a:=s.heap.objs.size) (o:=.own (s.heap.objs.size+1)) (h':=s.heap.push PySem.W.emptyDict) (t':=s.toks) (fun b u q=>get?_push_of_some _ q) (Nat.le_refl _) ⟨_,e1⟩
 refine I1.laid (a:=s.heap.objs.size+1) (o:=.ins C s.heap.objs.size []) (t':=s.toks) (fun b u q=>get?_push_of_some _ q) (Nat.le_of_eq (Heap.size_push _ _)) ?_
 have ne:s.heap.objs.size≠s.heap.objs.size+1:=Nat.ne_of_lt (Nat.lt_succ_self _)
 refine⟨by rw[upd_ne ne,upd_same],Nat.zero_le _,ne,e2,fun _=>none,(Heap.Ns1.of_empty e3).at fun o q=>get?_push_of_some _ q,fun _=>True.intro,fun y hy=>absurd rfl hy⟩
theorem attr_of{prog:Program}{w:World}{env:Env}{e:Expr}{f:Str}{pos:Pos}{s:Shared}{Q:Value->Shared->Prop}(hb:attributeBase e f env (eval e env)=eval e env)
 (h:wpAny (model prog w) A (eval e env) (fun o s₁=>wpAny (model prog w) A (getAttr o f true) Q E s₁) E s):wpAny (model prog w) A (eval (.Attribute e f pos) env) Q E s:=
 Attribute_any_ h (by rw[arm_eval_Attribute,hb])
end
def tFld(K:PySem.W.Frag)(ta:TE)(f:Str):TE:=fun σ H Q=>ta σ H fun x H1=>∃a C dx fs v,x=.ref a/\H1 a=some (.ins C dx fs)/\Cls K C/\NoAttr K C f/\fs.lookup f=some v/\Q v H1
def sFld(K:PySem.W.Frag)(ta tv:TE)(f:Str):TS:=fun D σ H=>tv σ H fun y H1=>ta σ H1 fun x H2=>∃a C dx fs,x=.ref a/\H2 a=some (.ins C dx fs)/\Cls K C/\NoAttr K C f/\fs.length<1000/\
 D.nx σ (upd H2 a (.ins C dx (putF f y fs)))
section
variable{X:Cx}{o e value:Expr}{f:Str}{pos pos' tpos:Pos}{ta tv:TE}
theorem pe_fld(he:PE X e ta)(hb:attributeBase e f X.env (eval e X.env)=eval e X.env):PE X (.Attribute e f pos) (tFld X.K ta f):=by
 intro pins s σ H Q I h
 refine attr_of hb (thn (he pins s σ H _ I h) fun u s1 ⟨x,H1,I1,rx,a,C,dx,fs,v,ex,ea,c,n,l,q⟩=>?_)
 subst ex
 obtain rfl:u=Value.ref a:=rx
 exact getattr_ok I1 ea c n l fun u' s2 I2 ru=>⟨v,H1,I2,ru,q⟩
theorem ps_fld(ha:PE X o ta)(hv:PE X value tv)(hs:swapsWith value (some (.Attribute o f pos')) pos.line X.env=pure false):PS X (.Assign [.Attribute o f pos'] value pos) (sFld X.K ta tv f):=by
 intro pins s σ H D I h
 refine plainObj_wpAny_Assign_Attribute (thn (hv pins s σ H _ I h) fun u s1 ⟨y,H1,I1,ry,q⟩=>thn (ha pins s1 σ H1 _ I1 q) fun ov s2 ⟨x,H2,I2,rx,a,C,dx,fs,ex,ea,c,n,l,q2⟩=>?_) hs
 subst ex
 obtain rfl:ov=Value.ref a:=rx
 exact setattr_ok I2 ea c n l ry fun s3 I3=>⟨σ,_,I3,q2⟩
end
structure Room(k:Nat)(A:Around):Prop where
 hd:A.handled=none
 dp:A.depth+3*k+5<recursionLimit
 un:A.units+16*k+200<cLine
theorem Room.mono{j k:Nat}{A:Around}(r:Room k A)(h:j<=k):Room j A:=⟨r.hd,by have:=r.dp;omega,by have:=r.un;omega⟩
theorem Room.deeper{k:Nat}{A:Around}(r:Room (k+1) A)(env:Env):Room k (A.deeper env):=
 ⟨r.hd,by have:=r.dp;show A.depth+1+3*k+5<_;omega,by have:=r.un;show A.units+3+16*k+200<_;omega⟩
theorem Room.in1{k:Nat}{A:Around}(r:Room (k+1) A):Room k A.in1:=
 ⟨r.hd,by have:=r.dp;show A.depth+3*k+5<_;omega,by have:=r.un;show A.units+1+16*k+200<_;omega⟩
theorem make_depth{A:Around}{C:Addr}{us:List Value}{kw:List (Str×Value)}:(A.under (.builtin "type.__call__" ⟨.ref C::us,kw⟩)).depth=A.depth+1:=by
 first|rfl|simp[Around.under,Code.weight,Code.isCreation,Code.isGuard,Code.isCaller,Code.frames,Code.isFrame,guardIds]
theorem make_units{A:Around}{C:Addr}{us:List Value}{kw:List (Str×Value)}:(A.under (.builtin "type.__call__" ⟨.ref C::us,kw⟩)).units=A.units+1:=by
 first|rfl|simp[Around.under,Code.cUnits,Code.frames,Code.isFrame]
theorem Room.make{k:Nat}{A:Around}(r:Room (k+1) A)(C:Addr)(us:List Value)(kw:List (Str×Value)):Room k (A.under (.builtin "type.__call__" ⟨.ref C::us,kw⟩)):=
 ⟨r.hd,by have:=r.dp;rw[make_depth];omega,by have:=r.un;rw[make_units];omega⟩
theorem Room.depth{k:Nat}{A:Around}(r:Room k A):A.depth<recursionLimit:=by have:=r.dp;omega
theorem Room.units{k:Nat}{A:Around}(r:Room k A):A.units+64<cLine:=by have:=r.un;omega
def tNil:TA:=fun _ H Q=>Q [] H
def tCons(ta:TE)(tr:TA):TA:=fun σ H Q=>ta σ H fun x H1=>tr σ H1 fun xs H2=>Q (x::xs) H2
section
variable{X:Cx}{e:Expr}{es:List Expr}{te:TE}{t:TA}{pos:Pos}
theorem pa_nil:PA X [] tNil:=fun _ _ _ _ H Q I h=>Calls.spliced_nil ⟨[],H,I,.nil,h⟩
theorem pa_cons(ha:PE X e te)(hr:PA X es t)(hs:starEach (e::es) X.env=(false,eval e X.env)::starEach es X.env:=by rfl):PA X (e::es) (tCons te t):=by
 intro pos pins s σ H Q I h
 rw[hs]
 show wpAny _ _ (spliced ((false,eval e X.env)::backTo pos (starEach es X.env))) _ _ s
 refine Calls.spliced_cons (thn (ha pins s σ H _ I h) fun u s1 ⟨x,H1,I1,r1,q1⟩=>?_)
 exact thn (hr pos pins s1 σ H1 _ I1 q1) fun us s2 ⟨xs,H2,I2,r2,q2⟩=>⟨x::xs,H2,I2,.cons r1 r2,q2⟩
def tTup(t:TA):TE:=fun σ H Q=>t σ H fun xs H1=>xs.length<=sizeLine/\ ∀p,H1 p=none->Q (.ref p) (upd H1 p (.tup xs))
def tLst(t:TA):TE:=fun σ H Q=>t σ H fun xs H1=>xs.length<=sizeLine/\ ∀p,H1 p=none->Q (.ref p) (upd H1 p (.lst xs))
theorem pe_tup{x1}(h:PA X es t):PE X (.Tuple es x1 pos) (tTup t):=by
 intro pins s σ H Q I hq
 refine wpAny_Tuple_spliced (thn (h pos pins s σ H _ I hq) fun us s1 ⟨xs,H1,I1,r,z,q⟩=>⟨by rw[<-r.length];exact z,?_⟩)
 have hf:H1 s1.heap.objs.size=none:=I1.hok.fresh (Nat.le_refl _)
 refine⟨.ref s1.heap.objs.size,upd H1 s1.heap.objs.size (.tup xs),I1.laid (t':=s1.toks) (fun b u e=>get?_push_of_some _ e) (Nat.le_refl _) ?_,rfl,q _ hf⟩
 exact⟨z,us,r,⟨_,get?_push_size _ rfl,rfl,_,rfl⟩⟩
theorem pe_lst(h:PA X es t):PE X (.List es pos) (tLst t):=by
 intro pins s σ H Q I hq
 refine wpAny_List_spliced (thn (h pos pins s σ H _ I hq) fun us s1 ⟨xs,H1,I1,r,z,q⟩=>⟨by rw[<-r.length];exact z,?_⟩)
 have hf:H1 s1.heap.objs.size=none:=I1.hok.fresh (Nat.le_refl _)
 refine⟨.ref s1.heap.objs.size,upd H1 s1.heap.objs.size (.lst xs),I1.laid (t':=s1.toks) (fun b u e=>get?_push_of_some _ e) (Nat.le_refl _) ?_,rfl,q _ hf⟩
 exact⟨z,us,0,r,get?_push_size _ rfl⟩
end
abbrev Sp:=List V->Hp->VK->XK->Prop
abbrev CXT:=List Env->Hp->Shared->XK->Value->Shared->Prop
structure Env0(P:Program)(w:World)(K:PySem.W.Frag)(mg:Str->Option Value)(base:Heap)(A:Around)(outer:List Env)(s:Shared)(H:Hp):Prop where
 frames:A.frames=some outer
 mod:Mod K mg base
 bs:∀b o,base.get? b=some o->s.heap.get? b=some o/\H b=none
 bsz:base.objs.size<=s.heap.objs.size
 funs:s.heap.FunFrames base outer
 frf:∀b∈frs outer,H b=none
 hok:HOk P w H s.heap
 bare:AllBare s.gens
def CE(outer:List Env)(P:Program)(w:World)(H:Hp)(s:Shared)(Q:VK)(u:Value)(s':Shared):Prop:=
 ∃v H',s'.os=s.os/\AllBare s'.gens/\Un (frs outer) [] H H' s.heap s'.heap/\HOk P w H' s'.heap/\RelV v u/\Q v H'
def CR(CX:CXT)(outer:List Env)(P:Program)(w:World)(H:Hp)(s:Shared)(Q:VK)(E:XK)(r:Result)(s':Shared):Prop:=
 match r with
 |.ok (.ret u)=>CE outer P w H s Q u s'
 |.ok _=>False
 |.error e=>CX outer H s E e s'
structure FnOk(P:Program)(w:World)(K:PySem.W.Frag)(mg:Str->Option Value)(base:Heap)(CX:CXT)(k:Nat)(f:Addr)(fd:FuncData)(ps:List Str)(sp:Sp):Prop where
 len:∀vs H Q E,sp vs H Q E->vs.length=ps.length
 run:∀(A:Around) (outer:List Env) (s:Shared) (H:Hp) (args:Args) (us:List Value) (vs:List V) (Q:VK) (E:XK),Room k A->Env0 P w K mg base A outer s H->BindsTo s fd args (ps.zip us)->Vals vs us->sp vs H Q E->
  codeAny (model P w) A (.call (.ref f) args) (CR CX outer P w H s Q E) s
theorem FnOk.imp{P:Program}{w:World}{K:PySem.W.Frag}{mg:Str->Option Value}{base:Heap}{CX:CXT}{k:Nat}{f:Addr}{fd:FuncData}{ps:List Str}{sp sp':Sp}(F:FnOk P w K mg base CX k f fd ps sp)
 (h:∀vs H Q E,sp' vs H Q E->sp vs H Q E):FnOk P w K mg base CX k f fd ps sp':=
 ⟨fun vs H Q E q=>F.len vs H Q E (h _ _ _ _ q),fun A outer s H args us vs Q E hr he hb hv hs=>F.run A outer s H args us vs Q E hr he hb hv (h _ _ _ _ hs)⟩
theorem Env0.make{P:Program}{w:World}{K:PySem.W.Frag}{mg:Str->Option Value}{base:Heap}{A:Around}{outer:List Env}{s:Shared}{H:Hp}(e:Env0 P w K mg base A outer s H)(C:Addr)(us:List Value)(kw:List (Str×Value)):
 Env0 P w K mg base (A.under (.builtin "type.__call__" ⟨.ref C::us,kw⟩)) outer s H:=⟨by first|exact e.frames|(simpa[Around.under,Code.envs,Code.isFrame,pushEnvs]using e.frames),e.mod,e.bs,e.bsz,e.funs,e.frf,e.hok,e.bare⟩
section
variable{X:Cx}{pins:List (Addr×Obj)}{σ:St}{H:Hp}{s s':Shared}
theorem Inv.env0(I:Inv X pins σ H s):Env0 X.prog X.w X.K X.mg X.base X.A X.stack s H:=
 ⟨I.ok.frames,I.ok.mod,I.bs,Nat.le_trans I.ok.bsz I.sz,I.stack,I.stkFree,I.hok,I.bare⟩
theorem Inv.after{Q:VK}{u:Value}(I:Inv X pins σ H s)(h:CE X.stack X.prog X.w H s Q u s'):EP X pins σ Q u s':=by
 obtain⟨v,H',os,bare,un,hok,r,q⟩:=h
 obtain⟨hh,g,d,t,os'⟩:=s'
 obtain rfl:os'=s.os:=os
 exact⟨v,H',I.call (h':=hh) (g':=g) (d':=d) (t':=t) (ch:=[]) un hok bare (fun b z=>absurd z (by simp)),r,q⟩
end
def tCall(sp:Sp)(dvs:List V)(E:XK)(t:TA):TE:=fun σ H Q=>t σ H fun vs H1=>sp (vs++dvs) H1 Q E
def tMeth(C:Addr)(m:Str)(sp:Sp)(dvs:List V)(E:XK)(ta:TE)(t:TA):TE:=fun σ H Q=>ta σ H fun x H1=>∃a dx fs,x=.ref a/\H1 a=some (.ins C dx fs)/\fs.lookup m=none/\
 t σ H1 fun vs H2=>sp (x::(vs++dvs)) H2 Q E
def tMake(C:Addr)(sp:Sp)(dvs:List V)(E:XK)(t:TA):TE:=fun σ H Q=>t σ H fun vs H1=>∀x dx,H1 x=none->H1 dx=none->dx≠x->
 sp (.ref x::(vs++dvs)) (upd (upd H1 dx (.own x)) x (.ins C dx [])) (fun v H2=>v=.non/\Q (.ref x) H2) E
def Binds(K:PySem.W.Frag)(fd:FuncData)(ps:List Str)(ds:List Value):Prop:=
 ∀(s:Shared) (us:List Value),K.In s.heap->(us++ds).length=ps.length->BindsTo s fd ⟨us,[]⟩ (ps.zip (us++ds))
theorem Binds.all{K:PySem.W.Frag}{fd:FuncData}{ps:List Str}(h:∀us:List Value,us.length=ps.length->bindArgs fd ⟨us,[]⟩=pure (ps.zip us)):Binds K fd ps []:=fun s us _ hl=>by
 rw[append_nil]at hl⊢
 exact .of_eq (h us hl)
def Passes(CX:CXT)(X:Cx)(E:XK):Prop:=∀(pins:List (Addr×Obj)) (σ:St) (H:Hp) (s:Shared) (e:Value) (s':Shared),Inv X pins σ H s->CX X.stack H s E e s'->X.xe e s'
section
variable{X:Cx}{CX:CXT}{k:Nat}{f C:Addr}{fd:FuncData}{ps:List Str}{sp:Sp}{dvs:List V}{ds:List Value}{E:XK}{x m:Str}{p pos apos:Pos}{e o:Expr}{es:List Expr}{ta:TE}{t:TA}
theorem run_fn{pins:List (Addr×Obj)}{σ:St}{H:Hp}{s:Shared}{Q:VK}{us:List Value}{vs:List V}(F:FnOk X.prog X.w X.K X.mg X.base CX k f fd ps sp)(hr:Room k X.A)(hb:Binds X.K fd ps ds)(hd:Vals dvs ds)(hx:Passes CX X E)
 (I:Inv X pins σ H s)(r:Vals vs us)(h:sp (vs++dvs) H Q E):wpAny (model X.prog X.w) X.A (call (.ref f) us) (EP X pins σ Q) X.xe s:=by
 have r2:Vals (vs++dvs) (us++ds):=r.append hd
 have hl:(us++ds).length=ps.length:=by rw[<-r2.length];exact F.len _ _ _ _ h
 refine wpAny_call (codeAny_mono (F.run X.A X.stack s H ⟨us,[]⟩ (us++ds) (vs++dvs) Q E hr I.env0 (hb s us I.kIn hl) r2 h) fun r s' hq=>?_)
 cases r with
 |error e=>exact hx pins σ H s e s' I hq
 |ok fl=>
  cases fl with
  |ret u=>exact I.after hq
  |next=>exact False.elim hq
  |brk=>exact False.elim hq
  |cont=>exact False.elim hq
theorem pe_call(F:FnOk X.prog X.w X.K X.mg X.base CX k f fd ps sp)(hr:Room k X.A)(hg:Gl X x)(hm:X.mg x=some (.ref f))(hk:keepIn X.K (.ref f)=true)(hb:Binds X.K fd ps ds)(hd:Vals dvs ds)(hx:Passes CX X E)
 (ha:PA X (e::es) t)(hdb:(x==("__debug__":Str))=false:=by decide)(he:starEach (e::es) X.env=(false,eval e X.env)::starEach es X.env:=by rfl)(hpl:(backTo pos (starEach es X.env)).any (·.1)=false:=by rfl):
 PE X (.Call (.Name x p) (e::es) [] pos) (tCall sp dvs E t):=by
 intro pins s σ H Q I h
 refine wpAny_Call_Name_kw (ld_glob I hg hm ?_ hdb)
 refine PySem.W.callWith_K (h₀:=X.base) I.ok.mod.kin hk (thn (ha pos pins s σ H _ I h) fun us s1 ⟨vs,H1,I1,r,q⟩=>⟨I1.kIn,?_⟩) he hpl
 exact run_fn F hr hb hd hx I1 r q
theorem pe_meth{pl:Sem Bool}(he:PE X o ta)(c:Cls X.K C)(hm:Meth X.K C m f)(F:FnOk X.prog X.w X.K X.mg X.base CX k f fd ps sp)(hr:Room k X.A)(hb:Binds X.K fd ps ds)(hd:Vals dvs ds)(hx:Passes CX X E)(ha:PA X (e::es) t)
 (hst:starEach (e::es) X.env=(false,eval e X.env)::starEach es X.env:=by rfl)(hpl:(backTo pos (starEach es X.env)).any (·.1)=false:=by rfl)
 (ht:eval (.Call (.Attribute o m apos) (e::es) [] pos) X.env=(do
  let ov<-eval o X.env
  standAt apos.atName
  let(f,first)<-holding [ov] (getMethod ov m pl)
  callWith pos f first (backTo pos (starEach (e::es) X.env)) (backToKw pos (keywordEach [] X.env))):=by rfl):
 PE X (.Call (.Attribute o m apos) (e::es) [] pos) (tMeth C m sp dvs E ta t):=by
 intro pins s σ H Q I h
 refine PySem.W.methodCall_KW (pl:=pl) (thn (he pins s σ H _ I h) fun u s1 ⟨x,H1,I1,rx,a,dx,fs,ex,ea,l,q⟩=>?_) ht
 subst ex
 obtain rfl:u=Value.ref a:=rx
 refine getmeth_ok I1 ea c hm l ?_
 refine PySem.W.callWith_K (first:=[.ref a]) (h₀:=X.base) I.ok.mod.kin hm.kp (thn (ha pos pins s1 σ H1 _ I1 q) fun us s2 ⟨vs,H2,I2,r,q2⟩=>⟨I2.kIn,?_⟩) hst hpl
 exact run_fn (us:=.ref a::us) (vs:=.ref a::vs) F hr hb hd hx I2 (.cons rfl r) q2
theorem pe_meth0{pl:Sem Bool}(he:PE X o ta)(c:Cls X.K C)(hm:Meth X.K C m f)(F:FnOk X.prog X.w X.K X.mg X.base CX k f fd ps sp)(hr:Room k X.A)(hb:Binds X.K fd ps ds)(hd:Vals dvs ds)(hx:Passes CX X E)
 (ht:eval (.Call (.Attribute o m apos) [] [] pos) X.env=(do
  let ov<-eval o X.env
  standAt apos.atName
  let(f,first)<-holding [ov] (getMethod ov m pl)
  callWith pos f first (backTo pos (starEach [] X.env)) (backToKw pos (keywordEach [] X.env))):=by rfl):
 PE X (.Call (.Attribute o m apos) [] [] pos) (tMeth C m sp dvs E ta tNil):=by
 intro pins s σ H Q I h
 refine PySem.W.methodCall_KW (pl:=pl) (thn (he pins s σ H _ I h) fun u s1 ⟨x,H1,I1,rx,a,dx,fs,ex,ea,l,q⟩=>?_) ht
 subst ex
 obtain rfl:u=Value.ref a:=rx
 refine getmeth_ok I1 ea c hm l ?_
 exact PySem.W.callWith_K0 (first:=[.ref a]) I1.kIn hm.kp (run_fn (us:=[.ref a]) (vs:=[.ref a]) F hr hb hd hx I1 (.cons rfl .nil) q)
structure Mk(K:PySem.W.Frag)(C f:Addr):Prop where
 makes:PySem.W.makesIn K C=true
 init:PySem.W.findIn K (.ref C) "__init__"=some (some (.ref f))
 fn:PySem.W.isFn K (.ref f)=true
 kp:keepIn K (.ref C)=true
theorem run_make{pins:List (Addr×Obj)}{σ:St}{H:Hp}{s:Shared}{Q:VK}{us:List Value}{vs:List V}(M:Mk X.K C f)(F:FnOk X.prog X.w X.K X.mg X.base CX k f fd ps sp)(hr:Room (k+1) X.A)(hb:Binds X.K fd ps ds)(hd:Vals dvs ds)
 (hx:Passes CX X E)(I:Inv X pins σ H s)(r:Vals vs us)
 (h:∀x dx,H x=none->H dx=none->dx≠x->sp (.ref x::(vs++dvs)) (upd (upd H dx (.own x)) x (.ins C dx [])) (fun v H2=>v=.non/\Q (.ref x) H2) E):
 wpAny (model X.prog X.w) X.A (call (.ref C) us) (EP X pins σ Q) X.xe s:=by
 have hq:=h (s.heap.objs.size+1) s.heap.objs.size (I.hok.fresh (Nat.le_succ _)) (I.hok.fresh (Nat.le_refl _)) (Nat.ne_of_lt (Nat.lt_succ_self _))
 have I2:=Inv.made (C:=C) I
 have r2:Vals (V.ref (s.heap.objs.size+1)::(vs++dvs)) (Value.ref (s.heap.objs.size+1)::(us++ds)):=.cons rfl (r.append hd)
 have hl:(Value.ref (s.heap.objs.size+1)::us++ds).length=ps.length:=by
  have e:=r2.length
  rw[F.len _ _ _ _ hq]at e
  exact e.symm
 refine wpAny_call (make_map (f:=f) I.kIn M.makes M.init (beq_iff_eq.mp M.fn) (codeAny_mono (F.run _ X.stack _ _ ⟨Value.ref (s.heap.objs.size+1)::us,[]⟩ (Value.ref (s.heap.objs.size+1)::(us++ds)) _ _ E (hr.make C us [])
  (I2.env0.make C us []) (hb _ (Value.ref (s.heap.objs.size+1)::us) I2.kIn hl) r2 hq) fun r s' hq'=>?_))
 cases r with
 |error e=>exact hx pins σ _ _ e s' I2 hq'
 |ok fl=>
  cases fl with
  |ret u=>
   obtain⟨v,H',I3,rv,ev,q3⟩:=I2.after hq'
   subst ev
   exact⟨rv,⟨V.ref (s.heap.objs.size+1),H',I3,rfl,q3⟩⟩
  |next=>exact False.elim hq'
  |brk=>exact False.elim hq'
  |cont=>exact False.elim hq'
theorem pe_make0(M:Mk X.K C f)(F:FnOk X.prog X.w X.K X.mg X.base CX k f fd ps sp)(hr:Room (k+1) X.A)(hg:Gl X x)(hm:X.mg x=some (.ref C))(hb:Binds X.K fd ps ds)(hd:Vals dvs ds)(hx:Passes CX X E)
 (hdb:(x==("__debug__":Str))=false:=by decide):PE X (.Call (.Name x p) [] [] pos) (tMake C sp dvs E tNil):=by
 intro pins s σ H Q I h
 refine wpAny_Call_Name_kw (ld_glob I hg hm ?_ hdb)
 exact PySem.W.callWith_K0 I.kIn M.kp (run_make (us:=[]) M F hr hb hd hx I .nil h)
end
structure FnScope(N P:List Str)(sc:Scope):Prop where
 kind:sc.kind=.function
 co:sc.isCoroutine=false
 gen:sc.isGenerator=false
 nd:N.Nodup
 pre:N.take P.length=P
 par:∀x∈P,sc.names.lookup x=some .local\/sc.names.lookup x=some .cell
 nofree:∀y∈sc.names,y.2≠ .free
theorem bindL_out{kindOf:Str->Option NameKind}{x:Str}:∀{binds:List (Str×Value)} {m:Str->Option Value},(∀v,(x,v)∉binds)->bindL kindOf binds m x=m x
 |[],_,_=>rfl
 |(n,v)::r,m,h=>by
  unfold bindL
  rw[bindL_out fun w hw=>h w (mem_cons_of_mem _ hw)]
  split
  . have:x≠n:=by rintro rfl;exact h v mem_cons_self
    simp[this]
  . rfl
theorem bindC_out{kindOf:Str->Option NameKind}{x:Str}:∀{binds:List (Str×Value)} {m:Str->Option Value},(∀v,(x,v)∉binds)->bindC kindOf binds m x=m x
 |[],_,_=>rfl
 |(n,v)::r,m,h=>by
  unfold bindC
  rw[bindC_out fun w hw=>h w (mem_cons_of_mem _ hw)]
  split
  . rfl
  . have:x≠n:=by rintro rfl;exact h v mem_cons_self
    simp[this]
theorem bindL_get{kindOf:Str->Option NameKind}{x:Str}{v:Value}:∀{P:List Str} {vs:List Value} {i:Nat} {m:Str->Option Value},P.Nodup->P[i]? =some x->vs[i]? =some v->kindOf x=some .local->
 bindL kindOf (P.zip vs) m x=some v
 |[],_,_,_,_,h,_,_=>by simp at h
 |_::_,[],_,_,_,_,h,_=>by simp at h
 |p::P,w::vs,0,m,nd,h1,h2,hk=>by
  simp at h1 h2;subst h1;subst h2
  show bindL kindOf ((p,w)::P.zip vs) m p=_
  unfold bindL
  rw[bindL_out fun v hv=>(nodup_cons.mp nd).1 (List.of_mem_zip hv).1,if_pos hk]
  simp
 |p::P,w::vs,i+1,m,nd,h1,h2,hk=>by
  show bindL kindOf ((p,w)::P.zip vs) m x=_
  unfold bindL
  exact bindL_get (i:=i) (nodup_cons.mp nd).2 (by simpa using h1) (by simpa using h2) hk
theorem bindC_get{kindOf:Str->Option NameKind}{x:Str}{v:Value}:∀{P:List Str} {vs:List Value} {i:Nat} {m:Str->Option Value},P.Nodup->P[i]? =some x->vs[i]? =some v->kindOf x≠some .local->
 bindC kindOf (P.zip vs) m x=some v
 |[],_,_,_,_,h,_,_=>by simp at h
 |_::_,[],_,_,_,_,h,_=>by simp at h
 |p::P,w::vs,0,m,nd,h1,h2,hk=>by
  simp at h1 h2;subst h1;subst h2
  show bindC kindOf ((p,w)::P.zip vs) m p=_
  unfold bindC
  rw[bindC_out fun v hv=>(nodup_cons.mp nd).1 (List.of_mem_zip hv).1,if_neg hk]
  simp
 |p::P,w::vs,i+1,m,nd,h1,h2,hk=>by
  show bindC kindOf ((p,w)::P.zip vs) m x=_
  unfold bindC
  exact bindC_get (i:=i) (nodup_cons.mp nd).2 (by simpa using h1) (by simpa using h2) hk
def start(N:List Str)(vs:List V):St:=vs.map some++List.replicate (N.length-vs.length) none
def cxOf(CX:CXT)(P:Program)(w:World)(K:PySem.W.Frag)(mg:Str->Option Value)(base:Heap)(N:List Str)(qual:Str)(scope:Scope)(f:Addr)(cd:Value)(A:Around)(outer:List Env)(s:Shared)(H:Hp)(E:XK):Cx where
 prog:=P
 w:=w
 K:=K
 mg:=mg
 base:=base
 A:=A.deeper (envOfC qual scope s.heap.objs.size f cd)
 N:=N
 s₀:=s
 H₀:=H
 env:=envOfC qual scope s.heap.objs.size f cd
 outer:=outer
 stack:=envOfC qual scope s.heap.objs.size f cd::outer
 ex:=[]
 calm:=true
 fn:=fun _=>true
 pn:=[]
 xe:=fun e s'=>wpAny (model P w) (A.deeper (envOfC qual scope s.heap.objs.size f cd)) (leaving (envOfC qual scope s.heap.objs.size f cd) e) (fun _ s''=>CX outer H s E e s'') (fun e' s''=>CX outer H s E e' s'') s'
theorem cell_has{sc:Scope}{n:Nat}{x:Str}(h:sc.names.lookup x=some .cell):∃c,(cellsFrom n sc.names []).lookup x=some c:=by
 have q:=PySem.W.cellsFrom_some sc.names n [] (.inl h)
 exact Option.isSome_iff_exists.mp q
theorem inv_start{CX:CXT}{P:Program}{w:World}{K:PySem.W.Frag}{mg:Str->Option Value}{base:Heap}{N ps:List Str}{qual:Str}{scope:Scope}{f:Addr}{cd:Value}{A:Around}{outer:List Env}{s s1:Shared}{H:Hp}{E:XK}{us:List Value}{vs:List V}
 (S:FnScope N ps scope)(hd:A.handled=none)(e0:Env0 P w K mg base A outer s H)(hl:vs.length=ps.length)(r:Vals vs us)
 (x:InCallC s s.heap.objs.size (bindL (envOfC qual scope s.heap.objs.size f cd).kindOf (ps.zip us) fun _=>none) (cellsFrom (s.heap.objs.size+1) scope.names []) (bindC (envOfC qual scope s.heap.objs.size f cd).kindOf (ps.zip us) fun _=>none) s1):
 Inv (cxOf CX P w K mg base N qual scope f cd A outer s H E) [] (start N vs) H s1:=by
 have hpl:ps.length<=N.length:=by have:=congrArg List.length S.pre;rw[length_take]at this;omega
 obtain⟨h1,tk,rfl,hk⟩:=x.done
 have noA:∀b:Addr,b∉(cxOf CX P w K mg base N qual scope f cd A outer s H E).ex:=fun b z=>absurd (show b∈([]:List Addr)from z) (by simp)
 refine⟨⟨e0.mod,S.kind,rfl,rfl,Nat.le_refl _,fun y z c h1 h2=>?_,fun y hy=>?_,fun y c _ h=>?_,fun _=>hd,Around.frames_deeper e0.frames,.inr ⟨rfl,rfl⟩,fun b z=>absurd z (noA b),e0.bs,e0.bsz,fun b _ _=>noA b,fun b z=>absurd z (noA b),e0.funs,e0.frf⟩,
  rfl,e0.bare,Un.kept hk,⟨_,x.toInCall.ns,fun i y v h1 h2 h3=>?_⟩,fun y c h=>⟨_,x.cell y c h⟩,e0.hok.fresh (Nat.le_refl _),fun y c h=>?_,fun p hp=>absurd (show p∈([]:List (Addr×Obj))from hp) (by simp),e0.hok.kept hk,?_⟩
 . exact name_of_addr x.apart (PySem.mem_of_lookup h1) (PySem.mem_of_lookup h2)
 . have hy:scope.names.lookup y=some .cell\/scope.names.lookup y=some .free:=hy
   rcases hy with hy|hy
   . exact cell_has hy
   . exact absurd rfl (S.nofree _ (PySem.mem_of_lookup hy))
 . exact Nat.le_of_lt (x.above y c (PySem.mem_of_lookup h))
 . have hi:i<vs.length:=by
    unfold start at h2
    by_cases hi:i<vs.length
    . exact hi
    . rw[getElem?_append_right (by simpa using hi)]at h2
      rw[List.getElem?_replicate]at h2
      split at h2<;>cases h2
   have ha:vs[i]? =some v:=by
    unfold start at h2
    rw[getElem?_append_left (by simpa using hi),getElem?_map]at h2
    cases e:vs[i]? with
    |none=>rw[e]at h2;cases h2
    |some a=>rw[e]at h2;cases h2;rfl
   obtain⟨u,hu,rv⟩:=r.get ha
   have hp:ps[i]? =some y:=by
    rw[<-S.pre,List.getElem?_take_of_lt (by omega)];exact h1
   have ndP:ps.Nodup:=by rw[<-S.pre];exact S.nd.sublist (List.take_sublist _ _)
   refine⟨u,rv,?_⟩
   rcases S.par y (mem_of_getElem? hp)with k|k
   . exact .inl ⟨k,bindL_get ndP hp hu k⟩
   . obtain⟨c,e⟩:=cell_has (n:=s.heap.objs.size+1) k
     refine .inr ⟨.inl k,c,e,?_⟩
     have q:=x.cell y c e
     rw[bindC_get ndP hp hu (by show scope.names.lookup y≠_;rw[k];decide)]at q
     exact q
 . exact e0.hok.fresh (Nat.le_of_lt (x.above y c (PySem.mem_of_lookup h)))
 . unfold start
   show _=N.length
   rw[List.length_append,length_map,List.length_replicate]
   omega
theorem fn_of{CX:CXT}{P:Program}{w:World}{K:PySem.W.Frag}{mg:Str->Option Value}{base:Heap}{k:Nat}{f:Addr}{name qual:Str}{params:Arguments}{body:List Stmt}{scope:Scope}{dV kV doc pm cdv ct oc:Value}{an od:Option Addr}
 {osl:Array (Option Value)}{N ps:List Str}{sp:Sp}(lk:K.lookup f=some ⟨oc,od,.func (PySem.W.fnOf name qual params body scope dV kV doc pm an cdv ct),osl⟩)(hcd:PySem.W.codeIn K cdv qual=true)(S:FnScope N ps scope)
 (len:∀vs H Q E,sp vs H Q E->vs.length=ps.length)
 (hbody:∀(A:Around) (outer:List Env) (s:Shared) (H:Hp) (vs:List V) (Q:VK) (E:XK),Room k (A.deeper (envOfC qual scope s.heap.objs.size f cdv))->sp vs H Q E->
  ∃t,PSs (cxOf CX P w K mg base N qual scope f cdv A outer s H E) body t/\t {nx:=fun _ H'=>Q .non H',rt:=Q} (start N vs) H):
 FnOk P w K mg base CX (k+1) f (PySem.W.fnOf name qual params body scope dV kV doc pm an cdv ct) ps sp:=by
 refine⟨len,fun A outer s H args us vs Q E hr e0 hb r hsp=>?_⟩
 have hl:=len _ _ _ _ hsp
 have KX:K.In s.heap:=e0.mod.kin.keeps fun b o e=>(e0.bs b o e).1
 have lim:s.heap.NoLimit:=e0.mod.nolimit.keeps fun b o e=>(e0.bs b o e).1
 have hkind:∀y∈ps.zip us,scope.names.lookup y.1=some .local\/(scope.names.lookup y.1=some .cell/\((cellsFrom (s.heap.objs.size+1) scope.names []).lookup y.1).isSome=true):=fun⟨n,v⟩ hy=>by
  rcases S.par n (List.of_mem_zip hy).1 with q|q
  . exact .inl q
  . exact .inr ⟨q,PySem.W.cellsFrom_some _ _ _ (.inl q)⟩
 refine codeAny_call_function hr.depth (KX _ _ lk) rfl S.co S.gen rfl (PySem.W.codeRec_of KX hcd) (hb _ _ _ _ ?_)
 refine wpAny_newFunctionEnv_cells S.kind hkind fun env he s1 x=>?_
 subst he
 refine⟨lim.keeps x.toInCall.keep,codeAny_func ?_⟩
 obtain⟨t,ht,hq⟩:=hbody A outer s H vs Q E (hr.deeper _) hsp
 have I:Inv (cxOf CX P w K mg base N qual scope f cdv A outer s H E) [] (start N vs) H s1:=inv_start S hr.hd e0 hl r x
 refine wpAny_mono (ht [] s1 (start N vs) H _ I hq) (fun fl s' hs=>?_) fun e s' hs=>hs
 have fin:∀{σ':St} {H':Hp} {v:V} {u:Value},Inv (cxOf CX P w K mg base N qual scope f cdv A outer s H E) [] σ' H' s'->RelV v u->Q v H'->CE outer P w H s Q u s':=
  fun{σ' H' v u} J rv q=>⟨v,H',J.os,J.bare,J.base,J.hok,rv,q⟩
 cases fl with
 |ret u=>
  obtain⟨v,σ',H',J,rv,q⟩:=hs
  exact fin J rv q
 |next=>
  obtain⟨σ',H',J,q⟩:=hs
  exact fin (v:=V.non) (u:=Value.none) J rfl q
 |brk=>
  obtain⟨_,_,_,q⟩:=hs
  exact False.elim q
 |cont=>
  obtain⟨_,_,_,q⟩:=hs
  exact False.elim q
section
variable{X:Cx}{x:Str}{p pos:Pos}{e:Expr}{es:List Expr}{t:TA}{id T:String}{r:List V->Hp->VK->Prop}
def tCB(r:List V->Hp->VK->Prop)(t:TA):TE:=fun σ H Q=>t σ H fun vs H1=>r vs H1 Q
theorem pe_callB(hc:CallR X (.builtin id) r)(hg:Gl X x)(hm:X.mg x=none)(hv:bootBuiltins x=some (.builtin id))(ha:PA X (e::es) t)(hn:x≠"__name__":=by decide)(hdb:(x==("__debug__":Str))=false:=by decide)
 (he:starEach (e::es) X.env=(false,eval e X.env)::starEach es X.env:=by rfl)(hpl:(backTo pos (starEach es X.env)).any (·.1)=false:=by rfl):PE X (.Call (.Name x p) (e::es) [] pos) (tCB r t):=by
 intro pins s σ H Q I h
 refine wpAny_Call_Name_kw (ld_blt I hg hm hv ?_ hn hdb)
 exact PyProof.Rows.callWith_builtin1 (thn (ha pos pins s σ H _ I h) fun us s1 ⟨vs,H1,I1,r1,q1⟩=>hc pins s1 σ H1 vs us Q I1 r1 q1) he hpl
theorem pe_callTy(hc:CallR X (.type T) r)(hg:Gl X x)(hm:X.mg x=none)(hv:bootBuiltins x=some (.type T))(ha:PA X (e::es) t)(hn:x≠"__name__":=by decide)(hdb:(x==("__debug__":Str))=false:=by decide)
 (he:starEach (e::es) X.env=(false,eval e X.env)::starEach es X.env:=by rfl)(hpl:(backTo pos (starEach es X.env)).any (·.1)=false:=by rfl):PE X (.Call (.Name x p) (e::es) [] pos) (tCB r t):=by
 intro pins s σ H Q I h
 refine wpAny_Call_Name_kw (ld_blt I hg hm hv ?_ hn hdb)
 exact PyProof.Rows.callWith_type1 (thn (ha pos pins s σ H _ I h) fun us s1 ⟨vs,H1,I1,r1,q1⟩=>hc pins s1 σ H1 vs us Q I1 r1 q1) he hpl
end
end L2
namespace HT
open PySem PyProof.Rows
section
variable{prog:Program}{w:World}{A:Around}{E:Value->Shared->Prop}{s:Shared}
def sIx(n d:Nat):Option Int->Nat
 |none=>d
 |some v=>if v<0 then(v+(n:Int)).toNat else min v.toNat n
theorem sIx_none(n d:Nat):sIx n d none=d:=rfl
theorem sIx_nat(n d k:Nat):sIx n d (some (k:Int))=min k n:=by
 show(if(k:Int)<0 then((k:Int)+(n:Int)).toNat else min (k:Int).toNat n)=min k n
 rw[if_neg (by omega),Int.toNat_natCast]
theorem sIx_le(n d:Nat)(hd:d<=n)(o:Option Int):sIx n d o<=n:=by
 cases o with
 |none=>exact hd
 |some v=>
  show(if v<0 then(v+(n:Int)).toNat else min v.toNat n)<=n
  by_cases hv:v<0
  . rw[if_pos hv];omega
  . rw[if_neg hv];exact Nat.min_le_right _ _
theorem clip_eq(v:Int)(n d:Nat):(if v<0 then max (v+(n:Int)) 0 else min v (n:Int))=((sIx n d (some v):Nat):Int):=by
 show(if v<0 then max (v+(n:Int)) 0 else min v (n:Int))=(((if v<0 then(v+(n:Int)).toNat else min v.toNat n):Nat):Int)
 by_cases hv:v<0
 . simp only[if_pos hv];omega
 . simp only[if_neg hv];omega
theorem adjust_gen(lo hi:Option Int)(n:Nat):Builtin.Slice.sliceAdjust lo hi 1 (n:Int)=(((sIx n 0 lo:Nat):Int),((sIx n n hi:Nat):Int)):=by
 have h1:¬((1:Int)<0):=by omega
 unfold Builtin.Slice.sliceAdjust
 simp only[h1,if_false]
 refine Prod.ext ?_ ?_
 . cases lo with
   |none=>rfl
   |some v=>exact clip_eq v n 0
 . cases hi with
   |none=>rfl
   |some v=>exact clip_eq v n n
theorem places_gen(i j:Nat):Builtin.Slice.slicePlaces (i:Int) (j:Int) 1=j-i:=by
 unfold Builtin.Slice.slicePlaces
 have h1:(1:Int)>0:=by omega
 simp only[h1,if_true,Int.ediv_one]
 split<;>omega
theorem slicePart_{v:Value}{o:Option Int}{Q:Option Int->Shared->Prop}(p:IsPart v o)(h:Q o s):wpAny (model prog w) A (Builtin.Slice.slicePartIndex v) Q E s:=by
 cases p with
 |none=>exact slicePart_none h
 |int i t=>exact slicePart_int h
theorem sliceApplied_gen{sl:Addr}{vl vu:Value}{lo hi:Option Int}{n:Nat}{Q:Int×Int×Nat->Shared->Prop}(hs:s.heap.IsSliceOf sl vl vu .none)(pl:IsPart vl lo)(pu:IsPart vu hi)
 (h:Q (((sIx n 0 lo:Nat):Int),1,sIx n n hi-sIx n 0 lo) s):wpAny (model prog w) A (Builtin.Slice.sliceApplied (.ref sl) (pure (n:Int))) Q E s:=by
 obtain⟨os,hos,hcs,hds⟩:=id hs
 unfold Builtin.Slice.sliceApplied Builtin.Slice.sliceFields
 refine wpAny_bind (wpAny_bind (wpAny_field hos hds (x:=vl) rfl (wpAny_bind (wpAny_field hos hds (x:=vu) rfl (wpAny_bind (wpAny_field hos hds (x:=.none) rfl (wpAny_pure ?_)))))))
 refine wpAny_bind (slicePart_none ?_)
 show wpAny _ _ (if((1:Int)==0)=true then _ else _) _ _ s
 rw[if_neg (by decide)]
 refine wpAny_bind (slicePart_ pl (wpAny_bind (slicePart_ pu (wpAny_bind (wpAny_pure ?_)))))
 show wpAny _ _ (match Builtin.Slice.sliceAdjust lo hi 1 (n:Int)with|(lo,hi)=>pure (lo,(1:Int),Builtin.Slice.slicePlaces lo hi 1)) _ _ s
 rw[adjust_gen lo hi n]
 show wpAny _ _ (pure (((sIx n 0 lo:Nat):Int),(1:Int),Builtin.Slice.slicePlaces ((sIx n 0 lo:Nat):Int) ((sIx n n hi:Nat):Int) 1)) _ _ s
 rw[places_gen]
 exact wpAny_pure h
theorem pick_gen(xs:Array Value)(i k:Nat):((List.range k).filterMap fun(m:Nat)=>xs[((i:Int)+(m:Int)*1).toNat]?).toArray=((xs.toList.drop i).take k).toArray:=by
 have e:(fun(m:Nat)=>xs[((i:Int)+(m:Int)*1).toNat]?)=fun m=>xs[i+m]?:=by
  funext m
  have:((i:Int)+(m:Int)*1).toNat=i+m:=by omega
  rw[this]
 rw[e]
 have:=pick_run xs i k
 rw[List.filterMap_map]at this
 have e2:((fun x=>xs[x]?)∘fun x=>i+x)=fun m=>xs[i+m]?:=rfl
 rw[e2]at this
 rw[this]
theorem getItem_tuple_cut{t sl:Addr}{items:Array Value}{vl vu:Value}{lo hi:Option Int}{Q:Value->Shared->Prop}(ht:IsTup s.heap t items)(hs:s.heap.IsSliceOf sl vl vu .none)(pl:IsPart vl lo)(pu:IsPart vu hi)
 (hw:¬(sIx items.size 0 lo=0/\sIx items.size items.size hi=items.size))
 (h:Q (.ref s.heap.objs.size) {s with heap:=s.heap.push {cls:=.type "tuple",data:=.seq ((items.toList.drop (sIx items.size 0 lo)).take (sIx items.size items.size hi-sIx items.size 0 lo)).toArray}})
 (hsz:items.size<=sizeLine):wpAny (model prog w) A (getItem (.ref t) (.ref sl)) Q E s:=by
 have htake:sizeOk (.seq ((items.toList.drop (sIx items.size 0 lo)).take (sIx items.size items.size hi-sIx items.size 0 lo)).toArray):=by
  show((items.toList.drop (sIx items.size 0 lo)).take (sIx items.size items.size hi-sIx items.size 0 lo)).toArray.size<=sizeLine
  rw[size_toArray,length_take,length_drop,Array.length_toList]
  omega
 have hj:sIx items.size items.size hi<=items.size:=sIx_le _ _ (Nat.le_refl _) hi
 obtain⟨os,hos,hcs,hds⟩:=id hs
 have hTs:s.TypeIs (.ref sl) "slice":=⟨os,hos,hcs⟩
 unfold getItem
 try with_reducible refine wpAny_holding ?_
 first|refine wpAny_bind (wpAny_pure ?_)|skip
 refine wpAny_bind (wpAny_sequenceKey ht.typeIs (by decide) ?_)
 refine wpAny_bind (wpAny_callSpecial?_slot (name:=Str.ofString "__getitem__") ht.typeIs PyProof.Rows.slot_tuple_getitem
  (wpAny_call_entry PyProof.Rows.slot_tuple_getitem ht.typeIs entry_tuple_getitem ?_ (args_tuple_getitem _ _)))
 show wpAny _ _ (Builtin.Tuple.tupleItemsOf (.ref t)>>=_) _ _ s
 refine wpAny_bind (tupleItemsOf_ ht ?_)
 refine wpAny_bind (wpAny_typeOf hTs ?_)
 rw[if_pos (by decide)]
 refine wpAny_bind (sliceApplied_gen hs pl pu ?_)
 have hno:¬((((sIx items.size 0 lo:Nat):Int)==0&&(1:Int)==1&&(sIx items.size items.size hi-sIx items.size 0 lo)==items.size)=true):=by
  intro q
  rw[Bool.and_eq_true,Bool.and_eq_true]at q
  have q1:((sIx items.size 0 lo:Nat):Int)=0:=eq_of_beq q.1.1
  have q2:sIx items.size items.size hi-sIx items.size 0 lo=items.size:=eq_of_beq q.2
  exact hw ⟨by omega,by omega⟩
 show wpAny _ _ (if(((sIx items.size 0 lo:Nat):Int)==0&&(1:Int)==1&&(sIx items.size items.size hi-sIx items.size 0 lo)==items.size)=true then _ else _) _ _ s
 rw[if_neg hno,pick_gen]
 first
  |exact wpAny_bind (m:=Builtin.Tuple.tupleExact _) (wpAny_newObj_type (wpAny_pure ⟨_,rfl,wpAny_pure h⟩) htake)
  |exact wpAny_bind (m:=Builtin.Tuple.tupleExact _) (wpAny_newObj_type (wpAny_bind (wpAny_pure (wpAny_pure ⟨_,rfl,wpAny_pure h⟩))) htake)
  |exact wpAny_bind (wpAny_bind (m:=Builtin.Tuple.tupleExact _) (wpAny_newObj_type (wpAny_pure (wpAny_pure ⟨_,rfl,wpAny_pure h⟩)) htake))
  |exact wpAny_bind (wpAny_bind (m:=Builtin.Tuple.tupleExact _) (wpAny_newObj_type (wpAny_pure ⟨_,rfl,wpAny_pure h⟩) htake))
end
end HT
namespace L2
open PySem PySem.Spec PyProof.Rows
abbrev TO:=St->Hp->(Option Int->Hp->Prop)->Prop
def PO(X:Cx)(e:Option Expr)(t:TO):Prop:=
 ∀(pins:List (Addr×Obj)) (s:Shared) (σ:St) (H:Hp) (Q:Option Int->Hp->Prop),Inv X pins σ H s->t σ H Q->
  wpAny (model X.prog X.w) X.A (evalPart e X.env) (fun u s'=>∃o H',Inv X pins σ H' s'/\IsPart u o/\Q o H') X.xe s
def tNoPart:TO:=fun _ H Q=>Q none H
def tPart(t:TE):TO:=fun σ H Q=>t σ H fun x H1=>∃i,x=.int i/\Q (some i) H1
section
variable{X:Cx}{e:Expr}{te:TE}{lo hi:Option Expr}{tl th:TO}{pos p2:Pos}
theorem po_none:PO X none tNoPart:=by
 intro pins s σ H Q I h
 rw[evalPart_none]
 exact wpAny_pure ⟨none,H,I,.none,h⟩
theorem po_some(h:PE X e te):PO X (some e) (tPart te):=by
 intro pins s σ H Q I hw
 rw[evalPart_some]
 refine thn (h pins s σ H _ I hw) fun u s1 ⟨x,H1,I1,r1,q1⟩=>?_
 obtain⟨i,rfl,q⟩:=q1
 obtain⟨t,rfl⟩:=r1
 exact⟨some i,H1,I1,.int i t,q⟩
def SlR(X:Cx)(r:V->Option Int->Option Int->Hp->VK->Prop):Prop:=
 ∀(pins:List (Addr×Obj)) (s:Shared) (σ:St) (H:Hp) (x:V) (v vl vu:Value) (lo hi:Option Int) (sl:Addr) (Q:VK),Inv X pins σ H s->RelV x v->s.heap.IsSliceOf sl vl vu .none->IsPart vl lo->IsPart vu hi->r x lo hi H Q->
  ∃T id,typeLookup (.type T) "__getitem__"=pure (some (.builtin id))/\s.TypeIs v T/\wpAny (model X.prog X.w) X.A (getItem v (.ref sl)) (EP X pins σ Q) X.xe s
def tSl(r:V->Option Int->Option Int->Hp->VK->Prop)(te:TE)(tl th:TO):TE:=fun σ H Q=>te σ H fun x H1=>tl σ H1 fun l H2=>th σ H2 fun u H3=>r x l u H3 Q
theorem pe_slice{r:V->Option Int->Option Int->Hp->VK->Prop}(hr:SlR X r)(he:PE X e te)(hl:PO X lo tl)(hu:PO X hi th):PE X (.Subscript e (.Slice lo hi none p2) pos) (tSl r te tl th):=by
 intro pins s σ H Q I h
 refine Subscript_ (thn (he pins s σ H _ I h) fun v s1 ⟨x,H1,I1,r1,q1⟩=>?_)
 refine wpAny_Slice (thn (hl pins s1 σ H1 _ I1 q1) fun vl s2 ⟨l,H2,I2,pl,q2⟩=>thn (hu pins s2 σ H2 _ I2 q2) fun vu s3 ⟨u,H3,I3,pu,q3⟩=>?_)
 rw[evalPart_none]
 refine wpAny_pure ?_
 have I4:Inv X pins σ H3 {s3 with heap:=s3.heap.push {cls:=.type "slice",data:=.fields #[vl,vu,.none]}}:=I3.kept (t':=s3.toks) fun b ob q=>get?_push_of_some _ q
 obtain⟨T,id,hT,ht,hg⟩:=hr pins {s3 with heap:=s3.heap.push {cls:=.type "slice",data:=.fields #[vl,vu,.none]}} σ H3 x v vl vu l u s3.heap.objs.size Q I4 r1 (Heap.IsSliceOf.new ..) pl pu q3
 show wpAny (model X.prog X.w) X.A (subscriptTail e (.Slice lo hi none p2) v (.ref s3.heap.objs.size)) (EP X pins σ Q) X.xe {s3 with heap:=s3.heap.push {cls:=.type "slice",data:=.fields #[vl,vu,.none]}}
 exact tail_any (ops:=[.ref s3.heap.objs.size,v]) ht hT hg (by with_unfolding_all rfl)
def cutV(xs:List V)(lo hi:Option Int):List V:=(xs.drop (HT.sIx xs.length 0 lo)).take (HT.sIx xs.length xs.length hi-HT.sIx xs.length 0 lo)
theorem cutV_length(xs:List V)(lo hi:Option Int):(cutV xs lo hi).length<=xs.length:=by
 unfold cutV
 rw[length_take,length_drop]
 omega
def rSlT(K:PySem.W.Frag):V->Option Int->Option Int->Hp->VK->Prop:=fun x lo hi H Q=>∃a xs,x=.ref a/\SqT K H a xs/\
 ¬(HT.sIx xs.length 0 lo=0/\HT.sIx xs.length xs.length hi=xs.length)/\ ∀p,H p=none->Q (.ref p) (upd H p (.tup (cutV xs lo hi)))
theorem sl_tup:SlR X (rSlT X.K):=by
 intro pins s σ H x v vl vu lo hi sl Q I rx hs pl pu h
 obtain⟨a,xs,rfl,hx,hw,q⟩:=h
 cases rx
 obtain⟨its,r,ht,hz⟩:=I.tuple hx
 have hlen:its.toArray.size=xs.length:=by rw[size_toArray];exact r.length.symm
 refine⟨"tuple",_,PyProof.Rows.slot_tuple_getitem.lookup,ht.typeIs,?_⟩
 refine HT.getItem_tuple_cut ht hs pl pu (by rw[hlen];exact hw) ?_ (by rw[hlen];exact hz)
 rw[hlen]
 refine⟨.ref s.heap.objs.size,_,I.laid (t':=s.toks) (o:=.tup (cutV xs lo hi)) (fun b ob q=>get?_push_of_some _ q) (Nat.le_refl _) ?_,rfl,q _ (I.hok.fresh (Nat.le_refl _))⟩
 exact⟨Nat.le_trans (cutV_length xs lo hi) hz,_,(r.drop (HT.sIx xs.length 0 lo)).take (HT.sIx xs.length xs.length hi-HT.sIx xs.length 0 lo),IsTup.new _ _⟩
end
def ixN(n:Nat)(i:Int):Option Nat:=if 0<=i then(if i<n then some i.toNat else none)else if-(n:Int)<=i then some (i+n).toNat else none
def atI{α:Type}(xs:List α)(i:Int):Option α:=(ixN xs.length i).bind fun j=>xs[j]?
theorem ixN_seq{n:Nat}{i:Int}{j:Nat}(h:ixN n i=some j):seqIndex? i n=some j/\j<n/\ -(n:Int)<=i/\i<n:=by
 unfold ixN at h
 by_cases h0:0<=i
 . rw[if_pos h0]at h
   by_cases h1:i<n
   . rw[if_pos h1]at h
     have e:i.toNat=j:=Option.some.inj h
     exact⟨by rw[seqIndex_of h0 h1,e],by omega,by omega,h1⟩
   . rw[if_neg h1]at h;cases h
 . rw[if_neg h0]at h
   by_cases h1: -(n:Int)<=i
   . rw[if_pos h1]at h
     have e:(i+n).toNat=j:=Option.some.inj h
     exact⟨by rw[seqIndex_neg (by omega) h1,e],by omega,h1,by omega⟩
   . rw[if_neg h1]at h;cases h
theorem atI_get{α:Type}{xs:List α}{i:Int}{v:α}(h:atI xs i=some v):∃j,seqIndex? i xs.length=some j/\xs[j]? =some v/\j<xs.length/\ -(xs.length:Int)<=i/\i<xs.length:=by
 unfold atI at h
 cases e:ixN xs.length i with
 |none=>rw[e]at h;cases h
 |some j=>
  rw[e]at h
  obtain⟨h1,h2,h3,h4⟩:=ixN_seq e
  exact⟨j,h1,h,h2,h3,h4⟩
theorem atI_nat{α:Type}{xs:List α}{j:Nat}{v:α}(h:xs[j]? =some v):atI xs (j:Int)=some v:=by
 have hj:j<xs.length:=(List.getElem?_eq_some_iff.mp h).1
 have e:ixN xs.length (j:Int)=some j:=by
  unfold ixN
  rw[if_pos (by omega),if_pos (by omega)];simp
 unfold atI;rw[e];exact h
theorem atI_last{α:Type}(xs:List α)(v:α):atI (xs++[v]) (-1)=some v:=by
 have hl:(xs++[v]).length=xs.length+1:=by simp
 have e:ixN (xs++[v]).length (-1)=some xs.length:=by
  unfold ixN
  rw[hl,if_neg (by decide),if_pos (by omega)]
  congr 1
  omega
 unfold atI
 rw[e]
 show(xs++[v])[xs.length]? =some v
 simp
def PlainIx(b:Expr):Prop:=∀o i,subscripted b false o i=operate [o,i] (getItem o i)
def IxR(X:Cx)(r:R2):Prop:=
 ∀(value slice:Expr) (pins:List (Addr×Obj)) (s:Shared) (σ:St) (H:Hp) (x y:V) (v u:Value) (Q:VK),Inv X pins σ H s->RelV x v->RelV y u->r x y H Q->
  subscripted slice false v u=operate [v,u] (getItem v u)->wpAny (model X.prog X.w) X.A (subscriptTail value slice v u) (EP X pins σ Q) X.xe s
def MtR(X:Cx)(id:String)(r:V->List V->Hp->VK->Prop):Prop:=
 ∀(pins:List (Addr×Obj)) (s:Shared) (σ:St) (H:Hp) (x:V) (xs:List V) (v:Value) (us:List Value) (Q:VK),Inv X pins σ H s->RelV x v->Vals xs us->r x xs H Q->
  wpAny (model X.prog X.w) X.A (call (.builtin id) (v::us)) (EP X pins σ Q) X.xe s
section
variable{X:Cx}{a b:Expr}{ta tb:TE}{pos:Pos}
theorem pe_ix{r:R2}(hr:IxR X r)(ha:PE X a ta)(hb:PE X b tb)(hs:PlainIx b):PE X (.Subscript a b pos) (tOp r ta tb):=by
 intro pins s σ H Q I h
 exact Subscript_ (binT ha hb I h fun v u s2 x y H2 I2 rx ry q=>hr a b pins s2 σ H2 x y v u Q I2 rx ry q (hs _ _))
def rIxL(K:PySem.W.Frag):R2:=fun x y H Q=>∃p xs i v,x=.ref p/\y=.int i/\SqL K H p xs/\atI xs i=some v/\Q v H
def rIxT(K:PySem.W.Frag):R2:=fun x y H Q=>∃p xs i v,x=.ref p/\y=.int i/\SqT K H p xs/\atI xs i=some v/\Q v H
def rIxS:R2:=fun x y H Q=>∃z i c,x=.str z/\y=.int i/\z.length<=sizeLine/\atI z.cps.toList i=some c/\Q (.str ⟨#[c]⟩) H
theorem ix_list:IxR X (rIxL X.K):=by
 intro value slice pins s σ H x y v u Q I rx ry h hs
 obtain⟨p,xs,i,z,rfl,rfl,hq,he,q⟩:=h
 cases rx
 obtain⟨t,rfl⟩:=ry
 obtain⟨its,r,pl,hz⟩:=I.list hq
 obtain⟨j,h1,h2,h3,h4,h5⟩:=atI_get he
 obtain⟨w,ew,rw'⟩:=r.get h2
 have hl:=r.length
 have hn:=line63
 have fin:EP X pins σ Q w s:=⟨z,H,I,rw',q⟩
 by_cases h0:0<=i
 . have hj:i.toNat=j:=by
    rw[seqIndex_of h0 h5]at h1
    exact Option.some.inj h1
   exact item_listR pl.isList h0 (by omega) (by rw[hj];simpa using ew) fin hs
 . have hj:(i+(its.toArray.size:Int)).toNat=j:=by
    rw[seqIndex_neg (by omega) h4]at h1
    rw[size_toArray, <-hl]
    exact Option.some.inj h1
   exact subscriptTail_builtinR (x:=w) pl.isList.typeIs slot_list_getitem.lookup
    (wpAny_getItem_list_neg (Q:=fun r s'=>r=w/\EP X pins σ Q r s') pl.isList (by omega) (by rw[size_toArray]<;>omega) (by omega) (by rw[hj];simpa using ew) ⟨rfl,fin⟩) hs
theorem ix_tup:IxR X (rIxT X.K):=by
 intro value slice pins s σ H x y v u Q I rx ry h hs
 obtain⟨p,xs,i,z,rfl,rfl,hq,he,q⟩:=h
 cases rx
 obtain⟨t,rfl⟩:=ry
 obtain⟨its,r,pl,hz⟩:=I.tuple hq
 obtain⟨j,h1,h2,h3,h4,h5⟩:=atI_get he
 obtain⟨w,ew,rw'⟩:=r.get h2
 have hl:=r.length
 have hn:=line63
 have fin:EP X pins σ Q w s:=⟨z,H,I,rw',q⟩
 exact subscriptTail_builtinR (x:=w) pl.typeIs slot_tuple_getitem.lookup
  (getItem_tuple (j:=j) (Q:=fun r s'=>r=w/\EP X pins σ Q r s') pl (by omega) (by omega) (by rw[size_toArray, <-hl];exact h1) (by simpa using ew) ⟨rfl,fin⟩) hs
theorem ix_str:IxR X rIxS:=by
 intro value slice pins s σ H x y v u Q I rx ry h hs
 obtain⟨z,i,c,rfl,rfl,hz,he,q⟩:=h
 obtain⟨t,rfl⟩:=rx
 obtain⟨t',rfl⟩:=ry
 obtain⟨j,h1,h2,h3,h4,h5⟩:=atI_get he
 have hl:z.cps.toList.length=z.length:=by simp[Str.length]
 rw[hl]at h1 h4 h5
 have hn:=line63
 exact tail_any (typeIs_str s z t) slot_str_getitem.lookup (getItem_str (c:=c) (by
  have e1:decide (i< -(2^63:Int))=false:=decide_eq_false (by omega)
  have e2:decide (i≥2^63)=false:=decide_eq_false (by omega)
  rw[e1,e2,Bool.or_false]) (by rw[h1];simpa using h2) ⟨.str ⟨#[c]⟩,H,I.tok _,⟨_,rfl⟩,q⟩) hs
theorem slice_bounds(lo hi:Option Int)(n:Nat):(sliceBounds lo hi none n).1=((HT.sIx n 0 lo:Nat):Int)/\(sliceBounds lo hi none n).2.1=((HT.sIx n n hi:Nat):Int)/\(sliceBounds lo hi none n).2.2=1:=by
 refine⟨?_,?_,rfl⟩
 . cases lo with
   |none=>simp[sliceBounds,HT.sIx]
   |some i=>
    simp only[sliceBounds,HT.sIx,Option.getD_none,show(1:Int)>0 by decide,if_true]
    by_cases h:i<0
    . simp only[h,if_true]<;>omega
    . simp only[h,if_false]<;>omega
 . cases hi with
   |none=>simp[sliceBounds,HT.sIx]
   |some i=>
    simp only[sliceBounds,HT.sIx,Option.getD_none,show(1:Int)>0 by decide,if_true]
    by_cases h:i<0
    . simp only[h,if_true]<;>omega
    . simp only[h,if_false]<;>omega
theorem slicePick_cut(its:List Value)(lo hi:Option Int):slicePick its.toArray lo hi none=((its.drop (HT.sIx its.length 0 lo)).take (HT.sIx its.length its.length hi-HT.sIx its.length 0 lo)).toArray:=by
 obtain⟨h1,h2,h3⟩:=slice_bounds lo hi its.toArray.size
 unfold slicePick
 rw[h1,h2,h3]
 simp only[sliceRange_one,pick_run,size_toArray]<;>rfl
def rSlL(K:PySem.W.Frag):V->Option Int->Option Int->Hp->VK->Prop:=fun x lo hi H Q=>∃a xs,x=.ref a/\SqL K H a xs/\ ∀p,H p=none->Q (.ref p) (upd H p (.lst (cutV xs lo hi)))
theorem sl_list:SlR X (rSlL X.K):=by
 intro pins s σ H x v vl vu lo hi sl Q I rx hs pl pu h
 obtain⟨a,xs,rfl,hx,q⟩:=h
 cases rx
 obtain⟨its,r,ht,hz⟩:=I.list hx
 have hlen:=r.length
 refine⟨"list",_,slot_list_getitem.lookup,ht.isList.typeIs,?_⟩
 refine wpAny_getItem_list_slice ht.isList hs pl pu .none (by simp) ?_ (by rw[size_toArray]<;>omega)
 rw[slicePick_cut, <-hlen]
 refine⟨.ref s.heap.objs.size,_,I.laid (t':=s.toks) (o:=.lst (cutV xs lo hi)) (fun b ob q=>get?_push_of_some _ q) (Nat.le_refl _) ?_,rfl,q _ (I.hok.fresh (Nat.le_refl _))⟩
 exact⟨Nat.le_trans (cutV_length xs lo hi) hz,_,0,(r.drop (HT.sIx xs.length 0 lo)).take (HT.sIx xs.length xs.length hi-HT.sIx xs.length 0 lo),get?_push_size _ rfl⟩
def flatV:V->Bool
 |.non=>true
 |.bl _=>true
 |.int _=>true
 |.str _=>true
 |_=>false
theorem call_len_seq:CallR X (.builtin "len") (fun xs H Q=>∃p ys,xs=[.ref p]/\(SqL X.K H p ys\/SqT X.K H p ys)/\Q (.int ys.length) H):=by
 intro pins s σ H xs us Q I r h
 obtain⟨p,ys,rfl,hq,q⟩:=h
 obtain⟨u,rfl,rx⟩:=vals1 r
 cases rx
 have hn:=line63
 rcases hq with hq|hq
 . obtain⟨its,r',pl,hz⟩:=I.list hq
   have hlen:=r'.length
   exact Calls.call_len_list pl.isList (by simp only[size_toArray]<;>omega) ⟨.int ys.length,H,I.tok _,⟨s.toks+1,by rw[size_toArray,hlen]⟩,q⟩
 . obtain⟨its,r',pl,hz⟩:=I.tuple hq
   have hlen:=r'.length
   exact len_tuple pl (by simp only[size_toArray]<;>omega) ⟨.int ys.length,H,I.tok _,⟨s.toks+1,by rw[size_toArray,hlen]⟩,q⟩
theorem call_len_str:CallR X (.builtin "len") (fun xs H Q=>∃z,xs=[.str z]/\z.length<=sizeLine/\Q (.int z.length) H):=by
 intro pins s σ H xs us Q I r h
 obtain⟨z,rfl,hz,q⟩:=h
 obtain⟨u,rfl,t,rfl⟩:=vals1 r
 have hn:=line63
 exact len_str (by omega) ⟨.int z.length,H,I.tok _,⟨_,rfl⟩,q⟩
theorem call_list_of:CallR X (.type "list") (fun xs H Q=>∃p ys,xs=[.ref p]/\(SqL X.K H p ys\/SqT X.K H p ys)/\ ∀l,H l=none->Q (.ref l) (upd H l (.lst ys))):=by
 intro pins s σ H xs us Q I r h
 obtain⟨p,ys,rfl,hq,q⟩:=h
 obtain⟨u,rfl,rx⟩:=vals1 r
 cases rx
 have fin:∀(its:List Value),Vals ys its->ys.length<=sizeLine->∀(h':Heap) (c':Nat),(∀b o',s.heap.get? b=some o'->h'.get? b=some o')->
  h'.get? s.heap.objs.size=some {cls:=.type "list",dict:=none,data:=.seq its.toArray c',slots:= #[]}->EP X pins σ Q (.ref s.heap.objs.size) {s with heap:=h'}:=fun its r' hz h' c' kp e=>
  ⟨.ref s.heap.objs.size,_,I.laid (t':=s.toks) kp (Nat.le_refl _) (show ObjOk X.prog X.w _ h' _ (.lst ys)from⟨hz,its,c',r',e⟩),rfl,q _ (I.hok.fresh (Nat.le_refl _))⟩
 rcases hq with hq|hq
 . obtain⟨its,r',pl,hz⟩:=I.list hq
   have hlen:=r'.length
   obtain⟨o,ho,hc,n,hd⟩:=pl.isList
   exact call_list_seq p (.inl rfl) ho hc hd (fun h' c' kp e=>fin its r' hz h' c' kp e) (by simp only[size_toArray]<;>omega)
 . obtain⟨its,r',pl,hz⟩:=I.tuple hq
   have hlen:=r'.length
   obtain⟨o,ho,hc,n,hd⟩:=pl
   exact call_list_seq p (.inr rfl) ho hc hd (fun h' c' kp e=>fin its r' hz h' c' kp e) (by simp only[size_toArray]<;>omega)
def tyV(K:PySem.W.Frag)(T:String)(x:V)(H:Hp):Prop:=match x with
 |.str _=>T="str"
 |.int _=>T="int"
 |.ref p=>(T="list"/\ ∃xs,SqL K H p xs)\/(T="tuple"/\ ∃o,K.lookup p=some o/\o.cls=.type "tuple"/\o.dict=none)\/
  (T="dict"/\((∃kvs,H p=some (.dK kvs))\/ ∃kvs,H p=some (.dT kvs)))\/(T="set"/\ ∃S n,H p=some (.set S n))
 |_=>False
theorem tyV_is{pins:List (Addr×Obj)}{σ:St}{H:Hp}{s:Shared}{T:String}{x:V}{v:Value}(I:Inv X pins σ H s)(r:RelV x v)(ty:tyV X.K T x H):
 s.TypeIs v T/\ ∀a,v=.ref a->∃ob,s.heap.get? a=some ob/\ob.dict=none:=by
 cases x with
 |str z=>
  obtain⟨t,rfl⟩:=r
  cases(show T="str" from ty)
  exact⟨typeIs_str s z t,fun _ e=>nomatch e⟩
 |int i=>
  obtain⟨t,rfl⟩:=r
  cases(show T="int" from ty)
  exact⟨typeIs_int s i t,fun _ e=>nomatch e⟩
 |ref p=>
  cases r
  rcases ty with⟨rfl,xs,hq⟩|⟨rfl,o,hk,hc,hd⟩|⟨rfl,hk⟩|⟨rfl,S,n,hk⟩
  . obtain⟨its,_,pl,_⟩:=I.list hq
    refine⟨pl.isList.typeIs,fun a e=>?_⟩
    cases e
    obtain⟨o,n,e,c,hd,_⟩:=pl
    exact⟨o,e,hd⟩
  . refine⟨⟨o,I.kIn p o hk,hc⟩,fun a e=>?_⟩
    cases e
    exact⟨o,I.kIn _ o hk,hd⟩
  . have z:∃o,s.heap.get? p=some o/\o.ExactDict:=by
     rcases hk with⟨kvs,hk⟩|⟨kvs,hk⟩
     . obtain⟨_,_,_,_,o,_,_,e,ex,_⟩:=I.hok p _ hk
       exact⟨o,e,ex⟩
     . obtain⟨_,_,_,_,o,_,_,e,ex,_⟩:=I.hok p _ hk
       exact⟨o,e,ex⟩
    obtain⟨o,e,ex⟩:=z
    refine⟨⟨o,e,ex.1⟩,fun a e2=>?_⟩
    cases e2
    exact⟨o,e,ex.2.1⟩
  . obtain⟨o,_,_,_,e,ex,_⟩:=I.hok p _ hk
    refine⟨⟨o,e,ex.1⟩,fun a e2=>?_⟩
    cases e2
    exact⟨o,e,ex.2.1⟩
 |_=>exact False.elim ty
def tBM0(K:PySem.W.Frag)(T:String)(r:V->List V->Hp->VK->Prop)(to:TE):TE:=fun σ H Q=>to σ H fun x H1=>tyV K T x H1/\r x [] H1 Q
def tBM(K:PySem.W.Frag)(T:String)(r:V->List V->Hp->VK->Prop)(to:TE)(t:TA):TE:=fun σ H Q=>to σ H fun x H1=>tyV K T x H1/\t σ H1 fun xs H2=>r x xs H2 Q
variable{o e:Expr}{es:List Expr}{to:TE}{t:TA}{name:Str}{apos cpos:Pos}{T id:String}{r:V->List V->Hp->VK->Prop}
theorem pe_bm0(pa:PlainAttrs T)(slot:Slot T name id)(hty:typeOf (.builtin id)=pure (.type "method_descriptor"))(hm:MtR X id r)(ho:PE X o to)
 (hbase:attributeBase o name X.env (eval o X.env)=eval o X.env:=by rfl)(hline:(apos.endLine==cpos.line)=true:=by rfl):PE X (.Call (.Attribute o name apos) [] [] cpos) (tBM0 X.K T r to):=by
 intro pins s σ H Q I h
 refine wpAny_Call_method0_late hbase hline (thn (ho pins s σ H _ I h) fun v s1 ⟨x,H1,I1,r1,ty,q1⟩=>?_)
 obtain⟨h1,h2⟩:=tyV_is I1 r1 ty
 exact⟨T,id,pa,slot,hty,h1,h2,Calls.callWith_builtin rfl (PySem.evalArgs_none (hm pins s1 σ H1 x [] v [] Q I1 r1 .nil q1))⟩
theorem pe_bm(pa:PlainAttrs T)(slot:Slot T name id)(hty:typeOf (.builtin id)=pure (.type "method_descriptor"))(hm:MtR X id r)(ho:PE X o to)(ha:PA X (e::es) t)
 (hbase:attributeBase o name X.env (eval o X.env)=eval o X.env:=by rfl)
 (hfew:((backTo cpos (starEach (e::es) X.env)).all (fun x=> !x.1)&&(backToKw cpos (keywordEach [] X.env)).all (fun x=>x.1.isSome)
  &&decide ((e::es).length+([]:List Keyword).length+(if([]:List Keyword).isEmpty then 0 else 1)<30))=true:=by rfl)
 (hline:(apos.endLine==cpos.line)=true:=by rfl)(hs:starEach (e::es) X.env=(false,eval e X.env)::starEach es X.env:=by rfl)(hplain:(backTo cpos (starEach es X.env)).any (·.1)=false:=by rfl):
 PE X (.Call (.Attribute o name apos) (e::es) [] cpos) (tBM X.K T r to t):=by
 intro pins s σ H Q I h
 refine wpAny_Call_method_late hbase hfew hline rfl (thn (ho pins s σ H _ I h) fun v s1 ⟨x,H1,I1,r1,ty,q1⟩=>?_)
 obtain⟨h1,h2⟩:=tyV_is I1 r1 ty
 refine⟨T,id,pa,slot,hty,h1,h2,?_⟩
 have hA:=ha cpos pins s1 σ H1 _ I1 q1
 rw[hs]at hA⊢
 refine Calls.callWith_builtin (by show(false||(backTo cpos (starEach es X.env)).any (·.1))=false;rw[hplain]<;>rfl) (Calls.evalArgs_plain ?_)
 exact thn hA fun us s2 ⟨vs,H2,I2,r2,q2⟩=>hm pins s2 σ H2 x vs v us Q I2 r1 r2 q2
end
def MtM(X:Cx)(id:String)(r:V->List V->Hp->VK->Prop):Prop:=
 ∀(pins:List (Addr×Obj)) (s:Shared) (σ:St) (H:Hp) (x:V) (xs:List V) (v:Value) (us:List Value) (Q:VK),Inv X pins σ H s->RelV x v->Vals xs us->r x xs H Q->
  wpAny (model X.prog X.w) X.A (call (.builtin id) (v::us)) (EP X pins σ Q) X.xe s
theorem Vals.one:∀{x:V} {us:List Value},Vals [x] us->∃u,us=[u]/\RelV x u
 |_,_,.cons r .nil=>⟨_,rfl,r⟩
theorem Vals.zero:∀{us:List Value},Vals [] us->us=[]
 |_,.nil=>rfl
section
variable{X:Cx}{pins:List (Addr×Obj)}{σ:St}{H:Hp}{s:Shared}{l b:Addr}{xs ys zs:List V}
theorem Inv.lset{its its':List Value}{n:Nat}{f:Array Value->Array Value}{t':Nat}(I:Inv X pins σ H s)(hH:H l=some (.lst xs))
 (e:s.heap.get? l=some {cls:=.type "list",data:=.seq its.toArray n})(hf:f its.toArray=its'.toArray)(hv:Vals ys its')(hz:ys.length<=sizeLine):
 Inv X pins σ (upd H l (.lst ys)) {s with heap:=s.heap.update l (Obj.mapSeq f),toks:=t'}:=by
 have q:=PySem.IsL.update e f
 rw[hf]at q
 refine I.write (x:=l) (e:=l) (by rw[hH];exact trivial) (.inl rfl) (fun b' u hb hu=>(Heap.get?_update_other s.heap (Obj.mapSeq f) (Ne.symm hb)).trans hu) ⟨_,q⟩ ?_
 exact⟨hz,its',_,hv,q⟩
theorem Inv.lnew{its:List Value}{t':Nat}(I:Inv X pins σ H s)(hv:Vals ys its)(hz:ys.length<=sizeLine):
 Inv X pins σ (upd H s.heap.objs.size (.lst ys)) {s with heap:=s.heap.push {cls:=.type "list",data:=.seq its.toArray},toks:=t'}:=
 I.laid (fun _ _ q=>get?_push_of_some _ q) (Nat.le_refl _) ⟨hz,its,0,hv,get?_push_size _ rfl⟩
theorem Inv.fresh(I:Inv X pins σ H s):H s.heap.objs.size=none:=I.hok.fresh (Nat.le_refl _)
theorem Inv.lstM(I:Inv X pins σ H s)(hH:H l=some (.lst xs)):xs.length<=sizeLine/\ ∃(its:List Value) (n:Nat),Vals xs its/\xs.length=its.length/\s.heap.get? l=some {cls:=.type "list",data:=.seq its.toArray n}:=by
 obtain⟨z,its,n,r,e⟩:=I.hok l _ hH
 exact⟨z,its,n,r,r.length,e⟩
end
section
variable{X:Cx}
def rAppend:V->List V->Hp->VK->Prop:=fun x vs H Q=>∃l xs y,x=.ref l/\vs=[y]/\H l=some (.lst xs)/\xs.length<sizeLine/\Q .non (upd H l (.lst (xs++[y])))
theorem mt_append:MtM X "list.append" rAppend:=by
 intro pins s σ H x vs v us Q I rx rv h
 obtain⟨l,xs,y,rfl,rfl,hH,hz,q⟩:=h
 cases rx
 obtain⟨u,rfl,ru⟩:=rv.one
 obtain⟨z,its,n,r,hl,e⟩:=I.lstM hH
 refine call_meets F.slot_list_append ⟨_,e,rfl⟩ F.entry_list_append (F.args_list_append_2 _ _) (PySem.list_append l its.toArray n u (by rw[size_toArray];omega)) ⟨e,?_⟩
 refine⟨.non,_,I.lset (its':=its++[u]) hH e (by simp) (r.append (.cons ru .nil)) ?_,rfl,q⟩
 rw[List.length_append,List.length_singleton]
 omega
end
end L2
namespace Att
open PySem PySem.W PySem.Calls PyProof.Rows
theorem ints_of_wellAll{P:Params}{h:Heap}:∀(ns:List Int) (vs:List Value),WellAll P h vs (ns.map WData.int)->IntsAre vs ns:=by
 intro ns
 induction ns with
 |nil=>
  intro vs w
  rw[map_nil]at w
  cases w
  exact .nil
 |cons n ns ih=>
  intro vs w
  rw[map_cons]at w
  cases w with
  |cons a b=>
   cases a
   exact .cons _ _ (ih _ b)
theorem script_of{l:OpenLaw}{n:Nat}(hn:l.most=some n){P:Params}{h:Heap}{args:List WData}{vals:List Value}
 (hpre:l.row.toRowW.claim.pre args=true)(hwl:WellAll P h vals args):
 ∃a vs ns,vals=[Value.ref a]/\args=[WData.list (ns.map WData.int)]/\h.get? a=some {cls:=.type "list",data:=.seq vs.toArray}/\IntsAre vs ns/\ns.length<=n:=by
 have hsh:WShape.hasAll [] args [.list .int]=true:=(pre_splitW hpre).1
 have hc:l.pre.holds [] {args:=args}=true:=(pre_splitW hpre).2
 obtain⟨d,r,rfl,h1,h2⟩:=hasAllW_cons hsh
 obtain rfl:=hasAllW_nil h2
 obtain⟨xs,rfl,h3⟩:=hasW_list h1
 obtain⟨ns,rfl⟩:=items_int h3
 have hlen:ns.length<=n:=by
  unfold OpenLaw.pre at hc
  have h4:(WTm.not (.lt (.lit (.int (n:Int))) (.len (.arg 0)))).holds [] {args:=[.list (ns.map .int)]}=true:=by
   have h4:=(holds_andW hc).1
   rw[hn]at h4
   exact h4
  have h5:=condW_of h4 (w_not (w_lt w_lit (w_len_list (w_arg rfl))))
  rw[length_map]at h5
  refine Nat.le_of_not_lt fun q=>?_
  have q':(n:Int)<((ns.length:Nat):Int):=by omega
  first
   |(rw[decide_eq_true q']at h5;exact absurd h5 (by decide))
   |(simp at h5;omega)
 cases hwl with
 |cons w1 w2=>
  cases w2
  cases w1 with
  |list ho hall=>exact⟨_,_,ns,rfl,rfl,ho,ints_of_wellAll ns _ hall,hlen⟩
theorem post_true(l:OpenLaw)(args:List WData):l.row.toRowW.claim.post args (.bool true) args=true:=
 postW_of (r:=l.row.toRowW) (X:=(true==true))
  (show WShape.has [] (.bool true) .bool=true by first|rfl|decide|simp[WShape.has,WShape.arms,WShape.armsAll])
  (show(WTm.eq .res (.lit (.bool true))).value [] {args:=args,res:=some (.bool true),after:=args}=some (.bool (true==true))from w_eq_bool (w_res rfl) w_lit) rfl
theorem attach_call{l:OpenLaw}{n:Nat}{q:Program}{loose:List Str}{XP:(Str->Option Value)->Heap->Prop}{YP:World->Heap->Prop}{d:DefRec}
 (hn:l.most=some n)(hdf:d.params.defaults=[])
 (call:∀(w:World) (s₀ s₁:Shared) (mg mb:Str->Option Value) (fa:Addr) (o:Obj) (pm cd doc:Value) (a:Addr) (vs:List Value) (ns:List Int),
  Ground q loose [] XP w s₀ mg mb s₁.heap->YP w s₁.heap->
  s₁.heap.get? fa=some o->o.data=.func (docDef d.name d.params d.body d.scope pm cd doc)->s₁.heap.CodeRec cd d.name->mg d.name=some (.ref fa)->
  s₁.heap.get? a=some {cls:=.type "list",data:=.seq vs.toArray}->IntsAre vs ns->ns.length<=n->s₁.gens= #[]->
  codeAny (model l.prog w) callerA (.call (.ref fa) ⟨[.ref a],[]⟩) (fun r s'=>r=.ok (.ret (.bool true))/\OldK s₁.heap s'.heap/\s'.os=s₁.os/\AllBare s'.gens) s₁):
 WalkO q loose XP YP l.row.toRowW d [] (fun f vs=>PySem.call f vs):=by
 intro w s₀ s₁ mg mb G Y fa o pm cd doc dV kV ho hd hcd hD hmg hg args vals as hpre hlay hrd hwl hlo
 obtain rfl:dV=.none:=Dflts.none hD hdf
 obtain rfl:kV=.none:=Dflts.noKw hD
 obtain⟨a,vs,ns,rfl,rfl,hobj,hints,hlen⟩:=script_of hn hpre hwl
 refine enter_call (codeAny_mono (call w s₀ s₁ mg mb fa o pm cd doc a vs ns G Y ho (fd_plain hd) hcd hmg hobj hints hlen hg) fun r s' hq=>?_)
 obtain⟨rfl,h2,h3,h4⟩:=hq
 exact⟨.inl ⟨.bool true,.bool true,[],rfl,fun _=>rfl,.bool true,post_true l _,fun _=>⟨List.Pairwise.nil,fun _ hm=>(nomatch hm)⟩⟩,h2,h3,h4⟩
end Att
namespace L2
open PySem PySem.Spec PyProof.Rows
theorem vals_ints:∀{vs:List Value} {ns:List Int},IntsAre vs ns->Vals (ns.map V.int) vs
 |_,_,.nil=>.nil
 |_,_,.cons n t h=>.cons ⟨t,rfl⟩ (vals_ints h)
def Only(H:Hp):Prop:=∀b,H b=none\/ ∃o xs,H b=some (.frz o (.lst xs))
def inClass(s:Stmt)(j:Nat):Stmt:=match s with
 |.ClassDef _ _ _ body _ _ _ _ _ _ _=>body.getD j (.Pass ⟨0,0,0,0⟩)
 |_=>.Pass ⟨0,0,0,0⟩
def defArgs(s:Stmt):Arguments:=match s with
 |.FunctionDef _ a _ _ _ _ _ _ _ _=>a
 |_=>{posonlyargs:=[],args:=[],vararg:=none,kwonlyargs:=[],kw_defaults:=[],kwarg:=none,defaults:=[]}
def defBody(s:Stmt):List Stmt:=match s with
 |.FunctionDef _ _ b _ _ _ _ _ _ _=>b
 |_=>[]
def defScope(s:Stmt):Scope:=match s with
 |.FunctionDef _ _ _ _ _ _ sc _ _ _=>sc
 |_=>{kind:=.function,names:=[],isGenerator:=false,isCoroutine:=false}
abbrev CX0:CXT:=fun _ _ _ _ _ _=>False
abbrev E0:XK:=fun _ _ _=>False
theorem pass0{X:Cx}:Passes CX0 X E0:=fun _ _ _ _ _ _ _ h=>h.elim
structure Fun(K:PySem.W.Frag)(x qual:Str)(st:Stmt)(f:Addr)(fd:FuncData):Prop where
 ex:∃(oc:Value) (od:Option Addr) (kV doc pm:Value) (an:Option Addr) (cdv ct:Value) (osl:Array (Option Value)),
  fd=PySem.W.fnOf x qual (defArgs st) (defBody st) (defScope st) .none kV doc pm an cdv ct/\K.lookup f=some ⟨oc,od,.func fd,osl⟩/\PySem.W.codeIn K cdv qual=true
 kp:keepIn K (.ref f)=true
section
variable{P:Program}{w:World}{K:PySem.W.Frag}{mg:Str->Option Value}{base:Heap}
theorem Fun.ok{x qual:Str}{st:Stmt}{f:Addr}{fd:FuncData}{N ps:List Str}{k:Nat}{sp:Sp}(F:Fun K x qual st f fd)(S:FnScope N ps (defScope st))(len:∀vs H Q E,sp vs H Q E->vs.length=ps.length)
 (hbody:∀(cdv:Value) (A:Around) (outer:List Env) (s:Shared) (H:Hp) (vs:List V) (Q:VK) (E:XK),Room k (A.deeper (envOfC qual (defScope st) s.heap.objs.size f cdv))->sp vs H Q E->
  ∃t,PSs (cxOf CX0 P w K mg base N qual (defScope st) f cdv A outer s H E).nox (defBody st) t/\t {nx:=fun _ H'=>Q .non H',rt:=Q} (start N vs) H):FnOk P w K mg base CX0 (k+1) f fd ps sp:=by
 obtain⟨oc,od,kV,doc,pm,an,cdv,ct,osl,rfl,lk,hcd⟩:=F.ex
 refine fn_of lk hcd S len fun A outer s H vs Q E hr hsp=>?_
 obtain⟨t,h,q⟩:=hbody cdv A outer s H vs Q E hr hsp
 exact⟨t,h.nox,q⟩
theorem Fun.binds{x qual:Str}{st:Stmt}{f:Addr}{fd:FuncData}{ps:List Str}(F:Fun K x qual st f fd)
 (h:∀(kV doc pm:Value) (an:Option Addr) (cdv ct:Value) (us:List Value),us.length=ps.length->bindArgs (PySem.W.fnOf x qual (defArgs st) (defBody st) (defScope st) .none kV doc pm an cdv ct) ⟨us,[]⟩=pure (ps.zip us)):Binds K fd ps []:=by
 obtain⟨oc,od,kV,doc,pm,an,cdv,ct,osl,rfl,lk,hcd⟩:=F.ex
 exact .all (h kV doc pm an cdv ct)
theorem fun_mk{x qual:Str}{st:Stmt}{f:Addr}{oc:Value}{od an:Option Addr}{osl:Array (Option Value)}{kV doc pm cdv ct:Value}(l:K.lookup f=some ⟨oc,od,.func (PySem.W.fnOf x qual (defArgs st) (defBody st) (defScope st) .none kV doc pm an cdv ct),osl⟩)
 (c:PySem.W.codeIn K cdv qual=true)(k:keepIn K (.ref f)=true):Fun K x qual st f (PySem.W.fnOf x qual (defArgs st) (defBody st) (defScope st) .none kV doc pm an cdv ct):=⟨⟨oc,od,kV,doc,pm,an,cdv,ct,osl,rfl,l,c⟩,k⟩
end
theorem hu_of{A:Around}{k:Nat}(hr:Room k A):A.units+1<cLine:=Nat.lt_of_le_of_lt (Nat.add_le_add_left (by decide:1<=64) _) hr.units
theorem small1000{n:Nat}(h:n<=1000):n<sizeLine:=Nat.lt_of_le_of_lt h (by decide)
theorem iteF{A B:Prop}(h:B):if false=true then A else B:=by
 rw[if_neg Bool.false_ne_true]
 exact h
theorem iteT{A B:Prop}(h:A):if true=true then A else B:=by
 rw[if_pos rfl]
 exact h
def Same(H H':Hp):Prop:=∀b o,H b=some o->H' b=some o
theorem Same.refl(H:Hp):Same H H:=fun _ _ h=>h
theorem Same.trans{H H1 H2:Hp}(a:Same H H1)(b:Same H1 H2):Same H H2:=fun c o h=>b c o (a c o h)
theorem Same.free{H H':Hp}(e:Same H H'){l:Addr}(h:H' l=Option.none):H l=Option.none:=by
 cases q:H l with
 |none=>rfl
 |some o=>
  rw[e l o q]at h
  cases h
theorem Same.seq{K:PySem.W.Frag}{H H':Hp}{a:Addr}{xs:List V}(e:Same H H')(h:SqL K H a xs):SqL K H' a xs:=by
 rcases h with(h|⟨o,h⟩)|h
 . exact .inl (.inl (e _ _ h))
 . exact .inl (.inr ⟨o,e _ _ h⟩)
 . exact .inr h
section
variable{κ:Type}[DecidableEq κ]
def valV(kvs:List (κ×V))(k:κ):Option V:=(kvs.find? fun kv=>decide (kv.1=k)).map (·.2)
def putK(kvs:List (κ×V))(k:κ)(v:V):List (κ×V):=
 if(kvs.any fun kv=>decide (kv.1=k))=true then kvs.map (fun kv=>if kv.1=k then(kv.1,v)else kv)else kvs++[(k,v)]
def dropK(kvs:List (κ×V))(k:κ):List (κ×V):=kvs.filter fun kv=>decide (kv.1≠k)
theorem valV_pos{p:κ×V}{r:List (κ×V)}{k:κ}(e:p.1=k):valV (p::r) k=some p.2:=by simp[valV,find?_cons,e]
theorem valV_neg{p:κ×V}{r:List (κ×V)}{k:κ}(e:¬p.1=k):valV (p::r) k=valV r k:=by simp[valV,find?_cons,e]
theorem valV_any(k:κ):∀kvs:List (κ×V),(kvs.any fun kv=>decide (kv.1=k))=(valV kvs k).isSome
 |[]=>rfl
 |p::r=>by
  rw[List.any_cons]
  by_cases e:p.1=k
  . simp only[valV_pos e,decide_eq_true e,Bool.true_or,Option.isSome_some]
  . rw[valV_neg e,decide_eq_false e,Bool.false_or];exact valV_any k r
theorem length_putK(kvs:List (κ×V))(k:κ)(v:V):(putK kvs k v).length<=kvs.length+1:=by
 unfold putK
 split
 . rw[length_map];omega
 . rw[List.length_append,length_cons,List.length_nil];omega
theorem putK_new{kvs:List (κ×V)}{k:κ}(v:V)(h:valV kvs k=none):putK kvs k v=kvs++[(k,v)]:=by
 unfold putK
 rw[valV_any,h]
 exact if_neg (by decide)
theorem RelO.isSome_eq{o:Option V}{u:Option Value}(r:RelO o u):o.isSome=u.isSome:=by
 cases o with
 |none=>cases u with
  |none=>rfl
  |some _=>exact(show False from r).elim
 |some _=>cases u with
  |none=>exact(show False from r).elim
  |some _=>rfl
theorem KV.val{kvs:List (κ×V)}{vs:List (κ×Value)}(r:KV kvs vs)(k:κ):RelO (valV kvs k) (valueAt vs k):=by
 unfold KV at r
 induction r with
 |nil=>exact True.intro
 | @cons p q ps qs h t ih=>
  obtain⟨h1,h2⟩:=h
  by_cases e:p.1=k
  . have e':q.1=k:=h1.symm.trans e
    have b:valueAt (q::qs) k=some q.2:=by simp[valueAt,find?_cons,e']
    rw[valV_pos e,b];exact h2
  . have e':¬q.1=k:=fun z=>e (h1.trans z)
    have b:valueAt (q::qs) k=valueAt qs k:=by simp[valueAt,find?_cons,e']
    rw[valV_neg e,b];exact ih
theorem KV.any{kvs:List (κ×V)}{vs:List (κ×Value)}(r:KV kvs vs)(k:κ):(kvs.any fun kv=>decide (kv.1=k))=vs.any fun kv=>decide (kv.1=k):=by
 unfold KV at r
 induction r with
 |nil=>rfl
 |cons h t ih=>rw[List.any_cons,List.any_cons,ih,h.1]
theorem KV.repl{kvs:List (κ×V)}{vs:List (κ×Value)}(r:KV kvs vs)(k:κ){y:V}{u:Value}(ry:RelV y u):
 KV (kvs.map fun kv=>if kv.1=k then(kv.1,y)else kv) (vs.map fun kv=>if kv.1=k then(kv.1,u)else kv):=by
 unfold KV at r⊢
 induction r with
 |nil=>exact .nil
 | @cons p q ps qs h t ih=>
  rw[map_cons,map_cons]
  refine .cons ?_ ih
  obtain⟨h1,h2⟩:=h
  by_cases e:p.1=k
  . rw[if_pos e,if_pos (h1.symm.trans e)];exact⟨h1,ry⟩
  . rw[if_neg e,if_neg (fun z=>e (h1.trans z))];exact⟨h1,h2⟩
theorem KV.put{kvs:List (κ×V)}{vs:List (κ×Value)}(r:KV kvs vs)(k:κ){y:V}{u:Value}(ry:RelV y u):KV (putK kvs k y) (stored vs k u):=by
 unfold putK stored
 rw[r.any k]
 by_cases e:(vs.any fun kv=>decide (kv.1=k))=true
 . rw[if_pos e,if_pos e];exact r.repl k ry
 . rw[if_neg e,if_neg e];exact Paired.snoc r ⟨rfl,ry⟩
theorem KV.drop{kvs:List (κ×V)}{vs:List (κ×Value)}(r:KV kvs vs)(k:κ):KV (dropK kvs k) (without vs k):=by
 unfold KV at r⊢
 unfold dropK without
 induction r with
 |nil=>exact .nil
 | @cons p q ps qs h t ih=>
  obtain⟨h1,h2⟩:=h
  rw[List.filter_cons,List.filter_cons]
  by_cases e:p.1=k
  . have a:¬decide (p.1≠k)=true:=by simp[e]
    have b:¬decide (q.1≠k)=true:=by simp[h1.symm.trans e]
    rw[if_neg a,if_neg b];exact ih
  . have e':¬q.1=k:=fun z=>e (h1.trans z)
    have a:decide (p.1≠k)=true:=by simp[e]
    have b:decide (q.1≠k)=true:=by simp[e']
    rw[if_pos a,if_pos b];exact .cons ⟨h1,h2⟩ ih
theorem KV.length{kvs:List (κ×V)}{vs:List (κ×Value)}(r:KV kvs vs):kvs.length=vs.length:=Paired.length r
theorem dropK_le(kvs:List (κ×V))(k:κ):(dropK kvs k).length<=kvs.length:=length_filter_le _ _
end
theorem kV_is{P:Program}{w:World}{k:Key}{u:Value}(r:RelV (kV k) u):(mixKind P w).is k u=true:=by
 cases k with
 |inl i=>obtain⟨t,e⟩:=(show∃t,u=Value.int i t from r);subst e;exact mixKind_int P w i t
 |inr x=>obtain⟨t,e⟩:=(show∃t,u=Value.str x t from r);subst e;exact mixKind_str P w x t
theorem kV_inj{a b:Key}(e:kV a=kV b):a=b:=by
 cases a with
 |inl i=>cases b with
  |inl j=>have e':V.int i=V.int j:=e;injection e' with e';rw[e']
  |inr y=>exact nomatch (show V.int i=V.str y from e)
 |inr x=>cases b with
  |inl j=>exact nomatch (show V.str x=V.int j from e)
  |inr y=>have e':V.str x=V.str y:=e;injection e' with e';rw[e']
theorem kVs_inj:∀{a b:List Key},a.map kV=b.map kV->a=b
 |[],[],_=>rfl
 |[],_::_,e=>by simp at e
 |_::_,[],e=>by simp at e
 |x::xs,y::ys,e=>by
  rw[map_cons,map_cons]at e
  injection e with e1 e2
  rw[kV_inj e1,kVs_inj e2]
theorem items_are{P:Program}{w:World}:∀{ks:List Key} {us:List Value},Vals (ks.map kV) us->ItemsAre (mixKind P w) ks us
 |[],_,r=>by rw[map_nil]at r;cases r;exact .nil
 |k::ks,_,r=>by
  rw[map_cons]at r
  cases r with
  |cons h t=>exact .cons (kV_is h) (items_are t)
abbrev KT(H:Hp):List (List Key×V)->List (List Key×Addr×Value)->Prop:=Paired fun p q=>p.1=q.1/\H q.2.1=some (.tup (p.1.map kV))/\RelV p.2 q.2.2
theorem KT.val{H:Hp}{kvs:List (List Key×V)}{xs:List (List Key×Addr×Value)}(r:KT H kvs xs)(k:List Key):RelO (valV kvs k) ((atKey xs k).map (·.2)):=by
 induction r with
 |nil=>exact True.intro
 | @cons p q ps qs h t ih=>
  obtain⟨h1,_,h2⟩:=h
  by_cases e:p.1=k
  . have e':q.1=k:=h1.symm.trans e
    have b:atKey (q::qs) k=some q.2:=by simp[atKey,find?_cons,e']
    rw[valV_pos e,b];exact h2
  . have e':¬q.1=k:=fun z=>e (h1.trans z)
    have b:atKey (q::qs) k=atKey qs k:=by simp[atKey,find?_cons,e']
    rw[valV_neg e,b];exact ih
theorem KT.repl{H:Hp}{kvs:List (List Key×V)}{xs:List (List Key×Addr×Value)}(r:KT H kvs xs)(k:List Key){y:V}{u:Value}(ry:RelV y u):
 KT H (kvs.map fun kv=>if kv.1=k then(kv.1,y)else kv) (xs.map (putAt k u)):=by
 induction r with
 |nil=>exact .nil
 | @cons p q ps qs h t ih=>
  rw[map_cons,map_cons]
  refine .cons ?_ ih
  obtain⟨h1,h2,h3⟩:=h
  unfold putAt
  by_cases e:p.1=k
  . rw[if_pos e,if_pos (h1.symm.trans e)];exact⟨h1,h2,ry⟩
  . rw[if_neg e,if_neg (fun z=>e (h1.trans z))];exact⟨h1,h2,h3⟩
theorem KT.put{H:Hp}{kvs:List (List Key×V)}{xs:List (List Key×Addr×Value)}(r:KT H kvs xs)(k:List Key){b:Addr}{y:V}{u:Value}(hb:H b=some (.tup (k.map kV)))(ry:RelV y u):
 KT H (putK kvs k y) (storedH xs k b u):=by
 have e:(kvs.any fun kv=>decide (kv.1=k))=(atKey xs k).isSome:=by
  rw[valV_any,(r.val k).isSome_eq,Option.isSome_map]
 unfold putK storedH
 rw[e]
 by_cases q:(atKey xs k).isSome=true
 . rw[if_pos q,if_pos q];exact r.repl k ry
 . rw[if_neg q,if_neg q];exact Paired.snoc r ⟨rfl,hb,ry⟩
theorem KT.keeps{H H':Hp}{kvs:List (List Key×V)}{xs:List (List Key×Addr×Value)}(r:KT H kvs xs)(ht:∀b ys,H b=some (.tup ys)->H' b=some (.tup ys)):KT H' kvs xs:=
 Paired.mapP r fun _ _ z=>⟨z.1,ht _ _ z.2.1,z.2.2⟩
section
variable{P:Program}{w:World}{H:Hp}{h:Heap}{a:Addr}
theorem rd_of{u:HO}(ok:HOk P w H h)(e:Rd H a u):ObjOk P w H h a u:=e.ok ok
theorem dk_rd{kvs:List (Key×V)}(ok:HOk P w H h)(e:Rd H a (.dK kvs)):kvs.length<=sizeLine/\(a==sysModules)=false/\ ∃vs,KV kvs vs/\h.DictOf (mixKind P w) a vs:=
 show ObjOk P w H h a (.dK kvs)from rd_of ok e
theorem dk_of{kvs:List (Key×V)}(ok:HOk P w H h)(e:H a=some (.dK kvs)):kvs.length<=sizeLine/\(a==sysModules)=false/\ ∃vs,KV kvs vs/\h.DictOf (mixKind P w) a vs:=dk_rd ok (.inl e)
theorem key_of{ks:List Key}(ok:HOk P w H h)(e:H a=some (.tup (ks.map kV))):(tupleKind (mixKind P w)).is h ks a:=by
 obtain⟨_,its,r,o,h1,h2,n,h3⟩:=(show ObjOk P w H h a (.tup (ks.map kV))from ok a _ e)
 exact⟨o,its.toArray,n,h1,h2,h3,by simpa using items_are r⟩
theorem dt_rd{kvs:List (List Key×V)}(ok:HOk P w H h)(e:Rd H a (.dT kvs)):kvs.length<=sizeLine/\(a==sysModules)=false/\
 ∃xs,KT H kvs xs/\h.DictOfH (tupleKind (mixKind P w)) a xs:=by
 obtain⟨z,y,xs,r,o,es,ep,h1,h2,h3,h4,h5⟩:=(show ObjOk P w H h a (.dT kvs)from rd_of ok e)
 refine⟨z,y,xs,r,o,es,ep,h1,h2,h3,h4,fun x hx=>?_,h5⟩
 have all:∀{l:List (List Key×V)} {m:List (List Key×Addr×Value)},KT H l m->∀x∈m,(tupleKind (mixKind P w)).is h x.1 x.2.1:=by
  intro l m q
  induction q with
  |nil=>intro x hx;exact nomatch hx
  | @cons p q ps qs hq t ih=>
   intro x hx
   rcases mem_cons.mp hx with e|hx
   . subst e
     exact key_of ok (by rw[<-hq.1];exact hq.2.1)
   . exact ih x hx
 exact all r x hx
theorem dt_of{kvs:List (List Key×V)}(ok:HOk P w H h)(e:H a=some (.dT kvs)):kvs.length<=sizeLine/\(a==sysModules)=false/\
 ∃xs,KT H kvs xs/\h.DictOfH (tupleKind (mixKind P w)) a xs:=dt_rd ok (.inl e)
end
def DGet(H:Hp)(a:Addr)(y:V)(r:Option V):Prop:=
 (∃kvs k,Rd H a (.dK kvs)/\y=kV k/\r=valV kvs k)\/ ∃kvs k b,Rd H a (.dT kvs)/\y=.ref b/\H b=some (.tup (k.map kV))/\r=valV kvs k
def DPut(H:Hp)(a:Addr)(y v:V)(H':Hp):Prop:=
 (∃kvs k,H a=some (.dK kvs)/\y=kV k/\kvs.length<sizeLine/\H'=upd H a (.dK (putK kvs k v)))\/
 ∃kvs k b,H a=some (.dT kvs)/\y=.ref b/\H b=some (.tup (k.map kV))/\kvs.length<sizeLine/\H'=upd H a (.dT (putK kvs k v))
theorem DGet.k{H:Hp}{a:Addr}{kvs:List (Key×V)}{k:Key}(e:H a=some (.dK kvs)):DGet H a (kV k) (valV kvs k):=.inl ⟨kvs,k,.inl e,rfl,rfl⟩
theorem DGet.t{H:Hp}{a b:Addr}{kvs:List (List Key×V)}{k:List Key}(e:H a=some (.dT kvs))(eb:H b=some (.tup (k.map kV))):DGet H a (.ref b) (valV kvs k):=.inr ⟨kvs,k,b,.inl e,rfl,eb,rfl⟩
theorem DPut.k{H:Hp}{a:Addr}{kvs:List (Key×V)}{k:Key}{v:V}(e:H a=some (.dK kvs))(hl:kvs.length<sizeLine):DPut H a (kV k) v (upd H a (.dK (putK kvs k v))):=.inl ⟨kvs,k,e,rfl,hl,rfl⟩
theorem DPut.t{H:Hp}{a b:Addr}{kvs:List (List Key×V)}{k:List Key}{v:V}(e:H a=some (.dT kvs))(eb:H b=some (.tup (k.map kV)))(hl:kvs.length<sizeLine):
 DPut H a (.ref b) v (upd H a (.dT (putK kvs k v))):=.inr ⟨kvs,k,b,e,rfl,eb,hl,rfl⟩
section
variable{X:Cx}{pins:List (Addr×Obj)}{σ:St}{H:Hp}{s:Shared}{a:Addr}{y v:V}{u r:Value}{o:Option V}{A:Around}{E:Value->Shared->Prop}
theorem Inv.big(I:Inv X pins σ H s):sysModules<s.heap.objs.size:=by
 have h:mainGlobals<s.heap.objs.size:=(I.mod.glob.keeps I.bk).lt
 exact Nat.lt_trans (by decide) h
theorem d_getItem{Q:Value->Shared->Prop}(hu:A.units+1<cLine)(I:Inv X pins σ H s)(g:DGet H a y (some v))(ry:RelV y u)(h:∀w' s',Inv X pins σ H s'->RelV v w'->Q w' s'):
 wpAny (model X.prog X.w) A (getItem (.ref a) u) Q E s:=by
 rcases g with⟨kvs,k,e,ey,l⟩|⟨kvs,k,b,e,ey,eb,l⟩
 . subst ey
   obtain⟨z,hd,vs,rel,dd⟩:=dk_rd I.hok e
   obtain⟨w',hw,rw'⟩:=RelO.some_of (v:=v) (o:=valueAt vs k) (by rw[l];exact rel.val k)
   exact wpAny_getItem_of (kV_is ry) dd.mapOf hw (h w' _ (I.tok _) rw')
 . subst ey
   cases(show u=Value.ref b from ry)
   obtain⟨z,hd,xs,rel,dd⟩:=dt_rd I.hok e
   obtain⟨w',hw,rw'⟩:=RelO.some_of (v:=v) (o:=(atKey xs k).map (·.2)) (by rw[l];exact rel.val k)
   obtain⟨p,hp,hp2⟩:=Option.map_eq_some_iff.mp hw
   refine wpAny_getItem_heap (tupleKind_room_in1 hu) (key_of I.hok eb) dd hp ?_
   rw[hp2]
   exact h w' _ (I.tok _) rw'
theorem d_in{Q:Value->Shared->Prop}(hu:A.units+1<cLine)(I:Inv X pins σ H s)(g:DGet H a y o)(ry:RelV y u)(h:∀s',Inv X pins σ H s'->Q (.bool o.isSome) s'):
 wpAny (model X.prog X.w) A (compareOp .In u (.ref a)) Q E s:=by
 rcases g with⟨kvs,k,e,ey,l⟩|⟨kvs,k,b,e,ey,eb,l⟩
 . subst ey
   obtain⟨z,hd,vs,rel,dd⟩:=dk_rd I.hok e
   refine wpAny_in_of (kV_is ry) hd dd.mapOf ?_
   rw[<-(rel.val k).isSome_eq, <-l]
   exact h _ (I.tok _)
 . subst ey
   cases(show u=Value.ref b from ry)
   obtain⟨z,hd,xs,rel,dd⟩:=dt_rd I.hok e
   refine wpAny_in_heap (tupleKind_room_in1 hu) (key_of I.hok eb) hd dd ?_
   have q:=(rel.val k).isSome_eq
   rw[Option.isSome_map]at q
   rw[<-q, <-l]
   exact h _ (I.tok _)
theorem d_notIn{Q:Value->Shared->Prop}(hu:A.units+1<cLine)(I:Inv X pins σ H s)(g:DGet H a y o)(ry:RelV y u)(h:∀s',Inv X pins σ H s'->Q (.bool (!o.isSome)) s'):
 wpAny (model X.prog X.w) A (compareOp .NotIn u (.ref a)) Q E s:=by
 rcases g with⟨kvs,k,e,ey,l⟩|⟨kvs,k,b,e,ey,eb,l⟩
 . subst ey
   obtain⟨z,hd,vs,rel,dd⟩:=dk_rd I.hok e
   refine wpAny_notIn_of (kV_is ry) hd dd.mapOf ?_
   rw[<-(rel.val k).isSome_eq, <-l]
   exact h _ (I.tok _)
 . subst ey
   cases(show u=Value.ref b from ry)
   obtain⟨z,hd,xs,rel,dd⟩:=dt_rd I.hok e
   refine wpAny_notIn_heap (tupleKind_room_in1 hu) (key_of I.hok eb) hd dd ?_
   have q:=(rel.val k).isSome_eq
   rw[Option.isSome_map]at q
   rw[<-q, <-l]
   exact h _ (I.tok _)
theorem d_write{h':Heap}{t':Nat}{ob:HO}(I:Inv X pins σ H s)(mu:Mut (H a))(hs:Heap.SameBut a s.heap h')(he:∃q,h'.get? a=some q)(new:ObjOk X.prog X.w (upd H a ob) h' a ob):
 Inv X pins σ (upd H a ob) {s with heap:=h',toks:=t'}:=
 I.write (x:=a) (e:=a) mu (.inl rfl) (fun b q hb z=>(hs.2 b hb).trans z) he new
theorem dk_new{P:Program}{w:World}{H':Hp}{h':Heap}{kvs:List (Key×V)}{vs:List (Key×Value)}(z:kvs.length<=sizeLine)(hd:(a==sysModules)=false)(rel:KV kvs vs)(dd:h'.DictOf (mixKind P w) a vs):
 ObjOk P w H' h' a (.dK kvs):=⟨z,hd,vs,rel,dd⟩
theorem d_setItem{H':Hp}{Q:Unit->Shared->Prop}(hu:A.units+1<cLine)(I:Inv X pins σ H s)(g:DPut H a y v H')(ry:RelV y u)(rv:RelV v r)(h:∀s',Inv X pins σ H' s'->Q () s'):
 wpAny (model X.prog X.w) A (setItem (.ref a) u r) Q E s:=by
 rcases g with⟨kvs,k,e,ey,l,eH⟩|⟨kvs,k,b,e,ey,eb,l,eH⟩
 . subst ey eH
   obtain⟨z,hd,vs,rel,dd⟩:=dk_of I.hok e
   have hz:vs.length<=sizeLine:=by rw[<-rel.length];exact z
   have hl:(putK kvs k v).length<=sizeLine:=by have:=length_putK kvs k v;omega
   refine wpAny_setItem_pairs (hsz:=hz) (kV_is ry) dd fun h' dd' hs=>h _ ?_
   have he:∃q,h'.get? a=some q:=let⟨q,_,_,hq,_⟩:=dd';⟨q,hq⟩
   exact d_write I (by rw[e];exact True.intro) hs he (dk_new hl hd (rel.put k rv) dd')
 . subst ey eH
   cases(show u=Value.ref b from ry)
   obtain⟨z,hd,xs,rel,dd⟩:=dt_of I.hok e
   have hz:xs.length<=sizeLine:=by rw[<-Paired.length rel];exact z
   have hl:(putK kvs k v).length<=sizeLine:=by have:=length_putK kvs k v;omega
   refine wpAny_setItem_heap (hsz:=hz) (tupleKind_room_in1 hu) (key_of I.hok eb) dd fun h' dd' hs=>h _ ?_
   obtain⟨q,es,ep,hq,h2,h3,h4,_,h5⟩:=dd'
   refine d_write I (by rw[e];exact True.intro) hs ⟨q,hq⟩ ⟨hl,hd,_,(rel.put k eb rv).keeps fun c ys ec=>?_,q,es,ep,hq,h2,h3,h4,h5⟩
   rw[upd_ne (ne_of ec e (fun z=>nomatch z))]
   exact ec
end
section
variable{X:Cx}{pins:List (Addr×Obj)}{σ:St}{H:Hp}{s:Shared}{a:Addr}{kvs:List (Key×V)}{k:Key}{u:Value}{A:Around}{E:Value->Shared->Prop}
theorem d_pop{v:V}{more:List Value}{Q:Value->Shared->Prop}(I:Inv X pins σ H s)(e:H a=some (.dK kvs))(ry:RelV (kV k) u)(l:valV kvs k=some v)(hm:more=[]\/ ∃x,more=[x])
 (h:∀w' s',Inv X pins σ (upd H a (.dK (dropK kvs k))) s'->RelV v w'->Q w' s'):wpAny (model X.prog X.w) A (call (.builtin "dict.pop") (.ref a::u::more)) Q E s:=by
 obtain⟨z,hd,vs,rel,dd⟩:=dk_of I.hok e
 obtain⟨w',hw,rw'⟩:=RelO.some_of (v:=v) (o:=valueAt vs k) (by rw[<-l];exact rel.val k)
 have hp:(keyPart u).isSome=true:=by
  cases k with
  |inl i=>obtain⟨t,q⟩:=(show∃t,u=Value.int i t from ry);subst q;rfl
  |inr x=>obtain⟨t,q⟩:=(show∃t,u=Value.str x t from ry);subst q;rfl
 have ha:argsOk "dict.pop" ⟨.ref a::u::more,[]⟩:=by
  rcases hm with q|⟨x,q⟩
  . subst q;exact PySem.F.args_dict_pop_2 _ _
  . subst q;exact PySem.F.args_dict_pop_3 _ _ _
 refine call_meetsIn PySem.F.slot_dict_pop dd.typeIs PySem.F.entry_dict_pop ha (meets_dict_pop_there (mixKind X.prog X.w) a (kV_is ry) more hm hp)
  ⟨vs,w',dd,by rw[<-rel.length];exact z,hw,fun h' dd' hs=>h w' _ ?_ rw'⟩
 have he:∃q,h'.get? a=some q:=let⟨q,_,_,hq,_⟩:=dd';⟨q,hq⟩
 exact d_write I (by rw[e];exact True.intro) hs he (dk_new (Nat.le_trans (dropK_le kvs k) z) hd (rel.drop k) dd')
end
def NoSl(i:Expr):Prop:=∀ov iv,subscripted i false ov iv=operate [ov,iv] (getItem ov iv)
theorem subD_of{prog:Program}{w:World}{A:Around}{E:Value->Shared->Prop}{s:Shared}{env:Env}{value slice:Expr}{pos:Pos}{T id:String}{Q:Value->Shared->Prop}
 (hl:typeLookup (.type T) "__getitem__"=pure (some (.builtin id)))(hs:NoSl slice)
 (h:wpAny (model prog w) A (eval value env) (fun o s₁=>wpAny (model prog w) A (eval slice env) (fun i s₂=>s₂.TypeIs o T/\wpAny (model prog w) A (getItem o i) Q E s₂) E s₁) E s):
 wpAny (model prog w) A (eval (.Subscript value slice pos) env) Q E s:=by
 refine Subscript_ (wpAny_mono h (fun o s₁ h₁=>wpAny_mono h₁ (fun i s₂ h₂=>?_) fun _ _ x=>x) fun _ _ x=>x)
 obtain⟨hT,h₂⟩:=h₂
 unfold subscriptTail
 refine wpAny_bind ?_
 rw[getitemInPython_of_ne hT.not_modules]
 refine wpAny_bind (wpAny_specialOf hT hl ?_)
 have fin:wpAny (model prog w) A (subscripted slice false o i) (fun r s₃=>wpAny (model prog w) A (letTemporaryGo value o r>>=fun _=>pure r) Q E s₃) E s₂:=by
  rw[hs o i]
  exact wpAny_operating (wpAny_mono h₂ (fun r s₃ h₃=>wpAny_bind (wpAny_letTemporaryGo (wpAny_pure h₃))) fun _ _ x=>x)
 first
  |exact wpAny_pure (wpAny_bind fin)
  |exact wpAny_bind (wpAny_pure (wpAny_bind fin))
  |exact wpAny_bind fin
theorem dict_typeIs{X:Cx}{pins:List (Addr×Obj)}{σ:St}{H:Hp}{s:Shared}{a:Addr}{y:V}{o:Option V}(I:Inv X pins σ H s)(g:DGet H a y o):s.TypeIs (.ref a) "dict":=by
 rcases g with⟨kvs,k,e,_,_⟩|⟨kvs,k,b,e,_,_,_⟩
 . obtain⟨_,_,vs,_,dd⟩:=dk_rd I.hok e
   exact dd.typeIs
 . obtain⟨_,_,xs,_,dd⟩:=dt_rd I.hok e
   exact dd.typeIs
def tDGet(td ty:TE):TE:=fun σ H Q=>td σ H fun x H1=>ty σ H1 fun y H2=>∃a v,x=.ref a/\DGet H2 a y (some v)/\Q v H2
def tDIn(ty td:TE):TE:=fun σ H Q=>ty σ H fun y H1=>td σ H1 fun x H2=>∃a o,x=.ref a/\DGet H2 a y o/\Q (.bl o.isSome) H2
def tDNotIn(ty td:TE):TE:=fun σ H Q=>ty σ H fun y H1=>td σ H1 fun x H2=>∃a o,x=.ref a/\DGet H2 a y o/\Q (.bl (!o.isSome)) H2
def sDPut(td ty tv:TE):TS:=fun D σ H=>tv σ H fun v H1=>td σ H1 fun x H2=>ty σ H2 fun y H3=>∃a H4,x=.ref a/\DPut H3 a y v H4/\D.nx σ H4
section
variable{X:Cx}{o i e value:Expr}{pos pos' tpos:Pos}{td ty tv:TE}
theorem pe_dget(hu:X.A.units+1<cLine)(ho:PE X o td)(hi:PE X i ty)(hs:NoSl i):PE X (.Subscript o i pos) (tDGet td ty):=by
 intro pins s σ H Q I h
 refine subD_of PySem.F.slot_dict_getitem.lookup hs (thn (ho pins s σ H _ I h) fun u s1 ⟨x,H1,I1,rx,q1⟩=>thn (hi pins s1 σ H1 _ I1 q1) fun iv s2 ⟨y,H2,I2,ry,a,v,ex,g,q2⟩=>?_)
 subst ex
 obtain rfl:u=Value.ref a:=rx
 exact⟨dict_typeIs I2 g,d_getItem hu I2 g ry fun w' s3 I3 rw'=>⟨v,H2,I3,rw',q2⟩⟩
theorem pc_din(hu:X.A.units+1<cLine)(hi:PE X i ty)(ho:PE X o td):PC X .In i o (tDIn ty td):=by
 intro pins s σ H Q I h
 refine thn (hi pins s σ H _ I h) fun iv s1 ⟨y,H1,I1,ry,q1⟩=>thn (ho pins s1 σ H1 _ I1 q1) fun u s2 ⟨x,H2,I2,rx,a,ov,ex,g,q2⟩=>?_
 subst ex
 obtain rfl:u=Value.ref a:=rx
 exact d_in hu I2 g ry fun s3 I3=>⟨.bl ov.isSome,H2,I3,rfl,q2⟩
theorem pc_dnotin(hu:X.A.units+1<cLine)(hi:PE X i ty)(ho:PE X o td):PC X .NotIn i o (tDNotIn ty td):=by
 intro pins s σ H Q I h
 refine thn (hi pins s σ H _ I h) fun iv s1 ⟨y,H1,I1,ry,q1⟩=>thn (ho pins s1 σ H1 _ I1 q1) fun u s2 ⟨x,H2,I2,rx,a,ov,ex,g,q2⟩=>?_
 subst ex
 obtain rfl:u=Value.ref a:=rx
 exact d_notIn hu I2 g ry fun s3 I3=>⟨.bl (!ov.isSome),H2,I3,rfl,q2⟩
theorem ps_dput(hu:X.A.units+1<cLine)(ho:PE X o td)(hi:PE X i ty)(hv:PE X value tv)(hs:swapsWith value (some (.Subscript o i pos')) pos.line X.env=pure false):
 PS X (.Assign [.Subscript o i pos'] value pos) (sDPut td ty tv):=by
 intro pins s σ H D I h
 refine wpAny_Assign_Subscript (thn (hv pins s σ H _ I h) fun r s1 ⟨v,H1,I1,rv,q1⟩=>thn (ho pins s1 σ H1 _ I1 q1) fun u s2 ⟨x,H2,I2,rx,q2⟩=>thn (hi pins s2 σ H2 _ I2 q2) fun iv s3 ⟨y,H3,I3,ry,a,H4,ex,g,q3⟩=>?_) hs
 subst ex
 obtain rfl:u=Value.ref a:=rx
 exact d_setItem hu I3 g ry rv fun s4 I4=>⟨σ,H4,I4,q3⟩
end
theorem dk_empty{P:Program}{w:World}{H:Hp}(h:Heap)(hb:sysModules<h.objs.size):ObjOk P w H (h.push {cls:=.type "dict",data:=.dict #[]}) h.objs.size (.dK []):=
 ⟨Nat.zero_le _,beq_eq_false_iff_ne.mpr (Ne.symm (Nat.ne_of_lt hb)),[],.nil,Heap.DictOf.new h⟩
def tDNewK:TE:=fun _ H Q=>∀p,H p=none->Q (.ref p) (upd H p (.dK []))
def tDNewT:TE:=fun _ H Q=>∀p,H p=none->Q (.ref p) (upd H p (.dT []))
section
variable{X:Cx}{pos:Pos}
theorem pe_dnewK:PE X (.Dict [] [] pos) tDNewK:=fun pins s σ H Q I h=>
 wpAny_Dict_empty ⟨.ref s.heap.objs.size,_,I.laid (a:=s.heap.objs.size) (o:=.dK []) (t':=s.toks) (fun _ _ q=>get?_push_of_some _ q) (Nat.le_refl _) (dk_empty s.heap I.big),rfl,h _ (I.hok.fresh (Nat.le_refl _))⟩
end
structure M1(X:Cx)(o:Expr)(m:Str)(apos:Pos)(e:Expr)(cpos:Pos):Prop where
 base:attributeBase o m X.env (eval o X.env)=eval o X.env
 few:((backTo cpos (starEach [e] X.env)).all (fun x=> !x.1)&&(backToKw cpos (keywordEach [] X.env)).all (fun x=>x.1.isSome)
  &&decide (([e]:List Expr).length+([]:List Keyword).length+(if([]:List Keyword).isEmpty then 0 else 1)<30))=true
 line:(apos.endLine==cpos.line)=true
 trees:backTo cpos (starEach [e] X.env)=[(false,eval e X.env)]
structure M2(X:Cx)(o:Expr)(m:Str)(apos:Pos)(e f:Expr)(cpos:Pos):Prop where
 base:attributeBase o m X.env (eval o X.env)=eval o X.env
 few:((backTo cpos (starEach [e,f] X.env)).all (fun x=> !x.1)&&(backToKw cpos (keywordEach [] X.env)).all (fun x=>x.1.isSome)
  &&decide (([e,f]:List Expr).length+([]:List Keyword).length+(if([]:List Keyword).isEmpty then 0 else 1)<30))=true
 line:(apos.endLine==cpos.line)=true
 trees:backTo cpos (starEach [e,f] X.env)=[(false,eval e X.env),(false,eval f X.env)]
def IsD(H:Hp)(a:Addr):Prop:=(∃kvs,Rd H a (.dK kvs))\/ ∃kvs,Rd H a (.dT kvs)
theorem isD_at{X:Cx}{pins:List (Addr×Obj)}{σ:St}{H:Hp}{s:Shared}{a:Addr}(I:Inv X pins σ H s)(d:IsD H a):
 s.TypeIs (.ref a) "dict"/\(∀b,Value.ref a=.ref b->∃ob,s.heap.get? b=some ob/\ob.dict=none)/\(a==sysModules)=false:=by
 rcases d with⟨kvs,e⟩|⟨kvs,e⟩
 . obtain⟨_,hd,vs,_,dd⟩:=dk_rd I.hok e
   refine⟨dd.typeIs,fun b q=>?_,hd⟩
   cases q
   obtain⟨ob,_,_,h1,h2,_⟩:=dd
   exact⟨ob,h1,h2.2.1⟩
 . obtain⟨_,hd,xs,_,dd⟩:=dt_rd I.hok e
   refine⟨dd.typeIs,fun b q=>?_,hd⟩
   cases q
   obtain⟨ob,_,_,h1,h2,_⟩:=dd
   exact⟨ob,h1,h2.2.1⟩
def tDPop1(td ty:TE):TE:=fun σ H Q=>td σ H fun x H1=>∃a,x=.ref a/\IsD H1 a/\ty σ H1 fun y H2=>∃kvs k v,H2 a=some (.dK kvs)/\y=kV k/\valV kvs k=some v/\Q v (upd H2 a (.dK (dropK kvs k)))
section
variable{X:Cx}{o e f:Expr}{apos cpos:Pos}{td ty tx:TE}
theorem pe_dpop1(ho:PE X o td)(he:PE X e ty)(m:M1 X o "pop" apos e cpos):PE X (.Call (.Attribute o "pop" apos) [e] [] cpos) (tDPop1 td ty):=by
 intro pins s σ H Q I h
 refine wpAny_Call_method m.base m.few m.line PySem.F.plainAttrs_dict PySem.F.slot_dict_pop PySem.F.type_dict_pop (thn (ho pins s σ H _ I h) fun u s1 ⟨x,H1,I1,rx,a,ex,d,q1⟩=>?_)
 subst ex
 obtain rfl:u=Value.ref a:=rx
 obtain⟨t1,t2,_⟩:=isD_at I1 d
 refine⟨t1,t2,?_⟩
 rw[m.trees]
 refine Calls.callWith_builtin rfl (Calls.evalArgs_plain (Calls.spliced_cons (thn (he pins s1 σ H1 _ I1 q1) fun iv s2 ⟨y,H2,I2,ry,kvs,k,v,ea,ey,l,q2⟩=>Calls.spliced_nil ?_)))
 subst ey
 exact d_pop I2 ea ry l (.inl rfl) fun w' s3 I3 rw'=>⟨v,_,I3,rw',q2⟩
end
end L2
namespace Att
open PySem PySem.W PySem.Calls PyProof.Rows
end Att
namespace L2
open PySem PySem.Spec PyProof.Rows
end L2
namespace Y.DEq
open PySem PySem.SeqAt PySem.MeetsSeq PySem.AutoSeq1
abbrev dob(dd:Option Addr)(es:Array DictEntry)(n:Nat)(sl:Array (Option Value)):Obj:=⟨.type "dict",dd,.dict es n,sl⟩
abbrev lob(T:String)(dd:Option Addr)(xs:Array Value)(n:Nat)(sl:Array (Option Value)):Obj:=⟨.type T,dd,.seq xs n,sl⟩
section
variable(l b:Addr)(es:Array DictEntry)(xs:Array Value)(n m:Nat)(dd de:Option Addr)(sl sm:Array (Option Value))(q:Bool)(i:Int)(z:Str)(t:Tok)
theorem dict_none:Meets (Builtin.«dict.__eq__» ⟨[.ref l,.none],[]⟩) (fun _ R s=>s.heap.get? l=some (dob dd es n sl)/\R (.ok (.ret .notImplemented)) s):=
 .of_wp fun prog w A R s h=>by
  obtain⟨hp,g,d,tk,os⟩:=s
  obtain⟨hl,h⟩:=h
  have f1:=F.sub_NoneType_dict
  wp_walk using wpAny_loadPart' hl
  exact⟨_,rfl,h⟩
theorem dict_bool:Meets (Builtin.«dict.__eq__» ⟨[.ref l,.bool q],[]⟩) (fun _ R s=>s.heap.get? l=some (dob dd es n sl)/\R (.ok (.ret .notImplemented)) s):=
 .of_wp fun prog w A R s h=>by
  obtain⟨hp,g,d,tk,os⟩:=s
  obtain⟨hl,h⟩:=h
  have f1:=F.sub_bool_dict
  wp_walk using wpAny_loadPart' hl
  exact⟨_,rfl,h⟩
theorem dict_int:Meets (Builtin.«dict.__eq__» ⟨[.ref l,.int i t],[]⟩) (fun _ R s=>s.heap.get? l=some (dob dd es n sl)/\R (.ok (.ret .notImplemented)) s):=
 .of_wp fun prog w A R s h=>by
  obtain⟨hp,g,d,tk,os⟩:=s
  obtain⟨hl,h⟩:=h
  have f1:=F.sub_int_dict
  wp_walk using wpAny_loadPart' hl
  exact⟨_,rfl,h⟩
theorem dict_str:Meets (Builtin.«dict.__eq__» ⟨[.ref l,.str z t],[]⟩) (fun _ R s=>s.heap.get? l=some (dob dd es n sl)/\R (.ok (.ret .notImplemented)) s):=
 .of_wp fun prog w A R s h=>by
  obtain⟨hp,g,d,tk,os⟩:=s
  obtain⟨hl,h⟩:=h
  have f1:=F.sub_str_dict
  wp_walk using wpAny_loadPart' hl
  exact⟨_,rfl,h⟩
theorem dict_list:Meets (Builtin.«dict.__eq__» ⟨[.ref l,.ref b],[]⟩) (fun _ R s=>s.heap.get? l=some (dob dd es n sl)/\s.heap.get? b=some (lob "list" de xs m sm)/\R (.ok (.ret .notImplemented)) s):=
 .of_wp fun prog w A R s h=>by
  obtain⟨hp,g,d,tk,os⟩:=s
  obtain⟨hl,hb,h⟩:=h
  have f1:=F.sub_list_dict
  wp_walk using wpAny_loadPart' hl,wpAny_loadPart' hb
  exact⟨_,rfl,h⟩
theorem list_dict:Meets (Builtin.«list.__eq__» ⟨[.ref b,.ref l],[]⟩) (fun _ R s=>s.heap.get? l=some (dob dd es n sl)/\s.heap.get? b=some (lob "list" de xs m sm)/\R (.ok (.ret .notImplemented)) s):=
 .of_wp fun prog w A R s h=>by
  obtain⟨hp,g,d,tk,os⟩:=s
  obtain⟨hl,hb,h⟩:=h
  have f1:=F.sub_dict_list
  wp_walk using wpAny_loadPart' hl,wpAny_loadPart' hb
  exact⟨_,rfl,h⟩
theorem dict_tuple:Meets (Builtin.«dict.__eq__» ⟨[.ref l,.ref b],[]⟩) (fun _ R s=>s.heap.get? l=some (dob dd es n sl)/\s.heap.get? b=some (lob "tuple" de xs m sm)/\R (.ok (.ret .notImplemented)) s):=
 .of_wp fun prog w A R s h=>by
  obtain⟨hp,g,d,tk,os⟩:=s
  obtain⟨hl,hb,h⟩:=h
  have f1:=F.sub_tuple_dict
  wp_walk using wpAny_loadPart' hl,wpAny_loadPart' hb
  exact⟨_,rfl,h⟩
theorem tuple_dict:Meets (Builtin.«tuple.__eq__» ⟨[.ref b,.ref l],[]⟩) (fun _ R s=>s.heap.get? l=some (dob dd es n sl)/\s.heap.get? b=some (lob "tuple" de xs m sm)/\R (.ok (.ret .notImplemented)) s):=
 .of_wp fun prog w A R s h=>by
  obtain⟨hp,g,d,tk,os⟩:=s
  obtain⟨hl,hb,h⟩:=h
  have f1:=F.sub_dict_tuple
  wp_walk using wpAny_loadPart' hl,wpAny_loadPart' hb
  exact⟨_,rfl,h⟩
theorem bool_dict:Meets (Builtin.«int.__eq__» ⟨[.bool q,.ref l],[]⟩) (fun _ R s=>s.heap.get? l=some (dob dd es n sl)/\R (.ok (.ret .notImplemented)) s):=
 .of_wp fun prog w A R s h=>by
  obtain⟨hp,g,d,tk,os⟩:=s
  obtain⟨hl,h⟩:=h
  wp_walk using wpAny_loadPart' hl,wpAny_load hl
  exact⟨_,rfl,h⟩
theorem int_dict:Meets (Builtin.«int.__eq__» ⟨[.int i t,.ref l],[]⟩) (fun _ R s=>s.heap.get? l=some (dob dd es n sl)/\R (.ok (.ret .notImplemented)) s):=
 .of_wp fun prog w A R s h=>by
  obtain⟨hp,g,d,tk,os⟩:=s
  obtain⟨hl,h⟩:=h
  wp_walk using wpAny_loadPart' hl,wpAny_load hl
  exact⟨_,rfl,h⟩
theorem str_dict:Meets (Builtin.«str.__eq__» ⟨[.str z t,.ref l],[]⟩) (fun _ R s=>s.heap.get? l=some (dob dd es n sl)/\R (.ok (.ret .notImplemented)) s):=
 .of_wp fun prog w A R s h=>by
  obtain⟨hp,g,d,tk,os⟩:=s
  obtain⟨hl,h⟩:=h
  wp_walk using wpAny_loadPart' hl,wpAny_load hl
  exact⟨_,rfl,h⟩
end
def IsDct(h:Heap)(a:Addr):Prop:=∃dd es n sl,h.get? a=some (dob dd es n sl)
section
variable{A:Around}{s:Shared}{l b:Addr}
theorem rc_none(hl:IsDct s.heap l)(hu:A.units<cLine):RcAt A s (.none) (.ref l) false:=fun prog w E Q h=>by
 obtain⟨dd,es,n,sl,ho⟩:=hl
 refine rc_eq_decline_or (k:=false) (Ta:="NoneType") (rfl) ⟨_,ho,rfl⟩ (by decide) F.sub_dict_NoneType F.slot_NoneType_eq F.slot_dict_eq_refl (fun _ hq=>?_) (fun _ hq=>?_) (fun _ hq=>wpAny_of_eq (rfl:isSame (.none) (.ref l)=pure false) hq) (.inr hu) h
 . exact call_gives F.slot_NoneType_eq rfl F.entry_NoneType_eq (F.args_NoneType_eq_2 _ _) (NoneType___eq___none_ref_0 l) hq
 . exact call_meets F.slot_dict_eq_refl ⟨_,ho,rfl⟩ F.entry_dict_eq (F.args_dict_eq_2 _ _) (dict_none l es n dd sl) ⟨ho,hq⟩
theorem at_none(hl:IsDct s.heap l)(hu:A.units<cLine):EqAt A s (.none) (.ref l) false:=fun prog w E Q h=>by
 unfold eqBool
 refine wpAny_holding (wpAny_ite_split (fun hab=>absurd (eq_of_beq hab) nofun) fun _=>?_)
 exact wpAny_bind (rc_none  hl hu prog w E _ (wpAny_truthy_bool h))
theorem rc_bool(q:Bool)(hl:IsDct s.heap l)(hu:A.units<cLine):RcAt A s (.bool q) (.ref l) false:=fun prog w E Q h=>by
 obtain⟨dd,es,n,sl,ho⟩:=hl
 refine rc_eq_decline_or (k:=false) (Ta:="bool") (rfl) ⟨_,ho,rfl⟩ (by decide) F.sub_dict_bool F.slot_bool_eq F.slot_dict_eq_refl (fun _ hq=>?_) (fun _ hq=>?_) (fun _ hq=>wpAny_of_eq (rfl:isSame (.bool q) (.ref l)=pure false) hq) (.inr hu) h
 . exact call_meets F.slot_bool_eq rfl F.entry_int_eq (F.args_int_eq_2 _ _) (bool_dict l es n dd sl q) ⟨ho,hq⟩
 . exact call_meets F.slot_dict_eq_refl ⟨_,ho,rfl⟩ F.entry_dict_eq (F.args_dict_eq_2 _ _) (dict_bool l es n dd sl q) ⟨ho,hq⟩
theorem at_bool(q:Bool)(hl:IsDct s.heap l)(hu:A.units<cLine):EqAt A s (.bool q) (.ref l) false:=fun prog w E Q h=>by
 unfold eqBool
 refine wpAny_holding (wpAny_ite_split (fun hab=>absurd (eq_of_beq hab) nofun) fun _=>?_)
 exact wpAny_bind (rc_bool q hl hu prog w E _ (wpAny_truthy_bool h))
theorem rc_int(i:Int)(t:Tok)(hl:IsDct s.heap l)(hu:A.units<cLine):RcAt A s (.int i t) (.ref l) false:=fun prog w E Q h=>by
 obtain⟨dd,es,n,sl,ho⟩:=hl
 refine rc_eq_decline_or (k:=false) (Ta:="int") (typeIs_int s i t) ⟨_,ho,rfl⟩ (by decide) F.sub_dict_int F.slot_int_eq F.slot_dict_eq_refl (fun _ hq=>?_) (fun _ hq=>?_) (fun _ hq=>wpAny_of_eq (rfl:isSame (.int i t) (.ref l)=pure false) hq) (.inr hu) h
 . exact call_meets F.slot_int_eq (typeIs_int s i t) F.entry_int_eq (F.args_int_eq_2 _ _) (int_dict l es n dd sl i t) ⟨ho,hq⟩
 . exact call_meets F.slot_dict_eq_refl ⟨_,ho,rfl⟩ F.entry_dict_eq (F.args_dict_eq_2 _ _) (dict_int l es n dd sl i t) ⟨ho,hq⟩
theorem at_int(i:Int)(t:Tok)(hl:IsDct s.heap l)(hu:A.units<cLine):EqAt A s (.int i t) (.ref l) false:=fun prog w E Q h=>by
 unfold eqBool
 refine wpAny_holding (wpAny_ite_split (fun hab=>absurd (eq_of_beq hab) nofun) fun _=>?_)
 exact wpAny_bind (rc_int i t hl hu prog w E _ (wpAny_truthy_bool h))
theorem rc_str(z:Str)(t:Tok)(hl:IsDct s.heap l)(hu:A.units<cLine):RcAt A s (.str z t) (.ref l) false:=fun prog w E Q h=>by
 obtain⟨dd,es,n,sl,ho⟩:=hl
 refine rc_eq_decline_or (k:=false) (Ta:="str") (typeIs_str s z t) ⟨_,ho,rfl⟩ (by decide) F.sub_dict_str F.slot_str_eq F.slot_dict_eq_refl (fun _ hq=>?_) (fun _ hq=>?_) (fun _ hq=>wpAny_of_eq (rfl:isSame (.str z t) (.ref l)=pure false) hq) (.inr hu) h
 . exact call_meets F.slot_str_eq (typeIs_str s z t) F.entry_str_eq (F.args_str_eq_2 _ _) (str_dict l es n dd sl z t) ⟨ho,hq⟩
 . exact call_meets F.slot_dict_eq_refl ⟨_,ho,rfl⟩ F.entry_dict_eq (F.args_dict_eq_2 _ _) (dict_str l es n dd sl z t) ⟨ho,hq⟩
theorem at_str(z:Str)(t:Tok)(hl:IsDct s.heap l)(hu:A.units<cLine):EqAt A s (.str z t) (.ref l) false:=fun prog w E Q h=>by
 unfold eqBool
 refine wpAny_holding (wpAny_ite_split (fun hab=>absurd (eq_of_beq hab) nofun) fun _=>?_)
 exact wpAny_bind (rc_str z t hl hu prog w E _ (wpAny_truthy_bool h))
theorem ne_list{xs:Array Value}(hb:s.heap.IsList b xs)(hl:IsDct s.heap l):b≠l:=fun e=>by
 subst e
 obtain⟨o,ho,hc,_⟩:=hb
 obtain⟨dd,es,n,sl,ho2⟩:=hl
 rw[ho]at ho2
 cases ho2
 exact absurd hc (by simp)
theorem rc_list{xs:Array Value}(hb:s.heap.IsList b xs)(hl:IsDct s.heap l)(hu:A.units<cLine):RcAt A s (.ref b) (.ref l) false:=fun prog w E Q h=>by
 have hne:=ne_list hb hl
 obtain⟨dd,es,n,sl,ho⟩:=hl
 obtain⟨⟨cls,de,data,sm⟩,hb1,hc,m,hd⟩:=id hb
 simp only at hc hd
 subst hc hd
 refine rc_eq_decline_or (k:=false) (Ta:="list") ⟨_,hb1,rfl⟩ ⟨_,ho,rfl⟩ (by decide) F.sub_dict_list F.slot_list_eq F.slot_dict_eq_refl (fun _ hq=>?_) (fun _ hq=>?_) (fun _ hq=>wpAny_isSame_ref_other hne hb1 ho (by simp) hq) (.inr hu) h
 . exact call_meets F.slot_list_eq ⟨_,hb1,rfl⟩ F.entry_list_eq (F.args_list_eq_2 _ _) (list_dict l b es xs n m dd de sl sm) ⟨ho,hb1,hq⟩
 . exact call_meets F.slot_dict_eq_refl ⟨_,ho,rfl⟩ F.entry_dict_eq (F.args_dict_eq_2 _ _) (dict_list l b es xs n m dd de sl sm) ⟨ho,hb1,hq⟩
theorem at_list{xs:Array Value}(hb:s.heap.IsList b xs)(hl:IsDct s.heap l)(hu:A.units<cLine):EqAt A s (.ref b) (.ref l) false:=.of_refs (ne_list hb hl) (rc_list hb hl hu)
theorem ne_tuple{xs:Array Value}(hb:s.heap.IsTuple b xs)(hl:IsDct s.heap l):b≠l:=fun e=>by
 subst e
 obtain⟨o,ho,hc,_⟩:=hb
 obtain⟨dd,es,n,sl,ho2⟩:=hl
 rw[ho]at ho2
 cases ho2
 exact absurd hc (by simp)
theorem rc_tuple{xs:Array Value}(hb:s.heap.IsTuple b xs)(hl:IsDct s.heap l)(hu:A.units<cLine):RcAt A s (.ref b) (.ref l) false:=fun prog w E Q h=>by
 have hne:=ne_tuple hb hl
 obtain⟨dd,es,n,sl,ho⟩:=hl
 obtain⟨⟨cls,de,data,sm⟩,hb1,hc,m,hd⟩:=id hb
 simp only at hc hd
 subst hc hd
 refine rc_eq_decline_or (k:=false) (Ta:="tuple") ⟨_,hb1,rfl⟩ ⟨_,ho,rfl⟩ (by decide) F.sub_dict_tuple F.slot_tuple_eq F.slot_dict_eq_refl (fun _ hq=>?_) (fun _ hq=>?_) (fun _ hq=>wpAny_isSame_ref_other' hne hb1 ho (by simp) hq) (.inr hu) h
 . exact call_meets F.slot_tuple_eq ⟨_,hb1,rfl⟩ F.entry_tuple_eq (F.args_tuple_eq_2 _ _) (tuple_dict l b es xs n m dd de sl sm) ⟨ho,hb1,hq⟩
 . exact call_meets F.slot_dict_eq_refl ⟨_,ho,rfl⟩ F.entry_dict_eq (F.args_dict_eq_2 _ _) (dict_tuple l b es xs n m dd de sl sm) ⟨ho,hb1,hq⟩
theorem at_tuple{xs:Array Value}(hb:s.heap.IsTuple b xs)(hl:IsDct s.heap l)(hu:A.units<cLine):EqAt A s (.ref b) (.ref l) false:=.of_refs (ne_tuple hb hl) (rc_tuple hb hl hu)
end
end Y.DEq
set_option autoImplicit false
set_option maxHeartbeats 4000000
namespace Y
open PySem PySem.Spec PyProof.Rows L2
theorem el13{α:Sort _}{B C D:α→Prop}{R:Prop}(h:∃a,B a/\C a/\D a)(f:∀a,B a→C a→D a→R):R:=by
 obtain⟨a,b,c,d⟩:=h
 exact f a b c d
theorem el33{α β γ:Sort _}{B C D:α→β→γ→Prop}{R:Prop}(h:∃a b c,B a b c/\C a b c/\D a b c)(f:∀a b c,B a b c→C a b c→D a b c→R):R:=by
 obtain⟨a,b,c,x,y,z⟩:=h
 exact f a b c x y z
abbrev St:=L2.St
class Tabs where
 T:List (Addr×Str)
variable[Tabs]
def isT:HO->Bool
 |.tbl _=>true
 |_=>false
def recO(c:Addr)(q:Str):HO:=.ext fun h=>h.CodeRec (.ref c) q
def TabsOk(H:Hp):Prop:=∀P∈Tabs.T,∃ps,H P.1=some (.tbl ps)/\TriplesOk ps.toList/\ ∀pos cv,codeAmong pos ps.toList=some cv->∃c,cv=.ref c/\H c=some (recO c P.2)
structure Same(H H':Hp):Prop where
 get:∀b o,H b=some o->isT o=false->H' b=some o
 tbl:∀b ps,H b=some (.tbl ps)->∃ps',H' b=some (.tbl ps')
 tabs:TabsOk H->TabsOk H'
theorem Same.at{H H':Hp}(s:Same H H'){b:Addr}{o:HO}(h:H b=some o)(n:isT o=false:=by rfl):H' b=some o:=s.get b o h n
theorem Same.refl(H:Hp):Same H H:=⟨fun _ _ h _=>h,fun _ ps h=>⟨ps,h⟩,fun t=>t⟩
theorem Same.trans{H H1 H2:Hp}(a:Same H H1)(b:Same H1 H2):Same H H2:=
 ⟨fun c o h n=>b.get c o (a.get c o h n) n,fun c ps h=>let⟨ps',e⟩:=a.tbl c ps h;b.tbl c ps' e,fun t=>b.tabs (a.tabs t)⟩
theorem Same.free{H H':Hp}(e:Same H H'){l:Addr}(h:H' l=Option.none):H l=Option.none:=by
 cases q:H l with
 |none=>rfl
 |some o=>
  cases n:isT o with
  |false=>rw[e.get l o q n]at h;cases h
  |true=>
   cases o with
   |tbl ps=>obtain⟨ps',z⟩:=e.tbl l ps q;rw[z]at h;cases h
   |_=>cases n
theorem Same.seq{K:PySem.W.Frag}{H H':Hp}{a:Addr}{xs:List V}(e:Same H H')(h:SqL K H a xs):SqL K H' a xs:=by
 rcases h with(h|⟨o,h⟩)|h
 . exact .inl (.inl (e.at h))
 . exact .inl (.inr ⟨o,e.at h⟩)
 . exact .inr h
inductive DO where
 |k(kvs:List (Key×V))
 |t(kvs:List (List Key×V))
 |f(b:Obj)(kvs:List (Key×V))
def DO.ho:DO->HO
 |.k kvs=>.dK kvs
 |.t kvs=>.dT kvs
 |.f b kvs=>.frz b (.dK kvs)
inductive MO where
 |l(xs:List V)
 |d(o:DO)
 |i(C dx:Addr)(fs:List (Str×V))
def MO.ho:MO->HO
 |.l xs=>.lst xs
 |.d o=>o.ho
 |.i C dx fs=>.ins C dx fs
theorem MO.nt(o:MO):isT o.ho=false:=by
 rcases o with xs|(kvs|kvs)|_<;>rfl
theorem DO.inj{o o':DO}(h:o.ho=o'.ho):o=o':=by
 cases o<;>cases o'<;>cases h<;>rfl
theorem MO.ntup(o:MO){xs:List V}(h:o.ho=.tup xs):False:=by
 rcases o with xs|(kvs|kvs)|_<;>cases h
theorem MO.nfrz(o:MO){b:Obj}{zs:List V}(h:o.ho=.frz b (.lst zs)):False:=by
 rcases o with xs|(kvs|kvs)|_<;>cases h
theorem TabsOk.upd{H:Hp}{p:Addr}{o:HO}(h:H p=none\/ ∃xs:MO,H p=some xs.ho)(t:TabsOk H):TabsOk (upd H p o):=fun P hP=>by
 obtain⟨ps,e,tr,k⟩:=t P hP
 have ne:∀{b:Addr} {u:HO},H b=some u->(∀xs:MO,u≠xs.ho)->b≠p:=fun{b u} q n z=>by
  rcases h with h|⟨xs,h⟩
  . rw[z,h]at q;cases q
  . rw[z,h]at q;exact n xs (Option.some.inj q).symm
 refine⟨ps,by rw[upd_ne (ne e (by intro xs z;rcases xs with xs|(kvs|kvs)|_<;>cases z))];exact e,tr,fun pos cv q=>?_⟩
 obtain⟨c,rfl,hc⟩:=k pos cv q
 exact⟨c,rfl,by rw[upd_ne (ne hc (by intro xs z;rcases xs with xs|(kvs|kvs)|_<;>cases z))];exact hc⟩
theorem Same.writeM{H H':Hp}{l:Addr}{xs:MO}{o:HO}(s:Same H H')(h:H l=none)(h':H' l=some xs.ho):Same H (upd H' l o):=
 ⟨fun b u e n=>by rw[upd_ne (ne_of_none e h)];exact s.get b u e n,fun b ps e=>by rw[upd_ne (ne_of_none e h)];exact s.tbl b ps e,fun t=>(s.tabs t).upd (.inr ⟨xs,h'⟩)⟩
theorem Same.write{H H':Hp}{l:Addr}{xs:List V}{o:HO}(s:Same H H')(h:H l=none)(h':H' l=some (.lst xs)):Same H (upd H' l o):=s.writeM (xs:=.l xs) h h'
inductive Sh where
 |k(ks:List Key)
 |t(ks:List (List Key))
 |o(C:Addr)(fs:List Str)
 |f(b:Obj)(ks:List Key)
def Sh.at(H:Hp)(a:Addr)(xs:List V):Sh->Prop
 |.k ks=>ks.length=xs.length/\H a=some (.dK (ks.zip xs))
 |.t ks=>ks.length=xs.length/\H a=some (.dT (ks.zip xs))
 |.o C fs=>fs.length=xs.length/\ ∃dx,H a=some (.ins C dx (fs.zip xs))
 |.f b ks=>ks.length=xs.length/\H a=some (.frz b (.dK (ks.zip xs)))
theorem Sh.mo{H:Hp}{a:Addr}{xs:List V}{s:Sh}(h:s.at H a xs):∃m:MO,H a=some m.ho/\ ∀H':Hp,H' a=some m.ho->s.at H' a xs:=by
 cases s with
 |k ks=>exact⟨.d (.k _),h.2,fun H' e=>⟨h.1,e⟩⟩
 |t ks=>exact⟨.d (.t _),h.2,fun H' e=>⟨h.1,e⟩⟩
 |o C fs=>
  obtain⟨h1,dx,h2⟩:=h
  exact⟨.i C dx _,h2,fun H' e=>⟨h1,dx,e⟩⟩
 |f b ks=>exact⟨.d (.f b _),h.2,fun H' e=>⟨h.1,e⟩⟩
inductive D where
 |non
 |bl(b:Bool)
 |int(i:Int)
 |str(x:Str)
 |lst(ds:List D)
 |tup(ds:List D)
 |dct(o:DO)
 |ktup(ks:List Key)
 |agg(s:Sh)(ds:List D)
def kD:Key->D
 |.inl i=>.int i
 |.inr x=>.str x
structure Zone where
 m:Bool
 S:Addr->Prop
def RO(K:PySem.W.Frag)(H:Hp)(a:Addr)(xs:List V):Prop:=
 (∃o,H a=some (.frz o (.lst xs)))\/
  ∃(o:Obj) (its:Array Value) (n:Nat),K.lookup a=some o/\o.cls=.type "list"/\o.dict=none/\o.data=.seq its n/\its.size<=sizeLine/\Vals xs its.toList
def LstAt(K:PySem.W.Frag)(H:Hp)(Z:Zone)(a:Addr)(xs:List V):Prop:=(H a=some (.lst xs)/\Z.S a)\/(Z.m=false/\RO K H a xs)
theorem LstAt.sq{K:PySem.W.Frag}{H:Hp}{Z:Zone}{a:Addr}{xs:List V}(h:LstAt K H Z a xs):SqL K H a xs:=by
 rcases h with⟨h,_⟩|⟨_,h|h⟩
 . exact .inl (.inl h)
 . exact .inl (.inr h)
 . exact .inr h
def KTup(K:PySem.W.Frag)(a:Addr)(ks:List Key):Prop:=∃(o:Obj) (its:Array Value) (n:Nat),K.lookup a=some o/\o.cls=.type "tuple"/\o.data=.seq its n/\its.size<=sizeLine/\Vals (ks.map kV) its.toList
mutual
def In(K:PySem.W.Frag)(H:Hp)(Z:Zone):D->V->Prop
 |.non,v=>v=.non
 |.bl b,v=>v=.bl b
 |.int i,v=>v=.int i
 |.str x,v=>v=.str x
 |.lst ds,v=>∃a xs,v=.ref a/\LstAt K H Z a xs/\Ins K H Z ds xs
 |.tup ds,v=>∃a xs,v=.ref a/\H a=some (.tup xs)/\Ins K H Z ds xs
 |.dct o,v=>∃a,v=.ref a/\H a=some o.ho/\Z.S a
 |.ktup ks,v=>∃a,v=.ref a/\KTup K a ks
 |.agg _ _,_=>False
def Ins(K:PySem.W.Frag)(H:Hp)(Z:Zone):List D->List V->Prop
 |[],xs=>xs=[]
 |d::ds,xs=>∃v vs,xs=v::vs/\In K H Z d v/\Ins K H Z ds vs
end
structure Carry(K:PySem.W.Frag)(H:Hp)(Z:Zone)(H':Hp)(Z':Zone):Prop where
 l:∀a (xs:MO),H a=some xs.ho->Z.S a->H' a=some xs.ho/\Z'.S a
 r:Z.m=false->Z'.m=false/\ ∀a xs,RO K H a xs->RO K H' a xs
 t:∀a (xs:List V),H a=some (.tup xs)->H' a=some (.tup xs)
section
variable{K:PySem.W.Frag}{H H' H2:Hp}{Z Z' Z2:Zone}
theorem LstAt.carry{a:Addr}{xs:List V}(c:Carry K H Z H' Z')(h:LstAt K H Z a xs):LstAt K H' Z' a xs:=by
 rcases h with⟨h,s⟩|⟨m,h⟩
 . exact .inl (c.l a (.l xs) h s)
 . exact .inr ⟨(c.r m).1,(c.r m).2 a xs h⟩
mutual
theorem In.carry(c:Carry K H Z H' Z'):∀{d:D} {v:V},In K H Z d v->In K H' Z' d v
 |.non,_,h=>by unfold In at h⊢;exact h
 |.bl _,_,h=>by unfold In at h⊢;exact h
 |.int _,_,h=>by unfold In at h⊢;exact h
 |.str _,_,h=>by unfold In at h⊢;exact h
 |.lst ds,v,h=>by
  unfold In at h⊢
  obtain⟨a,xs,e,l,i⟩:=h
  exact⟨a,xs,e,l.carry c,Ins.carry c i⟩
 |.tup ds,v,h=>by
  unfold In at h⊢
  obtain⟨a,xs,e,l,i⟩:=h
  exact⟨a,xs,e,c.t a xs l,Ins.carry c i⟩
 |.dct o,v,h=>by
  unfold In at h⊢
  obtain⟨a,e,l,i⟩:=h
  exact⟨a,e,c.l a (.d o) l i⟩
 |.ktup ks,v,h=>by unfold In at h⊢;exact h
 |.agg _ _,v,h=>by unfold In at h;exact h.elim
theorem Ins.carry(c:Carry K H Z H' Z'):∀{ds:List D} {vs:List V},Ins K H Z ds vs->Ins K H' Z' ds vs
 |[],_,h=>by unfold Ins at h⊢;exact h
 |d::ds,vs,h=>by
  unfold Ins at h⊢
  obtain⟨v,r,e,i,j⟩:=h
  exact⟨v,r,e,In.carry c i,Ins.carry c j⟩
end
theorem RO.same{a:Addr}{xs:List V}(s:Same H H')(h:RO K H a xs):RO K H' a xs:=by
 rcases h with⟨o,h⟩|h
 . exact .inl ⟨o,s.at h⟩
 . exact .inr h
theorem Carry.of(s:Same H H')(hS:∀a (xs:MO),H a=some xs.ho->Z.S a->Z'.S a)(hm:Z.m=false->Z'.m=false):Carry K H Z H' Z':=
 ⟨fun a xs h z=>⟨s.at h xs.nt,hS a xs h z⟩,fun m=>⟨hm m,fun a xs h=>h.same s⟩,fun a xs h=>s.at h⟩
theorem Carry.same(s:Same H H'):Carry K H Z H' Z:=.of s (fun _ _ _ z=>z) fun m=>m
theorem In.same{d:D}{v:V}(s:Same H H')(h:In K H Z d v):In K H' Z d v:=h.carry (.same s)
theorem Ins.same{ds:List D}{vs:List V}(s:Same H H')(h:Ins K H Z ds vs):Ins K H' Z ds vs:=h.carry (.same s)
theorem Carry.writeM{l:Addr}{xs:MO}{o:HO}(h:H l=some xs.ho)(n:¬Z.S l):Carry K H Z (upd H l o) Z:=by
 refine⟨fun a zs e z=>⟨?_,z⟩,fun m=>⟨m,fun a zs e=>?_⟩,fun a zs e=>?_⟩
 . have:a≠l:=by rintro rfl;exact n z
   rw[upd_ne this];exact e
 . rcases e with⟨o,e⟩|e
   . refine .inl ⟨o,?_⟩
     rw[upd_ne (ne_of e h (by intro q;exact xs.nfrz q.symm))];exact e
   . exact .inr e
 . rw[upd_ne (ne_of e h (by intro q;exact xs.ntup q.symm))];exact e
theorem Carry.write{l:Addr}{xs ys:List V}(h:H l=some (.lst xs))(n:¬Z.S l):Carry K H Z (upd H l (.lst ys)) Z:=Carry.writeM (xs:=.l xs) h n
mutual
def D.flat:D->Bool
 |.lst _=>false
 |.dct _=>false
 |.agg _ _=>false
 |.tup ds=>flats ds
 |_=>true
def flats:List D->Bool
 |[]=>true
 |d::ds=>D.flat d&&flats ds
end
mutual
theorem In.flat(s:∀a (xs:List V),H a=some (.tup xs)->H' a=some (.tup xs)):∀{d:D} {v:V},D.flat d=true->In K H Z d v->In K H' Z' d v
 |.non,_,_,h=>by unfold In at h⊢;exact h
 |.bl _,_,_,h=>by unfold In at h⊢;exact h
 |.int _,_,_,h=>by unfold In at h⊢;exact h
 |.str _,_,_,h=>by unfold In at h⊢;exact h
 |.lst ds,v,f,h=>by unfold D.flat at f;cases f
 |.dct o,v,f,h=>by unfold D.flat at f;cases f
 |.agg _ _,v,f,h=>by unfold D.flat at f;cases f
 |.ktup ks,v,f,h=>by unfold In at h⊢;exact h
 |.tup ds,v,f,h=>by
  unfold D.flat at f
  unfold In at h⊢
  obtain⟨a,xs,e,l,i⟩:=h
  exact⟨a,xs,e,s a xs l,Ins.flat s f i⟩
theorem Ins.flat(s:∀a (xs:List V),H a=some (.tup xs)->H' a=some (.tup xs)):∀{ds:List D} {vs:List V},flats ds=true->Ins K H Z ds vs->Ins K H' Z' ds vs
 |[],_,_,h=>by unfold Ins at h⊢;exact h
 |d::ds,vs,f,h=>by
  unfold flats at f
  rw[Bool.and_eq_true]at f
  unfold Ins at h⊢
  obtain⟨v,r,e,i,j⟩:=h
  exact⟨v,r,e,In.flat s f.1 i,Ins.flat s f.2 j⟩
end
theorem In.flat'{d:D}{v:V}(f:d.flat=true)(h:In K H Z d v):In K H Z' d v:=In.flat (fun _ _ e=>e) f h
theorem Ins.flat'{ds:List D}{vs:List V}(f:flats ds=true)(h:Ins K H Z ds vs):Ins K H Z' ds vs:=Ins.flat (fun _ _ e=>e) f h
theorem in_non{v:V}:In K H Z .non v↔v=.non:=by unfold In;exact Iff.rfl
theorem in_bl{b:Bool}{v:V}:In K H Z (.bl b) v↔v=.bl b:=by unfold In;exact Iff.rfl
theorem in_int{i:Int}{v:V}:In K H Z (.int i) v↔v=.int i:=by unfold In;exact Iff.rfl
theorem in_str{x:Str}{v:V}:In K H Z (.str x) v↔v=.str x:=by unfold In;exact Iff.rfl
theorem in_lst{ds:List D}{v:V}:In K H Z (.lst ds) v↔ ∃a xs,v=.ref a/\LstAt K H Z a xs/\Ins K H Z ds xs:=by unfold In;exact Iff.rfl
theorem in_tup{ds:List D}{v:V}:In K H Z (.tup ds) v↔ ∃a xs,v=.ref a/\H a=some (.tup xs)/\Ins K H Z ds xs:=by unfold In;exact Iff.rfl
theorem in_tupS{ds:List D}{v:V}(h:In K H Z (.tup ds) v):∃a xs,v=.ref a/\SqT K H a xs/\Ins K H Z ds xs:=
 let⟨a,xs,e,l,i⟩:=in_tup.mp h
 ⟨a,xs,e,.inl (.inl l),i⟩
theorem in_ktup{ks:List Key}{v:V}:In K H Z (.ktup ks) v↔ ∃a,v=.ref a/\KTup K a ks:=by unfold In;exact Iff.rfl
theorem in_agg{s:Sh}{ds:List D}{v:V}:¬In K H Z (.agg s ds) v:=fun h=>by unfold In at h;exact h
theorem KTup.sq{a:Addr}{ks:List Key}(h:KTup K a ks):SqT K H a (ks.map kV):=by
 obtain⟨o,its,n,h1,h2,h3,h4,h5⟩:=h
 exact .inr ⟨o,its,n,h1,h2,h3,h4,h5⟩
theorem in_dct{o:DO}{v:V}:In K H Z (.dct o) v↔ ∃a,v=.ref a/\H a=some o.ho/\Z.S a:=by unfold In;exact Iff.rfl
theorem ins_nil{vs:List V}:Ins K H Z [] vs↔vs=[]:=by unfold Ins;exact Iff.rfl
theorem ins_cons{d:D}{ds:List D}{vs:List V}:Ins K H Z (d::ds) vs↔ ∃v r,vs=v::r/\In K H Z d v/\Ins K H Z ds r:=by
 constructor
 . intro h;unfold Ins at h;exact h
 . intro h;unfold Ins;exact h
theorem Ins.length:∀{ds:List D} {vs:List V},Ins K H Z ds vs->ds.length=vs.length
 |[],_,h=>by rw[ins_nil.mp h];rfl
 |d::ds,_,h=>by
  obtain⟨v,r,rfl,_,j⟩:=ins_cons.mp h
  rw[length_cons,length_cons,Ins.length j]
theorem Ins.get:∀{ds:List D} {vs:List V} {i:Nat} {d:D},Ins K H Z ds vs->ds[i]? =some d->∃v,vs[i]? =some v/\In K H Z d v
 |[],_,_,_,_,e=>by simp at e
 |d::ds,_,0,_,h,e=>by
  obtain⟨v,r,rfl,a,_⟩:=ins_cons.mp h
  simp at e;subst e
  exact⟨v,rfl,a⟩
 |d::ds,_,i+1,d',h,e=>by
  obtain⟨v,r,rfl,_,j⟩:=ins_cons.mp h
  obtain⟨w,h1,h2⟩:=Ins.get (i:=i) (d:=d') j (by simpa using e)
  exact⟨w,by simpa using h1,h2⟩
theorem Ins.append:∀{ds es:List D} {vs ws:List V},Ins K H Z ds vs->Ins K H Z es ws->Ins K H Z (ds++es) (vs++ws)
 |[],_,_,_,h,k=>by rw[ins_nil.mp h];exact k
 |d::ds,_,_,_,h,k=>by
  obtain⟨v,r,rfl,a,j⟩:=ins_cons.mp h
  exact ins_cons.mpr ⟨v,r++_,rfl,a,Ins.append j k⟩
theorem Ins.one{d:D}{v:V}(h:In K H Z d v):Ins K H Z [d] [v]:=ins_cons.mpr ⟨v,[],rfl,h,ins_nil.mpr rfl⟩
theorem Ins.drop:∀{ds:List D} {vs:List V} (n:Nat),Ins K H Z ds vs->Ins K H Z (ds.drop n) (vs.drop n)
 |_,_,0,h=>h
 |[],_,_+1,h=>by rw[ins_nil.mp h];exact ins_nil.mpr (by simp)
 |_::_,_,n+1,h=>by
  obtain⟨v,r,rfl,_,j⟩:=ins_cons.mp h
  exact Ins.drop n j
theorem Ins.take:∀{ds:List D} {vs:List V} (n:Nat),Ins K H Z ds vs->Ins K H Z (ds.take n) (vs.take n)
 |_,_,0,h=>by rw[List.take_zero,List.take_zero];exact ins_nil.mpr rfl
 |[],_,_+1,h=>by rw[ins_nil.mp h];exact ins_nil.mpr (by simp)
 |_::_,_,n+1,h=>by
  obtain⟨v,r,rfl,a,j⟩:=ins_cons.mp h
  exact ins_cons.mpr ⟨v,r.take n,rfl,a,Ins.take n j⟩
theorem Ins.of_get:∀{ds:List D} {vs:List V},ds.length=vs.length->(∀(i:Nat) d v,ds[i]? =some d->vs[i]? =some v->In K H Z d v)->Ins K H Z ds vs
 |[],[],_,_=>ins_nil.mpr rfl
 |d::ds,v::vs,e,h=>ins_cons.mpr ⟨v,vs,rfl,h 0 d v rfl rfl,Ins.of_get (by simpa using e) fun i d' v' a b=>h (i+1) d' v' (by simpa using a) (by simpa using b)⟩
 |[],_::_,e,_=>by simp at e
 |_::_,[],e,_=>by simp at e
theorem ins_ints:∀(ns:List Int),Ins K H Z (ns.map D.int) (ns.map V.int)
 |[]=>ins_nil.mpr rfl
 |n::ns=>ins_cons.mpr ⟨_,_,rfl,in_int.mpr rfl,ins_ints ns⟩
theorem ins_strs:∀(ns:List Str),Ins K H Z (ns.map D.str) (ns.map V.str)
 |[]=>ins_nil.mpr rfl
 |n::ns=>ins_cons.mpr ⟨_,_,rfl,in_str.mpr rfl,ins_strs ns⟩
theorem ins_strs_inv:∀{ns:List Str} {vs:List V},Ins K H Z (ns.map D.str) vs->vs=ns.map V.str
 |[],_,h=>ins_nil.mp h
 |n::ns,_,h=>by
  obtain⟨v,r,rfl,a,j⟩:=ins_cons.mp h
  rw[in_str.mp a,ins_strs_inv j];rfl
theorem in_kV(k:Key):In K H Z (kD k) (kV k):=by
 cases k with
 |inl i=>exact in_int.mpr rfl
 |inr x=>exact in_str.mpr rfl
theorem ins_kV:∀(ks:List Key),Ins K H Z (ks.map kD) (ks.map kV)
 |[]=>ins_nil.mpr rfl
 |k::ks=>ins_cons.mpr ⟨_,_,rfl,in_kV k,ins_kV ks⟩
theorem flats_ints:∀(ns:List Int),flats (ns.map D.int)=true
 |[]=>by simp[flats]
 |n::ns=>by simp[flats,D.flat,flats_ints ns]
theorem flats_strs:∀(ns:List Str),flats (ns.map D.str)=true
 |[]=>by simp[flats]
 |n::ns=>by simp[flats,D.flat,flats_strs ns]
theorem flats_all:∀{ds:List D},(∀d∈ds,d.flat=true)->flats ds=true
 |[],_=>by simp[flats]
 |d::ds,h=>by
  have h1:=h d mem_cons_self
  have h2:flats ds=true:=flats_all fun e he=>h e (mem_cons_of_mem _ he)
  simp[flats,h1,h2]
theorem flats_mem:∀{ds:List D},flats ds=true->∀d∈ds,d.flat=true
 |[],_,d,hd=>by simp at hd
 |e::ds,h,d,hd=>by
  simp[flats]at h
  rcases mem_cons.mp hd with rfl|hd
  . exact h.1
  . exact flats_mem h.2 d hd
end
structure Zone.Open(Z:Zone)(H:Hp):Prop where
 op:∀a,H a=none->Z.S a
 tb:TabsOk H
instance{Z:Zone}{H:Hp}:CoeFun (Z.Open H) (fun _=>∀a,H a=none->Z.S a):=⟨fun o=>o.op⟩
def nw(H:Hp):Zone:=⟨true,fun a=>H a=none⟩
theorem nwF{H:Hp}{C:Prop}(h:(nw H).m=false):C:=Bool.noConfusion (show true=false from h)
def out(m:Bool)(Z:Zone)(H:Hp):Zone:=if m then nw H else Z
def anyZ:Zone:=⟨false,fun _=>True⟩
section
variable{K:PySem.W.Frag}{H H1 H':Hp}{Z:Zone}{m:Bool}
theorem Zone.Open.same(o:Z.Open H)(s:Same H H'):Z.Open H':=⟨fun a h=>o.op a (s.free h),s.tabs o.tb⟩
theorem anyZ_open(t:TabsOk H):anyZ.Open H:=⟨fun _ _=>trivial,t⟩
theorem nw_open(t:TabsOk H)(s:Same H H'):(nw H).Open H':=⟨fun a h=>s.free h,s.tabs t⟩
theorem In.up{d:D}{v:V}(o:Z.Open H)(h:In K H' (nw H) d v):In K H' Z d v:=h.carry ⟨fun a xs e z=>⟨e,o a z⟩,fun m=>nwF m,fun _ _ e=>e⟩
theorem Ins.up{ds:List D}{vs:List V}(o:Z.Open H)(h:Ins K H' (nw H) ds vs):Ins K H' Z ds vs:=h.carry ⟨fun a xs e z=>⟨e,o a z⟩,fun m=>nwF m,fun _ _ e=>e⟩
theorem In.plain{d:D}{v:V}(o:Z.Open H)(h:In K H' (out m Z H) d v):In K H' Z d v:=by
 cases m
 . exact h
 . exact h.up o
theorem In.later{d:D}{v:V}(s:Same H H1)(h:In K H' (out m Z H1) d v):In K H' (out m Z H) d v:=by
 cases m
 . exact h
 . exact h.carry ⟨fun a xs e z=>⟨e,s.free z⟩,fun m=>nwF m,fun _ _ e=>e⟩
theorem In.outflat{d:D}{v:V}{Z':Zone}(f:d.flat=true)(h:In K H' Z' d v):In K H' (out m Z H) d v:=h.flat' f
end
def D.nag:D->Bool
 |.agg _ _=>false
 |_=>true
mutual
def InT(K:PySem.W.Frag)(H:Hp)(Z:Zone):D->V->Prop
 |.agg s ds,v=>∃a xs,v=.ref a/\s.at H a xs/\Z.S a/\InTs K H Z ds xs
 |.non,v=>In K H Z .non v
 |.bl b,v=>In K H Z (.bl b) v
 |.int i,v=>In K H Z (.int i) v
 |.str x,v=>In K H Z (.str x) v
 |.lst ds,v=>In K H Z (.lst ds) v
 |.tup ds,v=>In K H Z (.tup ds) v
 |.dct o,v=>In K H Z (.dct o) v
 |.ktup ks,v=>In K H Z (.ktup ks) v
def InTs(K:PySem.W.Frag)(H:Hp)(Z:Zone):List D->List V->Prop
 |[],xs=>xs=[]
 |d::ds,xs=>∃v vs,xs=v::vs/\InT K H Z d v/\InTs K H Z ds vs
end
section
variable{K:PySem.W.Frag}{H H':Hp}{Z Z':Zone}
theorem InT.inn{d:D}{v:V}(h:InT K H Z d v)(n:d.nag=true):In K H Z d v:=by
 cases d<;>first|(unfold InT at h;exact h)|exact Bool.noConfusion (show false=true from n)
theorem In.top{d:D}{v:V}(h:In K H Z d v):InT K H Z d v:=by
 cases d<;>first|exact absurd h in_agg|(unfold InT;exact h)
theorem inT_agg{s:Sh}{ds:List D}{v:V}:InT K H Z (.agg s ds) v↔ ∃a xs,v=.ref a/\s.at H a xs/\Z.S a/\InTs K H Z ds xs:=by
 constructor
 . intro h;unfold InT at h;exact h
 . intro h;unfold InT;exact h
theorem inTs_nil{vs:List V}:InTs K H Z [] vs↔vs=[]:=by unfold InTs;exact Iff.rfl
theorem inTs_cons{d:D}{ds:List D}{vs:List V}:InTs K H Z (d::ds) vs↔ ∃v r,vs=v::r/\InT K H Z d v/\InTs K H Z ds r:=by
 constructor
 . intro h;unfold InTs at h;exact h
 . intro h;unfold InTs;exact h
mutual
theorem InT.carry(c:Carry K H Z H' Z'):∀{d:D} {v:V},InT K H Z d v->InT K H' Z' d v
 |.non,_,h=>(In.carry c (h.inn rfl)).top
 |.bl _,_,h=>(In.carry c (h.inn rfl)).top
 |.int _,_,h=>(In.carry c (h.inn rfl)).top
 |.str _,_,h=>(In.carry c (h.inn rfl)).top
 |.lst _,_,h=>(In.carry c (h.inn rfl)).top
 |.tup _,_,h=>(In.carry c (h.inn rfl)).top
 |.dct _,_,h=>(In.carry c (h.inn rfl)).top
 |.ktup _,_,h=>(In.carry c (h.inn rfl)).top
 |.agg s ds,v,h=>by
  obtain⟨a,xs,e,l,z,i⟩:=inT_agg.mp h
  obtain⟨m,e1,e2⟩:=Sh.mo l
  obtain⟨e3,z'⟩:=c.l a m e1 z
  exact inT_agg.mpr ⟨a,xs,e,e2 H' e3,z',InTs.carry c i⟩
theorem InTs.carry(c:Carry K H Z H' Z'):∀{ds:List D} {vs:List V},InTs K H Z ds vs->InTs K H' Z' ds vs
 |[],_,h=>inTs_nil.mpr (inTs_nil.mp h)
 |d::ds,vs,h=>by
  obtain⟨v,r,e,i,j⟩:=inTs_cons.mp h
  exact inTs_cons.mpr ⟨v,r,e,InT.carry c i,InTs.carry c j⟩
end
theorem InT.same{d:D}{v:V}(s:Same H H')(h:InT K H Z d v):InT K H' Z d v:=h.carry (.same s)
end
def EnvIn(K:PySem.W.Frag)(H:Hp)(Z:Zone)(σ:St)(ρ:List (Option D)):Prop:=∀(i:Nat) d,ρ[i]? =some (some d)->∃v,σ[i]? =some (some v)/\InT K H Z d v
theorem EnvIn.same{K:PySem.W.Frag}{H H':Hp}{Z:Zone}{σ:St}{ρ:List (Option D)}(s:Same H H')(h:EnvIn K H Z σ ρ):EnvIn K H' Z σ ρ:=fun i d e=>
 let⟨v,a,b⟩:=h i d e;⟨v,a,b.same s⟩
def tE(K:PySem.W.Frag)(m:Bool)(ρ:List (Option D))(d:D):TE:=fun σ H Q=>∃Z:Zone,Z.Open H/\EnvIn K H Z σ ρ/\ ∀v H',Same H H'->In K H' (out m Z H) d v->Q v H'
def tB'(K:PySem.W.Frag)(ρ:List (Option D))(b:Bool):TT:=fun σ H Q=>∃Z:Zone,Z.Open H/\EnvIn K H Z σ ρ/\ ∀H',Same H H'->Q b H'
def tEA(K:PySem.W.Frag)(ρ:List (Option D))(ds:List D):TA:=fun σ H Q=>∃Z:Zone,Z.Open H/\EnvIn K H Z σ ρ/\ ∀vs H',Same H H'->Ins K H' Z ds vs->Q vs H'
def E(X:Cx)(m:Bool)(ρ:List (Option D))(e:Expr)(d:D):Prop:=PE X e (tE X.K m ρ d)
def T(X:Cx)(ρ:List (Option D))(e:Expr)(b:Bool):Prop:=PT X e (tB' X.K ρ b)
def TW(X:Cx)(ρ:List (Option D))(e:Expr)(b:Bool):Prop:=PW X e (tB' X.K ρ b)
def EA(X:Cx)(ρ:List (Option D))(es:List Expr)(ds:List D):Prop:=PA X es (tEA X.K ρ ds)
theorem PE.mono{X:Cx}{e:Expr}{t t':TE}(h:PE X e t)(k:∀σ H Q,t' σ H Q->t σ H Q):PE X e t':=fun pins s σ H Q I q=>h pins s σ H Q I (k σ H Q q)
theorem PT.mono{X:Cx}{e:Expr}{t t':TT}(h:PT X e t)(k:∀σ H Q,t' σ H Q->t σ H Q):PT X e t':=fun pins s σ H Q I q=>h pins s σ H Q I (k σ H Q q)
theorem PW.mono{X:Cx}{e:Expr}{t t':TT}(h:PW X e t)(k:∀σ H Q,t' σ H Q->t σ H Q):PW X e t':=fun wh pins s σ H Q I q=>h wh pins s σ H Q I (k σ H Q q)
theorem PA.mono{X:Cx}{es:List Expr}{t t':TA}(h:PA X es t)(k:∀σ H Q,t' σ H Q->t σ H Q):PA X es t':=fun pos pins s σ H Q I q=>h pos pins s σ H Q I (k σ H Q q)
section
variable{X:Cx}{ρ:List (Option D)}{m m1 m2 m3:Bool}{a b c e:Expr}{es:List Expr}{d d1 d2 d3:D}{pos:Pos}
theorem E.mode(h:E X true ρ e d):E X m ρ e d:=by
 cases m
 . refine PE.mono h fun σ H Q z0=>el13 z0 fun Z oz en k=>⟨Z,oz,en,fun v H' s i=>k v H' s (i.up oz)⟩
 . exact h
theorem E.flat(h:E X m1 ρ e d)(f:d.flat=true):E X m ρ e d:=
 PE.mono h fun σ H Q z0=>el13 z0 fun Z oz en k=>⟨Z,oz,en,fun v H' s i=>k v H' s (i.flat' f)⟩
theorem E.cast{d':D}(h:E X m ρ e d)(q:d=d'):E X m ρ e d':=q▸h
theorem e_var(i:Nat){x:Str}{d:D}(hr:ρ[i]? =some (some d):=by rfl)(hN:X.N[i]? =some x:=by rfl)
 (hv:Vis X.env.scope x:=by first|exact Or.inl rfl|exact Or.inr (Or.inl rfl)|exact Or.inr (Or.inr rfl))(hd:(x==("__debug__":Str))=false:=by decide)
 (hcd:(x==("__classdict__":Str))=false:=by decide)(hn:d.nag=true:=by rfl):E X false ρ (.Name x pos) d:=
 PE.mono (pe_var hN hv hd hcd) fun σ H Q z0=>el13 z0 fun Z oz en k=>by
  obtain⟨v,e,i⟩:=en i d hr
  exact⟨v,e,k v H (Same.refl H) (i.inn hn)⟩
theorem e_int{i:Int}{j:Nat}:E X true ρ (.Constant (.int i) j pos) (.int i):=PE.mono pe_int fun σ H Q z0=>el13 z0 fun Z oz en k=>k _ _ (Same.refl H) (in_int.mpr rfl)
theorem e_bl{b:Bool}{j:Nat}:E X true ρ (.Constant (.bool b) j pos) (.bl b):=PE.mono pe_bl fun σ H Q z0=>el13 z0 fun Z oz en k=>k _ _ (Same.refl H) (in_bl.mpr rfl)
theorem e_str{x:Str}{j:Nat}:E X true ρ (.Constant (.str x) j pos) (.str x):=PE.mono pe_str fun σ H Q z0=>el13 z0 fun Z oz en k=>k _ _ (Same.refl H) (in_str.mpr rfl)
theorem e_gstr{x y:Str}{t:Tok}(hm:X.mg x=some (.str y t))(hg:Gl X x:=by rfl)(hd:(x==("__debug__":Str))=false:=by decide):E X true ρ (.Name x pos) (.str y):=
 PE.mono (pe_glob (v:=.str y) hg hm ⟨t,rfl⟩ hd) fun σ H Q z0=>el13 z0 fun Z oz en k=>k _ _ (Same.refl H) (in_str.mpr rfl)
theorem ea_nil:EA X ρ [] []:=PA.mono pa_nil fun σ H Q z0=>el13 z0 fun Z oz en k=>k [] H (Same.refl H) (ins_nil.mpr rfl)
theorem ea_cons{ds:List D}(ha:E X m1 ρ e d)(hr:EA X ρ es ds)(hs:starEach (e::es) X.env=(false,eval e X.env)::starEach es X.env:=by rfl):EA X ρ (e::es) (d::ds):=
 PA.mono (pa_cons ha hr hs) fun σ H Q z0=>el13 z0 fun Z oz en k=>⟨Z,oz,en,fun v H1 s1 i1=>⟨Z,oz.same s1,en.same s1,fun vs H2 s2 i2=>k (v::vs) H2 (s1.trans s2) (ins_cons.mpr ⟨v,vs,rfl,(i1.plain oz).same s2,i2⟩)⟩⟩
theorem ea_one(ha:E X m1 ρ e d)(hs:starEach (e::[]) X.env=(false,eval e X.env)::starEach [] X.env:=by rfl):EA X ρ [e] [d]:=ea_cons ha ea_nil hs
def EAF(X:Cx)(ρ:List (Option D))(es:List Expr)(ds:List D):Prop:=PA X es (fun σ H Q=>∃Z:Zone,Z.Open H/\EnvIn X.K H Z σ ρ/\ ∀vs H',Same H H'->Ins X.K H' (nw H) ds vs->Q vs H')
theorem eaf_nil:EAF X ρ [] []:=PA.mono pa_nil fun σ H Q z0=>el13 z0 fun Z oz en k=>k [] H (Same.refl H) (ins_nil.mpr rfl)
theorem Ins.later{K:PySem.W.Frag}{H H1 H':Hp}{ds:List D}{vs:List V}(s:Same H H1)(h:Ins K H' (nw H1) ds vs):Ins K H' (nw H) ds vs:=
 h.carry ⟨fun a xs e z=>⟨e,s.free z⟩,fun m=>nwF m,fun _ _ e=>e⟩
theorem eaf_cons{ds:List D}(ha:E X true ρ e d)(hr:EAF X ρ es ds)(hs:starEach (e::es) X.env=(false,eval e X.env)::starEach es X.env:=by rfl):EAF X ρ (e::es) (d::ds):=
 PA.mono (pa_cons ha hr hs) fun σ H Q z0=>el13 z0 fun Z oz en k=>⟨Z,oz,en,fun v H1 s1 i1=>⟨Z,oz.same s1,en.same s1,fun vs H2 s2 i2=>k (v::vs) H2 (s1.trans s2) (ins_cons.mpr ⟨v,vs,rfl,In.same s2 i1,i2.later s1⟩)⟩⟩
theorem same_new{H:Hp}{p:Addr}{o:HO}(h:H p=none):Same H (upd H p o):=⟨fun b u e _=>by rw[upd_ne (ne_of_none e h)];exact e,fun b ps e=>⟨ps,by rw[upd_ne (ne_of_none e h)];exact e⟩,fun t=>t.upd (.inl h)⟩
theorem e_tup{ds:List D}{x1}(h:EA X ρ es ds)(hz:ds.length<=1000:=by exact of_decide_eq_true rfl):E X false ρ (.Tuple es x1 pos) (.tup ds):=
 PE.mono (pe_tup h) fun σ H Q z0=>el13 z0 fun Z oz en k=>⟨Z,oz,en,fun vs H1 s1 i1=>⟨by rw[<-i1.length];exact Nat.le_trans hz (Nat.le_of_lt (small1000 (Nat.le_refl _))),fun p hp=>
  k (.ref p) _ (s1.trans (same_new hp)) (in_tup.mpr ⟨p,vs,rfl,upd_same,i1.same (same_new hp)⟩)⟩⟩
theorem e_lst{ds:List D}(h:EA X ρ es ds)(hz:ds.length<=1000:=by exact of_decide_eq_true rfl):E X false ρ (.List es pos) (.lst ds):=
 PE.mono (pe_lst h) fun σ H Q z0=>el13 z0 fun Z oz en k=>⟨Z,oz,en,fun vs H1 s1 i1=>⟨by rw[<-i1.length];exact Nat.le_trans hz (Nat.le_of_lt (small1000 (Nat.le_refl _))),fun p hp=>
  k (.ref p) _ (s1.trans (same_new hp)) (in_lst.mpr ⟨p,vs,rfl,.inl ⟨upd_same,oz p (s1.free hp)⟩,i1.same (same_new hp)⟩)⟩⟩
theorem e_lstF{ds:List D}(h:EAF X ρ es ds)(hz:ds.length<=1000:=by exact of_decide_eq_true rfl):E X true ρ (.List es pos) (.lst ds):=
 PE.mono (pe_lst h) fun σ H Q z0=>el13 z0 fun Z oz en k=>⟨Z,oz,en,fun vs H1 s1 i1=>⟨by rw[<-i1.length];exact Nat.le_trans hz (Nat.le_of_lt (small1000 (Nat.le_refl _))),fun p hp=>
  k (.ref p) _ (s1.trans (same_new hp)) (in_lst.mpr ⟨p,vs,rfl,.inl ⟨upd_same,s1.free hp⟩,i1.same (same_new hp)⟩)⟩⟩
theorem e_lstN{ds:List D}(h:EA X ρ es ds)(f:flats ds=true:=by rfl)(hz:ds.length<=1000:=by exact of_decide_eq_true rfl):E X true ρ (.List es pos) (.lst ds):=by
 refine E.mode (PE.mono (pe_lst h) fun σ H Q z0=>el13 z0 fun Z oz en k=>⟨Z,oz,en,fun vs H1 s1 i1=>⟨by rw[<-i1.length];exact Nat.le_trans hz (Nat.le_of_lt (small1000 (Nat.le_refl _))),fun p hp=>
  k (.ref p) _ (s1.trans (same_new hp)) (in_lst.mpr ⟨p,vs,rfl,.inl ⟨upd_same,s1.free hp⟩,(i1.same (same_new hp)).flat' f⟩)⟩⟩)
theorem two{ta tb:TE}{σ:St}{H:Hp}{Z:Zone}{R:V->V->Hp->Prop}(oz:Z.Open H)(en:EnvIn X.K H Z σ ρ)
 (h:∀x y H',Same H H'->In X.K H' Z d1 x->In X.K H' Z d2 y->R x y H'):tE X.K m1 ρ d1 σ H fun x H1=>tE X.K m2 ρ d2 σ H1 fun y H2=>R x y H2:=
 ⟨Z,oz,en,fun x H1 s1 i1=>⟨Z,oz.same s1,en.same s1,fun y H2 s2 i2=>h x y H2 (s1.trans s2) ((i1.plain oz).same s2) (i2.plain (oz.same s1))⟩⟩
theorem e_op{op:Operator}{r:R2}(ho:OpR X (binaryOp op) r)(ha:E X m1 ρ a d1)(hb:E X m2 ρ b d2)
 (h:∀x y H Z Q,Z.Open H->In X.K H Z d1 x->In X.K H Z d2 y->(∀v H',Same H H'->In X.K H' (out m Z H) d v->Q v H')->r x y H Q):E X m ρ (.BinOp a op b pos) d:=
 PE.mono (pe_op ho ha hb) fun σ H Q z0=>el13 z0 fun Z oz en k=>two (ta:=tE X.K m1 ρ d1) (tb:=tE X.K m2 ρ d2) oz en fun x y H2 s i1 i2=>h x y H2 Z _ (oz.same s) i1 i2 fun v H' s' i=>k v H' (s.trans s') (i.later s)
theorem e_cmp{op:CmpOp}{r:R2}(ho:OpR X (compareOp op) r)(ha:E X m1 ρ a d1)(hb:E X m2 ρ b d2)
 (h:∀x y H Z Q,Z.Open H->In X.K H Z d1 x->In X.K H Z d2 y->(∀v H',Same H H'->In X.K H' (out m Z H) d v->Q v H')->r x y H Q)(hm:behindInMarks op b=false):E X m ρ (.Compare a [op] [b] pos) d:=
 PE.mono (pe_cmpR ho ha hb hm) fun σ H Q z0=>el13 z0 fun Z oz en k=>two (ta:=tE X.K m1 ρ d1) (tb:=tE X.K m2 ρ d2) oz en fun x y H2 s i1 i2=>h x y H2 Z _ (oz.same s) i1 i2 fun v H' s' i=>k v H' (s.trans s') (i.later s)
theorem t_cmp{op:CmpOp}{r:R2}{p:Bool}(ho:OpR X (compareOp op) r)(ha:E X m1 ρ a d1)(hb:E X m2 ρ b d2)
 (h:∀x y H Z Q,Z.Open H->In X.K H Z d1 x->In X.K H Z d2 y->(∀H',Same H H'->Q (.bl p) H')->r x y H Q)(hm:behindInMarks op b=false):T X ρ (.Compare a [op] [b] pos) p:=
 PT.mono (pt_cmpR ho ha hb hm) fun σ H Q z0=>el13 z0 fun Z oz en k=>two (ta:=tE X.K m1 ρ d1) (tb:=tE X.K m2 ρ d2) oz en fun x y H2 s i1 i2=>h x y H2 Z _ (oz.same s) i1 i2 fun H' s'=>⟨p,rfl,k H' (s.trans s')⟩
theorem e_add{i j:Int}(ha:E X m1 ρ a (.int i))(hb:E X m2 ρ b (.int j)):E X true ρ (.BinOp a .Add b pos) (.int (i+j)):=
 e_op op_add ha hb fun x y H Z Q _ i1 i2 k=>⟨_,_,in_int.mp i1,in_int.mp i2,k _ _ (Same.refl H) (in_int.mpr rfl)⟩
theorem e_sub{i j:Int}(ha:E X m1 ρ a (.int i))(hb:E X m2 ρ b (.int j)):E X true ρ (.BinOp a .Sub b pos) (.int (i-j)):=
 e_op op_sub ha hb fun x y H Z Q _ i1 i2 k=>⟨_,_,in_int.mp i1,in_int.mp i2,k _ _ (Same.refl H) (in_int.mpr rfl)⟩
theorem e_mul{i j:Int}(ha:E X m1 ρ a (.int i))(hb:E X m2 ρ b (.int j))(hc:CMul i j):E X true ρ (.BinOp a .Mult b pos) (.int (i*j)):=
 e_op op_mul ha hb fun x y H Z Q _ i1 i2 k=>⟨_,_,in_int.mp i1,in_int.mp i2,hc,k _ _ (Same.refl H) (in_int.mpr rfl)⟩
theorem e_mod{i j:Int}(ha:E X m1 ρ a (.int i))(hb:E X m2 ρ b (.int j))(hc:0<j):E X true ρ (.BinOp a .Mod b pos) (.int (i%j)):=
 e_op op_mod ha hb fun x y H Z Q _ i1 i2 k=>⟨_,_,in_int.mp i1,in_int.mp i2,hc,k _ _ (Same.refl H) (in_int.mpr rfl)⟩
theorem e_fdiv{i j:Int}(ha:E X m1 ρ a (.int i))(hb:E X m2 ρ b (.int j))(hc:CDiv i j):E X true ρ (.BinOp a .FloorDiv b pos) (.int (i/j)):=
 e_op op_fdiv ha hb fun x y H Z Q _ i1 i2 k=>⟨_,_,in_int.mp i1,in_int.mp i2,hc,k _ _ (Same.refl H) (in_int.mpr rfl)⟩
theorem e_neg{i:Int}(ha:E X m1 ρ a (.int i)):E X true ρ (.UnaryOp .USub a pos) (.int (-i)):=
 PE.mono (pe_un un_neg ha) fun σ H Q z0=>el13 z0 fun Z oz en k=>⟨Z,oz,en,fun x H1 s1 i1=>⟨i,in_int.mp (i1.plain oz),k _ _ s1 (in_int.mpr rfl)⟩⟩
theorem e_addS{x y:Str}(ha:E X m1 ρ a (.str x))(hb:E X m2 ρ b (.str y))(hz:x.length+y.length<=sizeLine):E X true ρ (.BinOp a .Add b pos) (.str (x++y)):=
 e_op op_add_str ha hb fun x y H Z Q _ i1 i2 k=>⟨_,_,in_str.mp i1,in_str.mp i2,hz,k _ _ (Same.refl H) (in_str.mpr rfl)⟩
theorem t_ltI{i j:Int}(ha:E X m1 ρ a (.int i))(hb:E X m2 ρ b (.int j)):T X ρ (.Compare a [.Lt] [b] pos) (decide (i<j)):=
 t_cmp op_lt ha hb (fun x y H Z Q _ i1 i2 k=>⟨_,_,in_int.mp i1,in_int.mp i2,k _ (Same.refl H)⟩) (nomark _)
theorem t_gtI{i j:Int}(ha:E X m1 ρ a (.int i))(hb:E X m2 ρ b (.int j)):T X ρ (.Compare a [.Gt] [b] pos) (decide (j<i)):=
 t_cmp op_gt ha hb (fun x y H Z Q _ i1 i2 k=>⟨_,_,in_int.mp i1,in_int.mp i2,k _ (Same.refl H)⟩) (nomark _)
theorem t_eqI{i j:Int}(ha:E X m1 ρ a (.int i))(hb:E X m2 ρ b (.int j)):T X ρ (.Compare a [.Eq] [b] pos) (decide (i=j)):=
 t_cmp op_eq ha hb (fun x y H Z Q _ i1 i2 k=>by rw[in_int.mp i1,in_int.mp i2];exact⟨rfl,by simpa using k _ (Same.refl H)⟩) (nomark _)
theorem e_eqS{i j:Str}(ha:E X m1 ρ a (.str i))(hb:E X m2 ρ b (.str j)):E X true ρ (.Compare a [.Eq] [b] pos) (.bl (decide (i=j))):=
 e_cmp op_eq ha hb (fun x y H Z Q _ i1 i2 k=>by rw[in_str.mp i1,in_str.mp i2];exact⟨rfl,k _ _ (Same.refl H) (in_bl.mpr (by simp))⟩) (nomark _)
theorem t_eqS{i j:Str}(ha:E X m1 ρ a (.str i))(hb:E X m2 ρ b (.str j)):T X ρ (.Compare a [.Eq] [b] pos) (decide (i=j)):=
 t_cmp op_eq ha hb (fun x y H Z Q _ i1 i2 k=>by rw[in_str.mp i1,in_str.mp i2];exact⟨rfl,by simpa using k _ (Same.refl H)⟩) (nomark _)
theorem e_neS{i j:Str}(ha:E X m1 ρ a (.str i))(hb:E X m2 ρ b (.str j)):E X true ρ (.Compare a [.NotEq] [b] pos) (.bl (!decide (i=j))):=
 e_cmp op_ne ha hb (fun x y H Z Q _ i1 i2 k=>by rw[in_str.mp i1,in_str.mp i2];exact⟨rfl,k _ _ (Same.refl H) (in_bl.mpr (by simp))⟩) (nomark _)
theorem t_inS{i j:Str}(ha:E X m1 ρ a (.str i))(hb:E X m2 ρ b (.str j))(hm:behindInMarks .In b=false:=by rfl):T X ρ (.Compare a [.In] [b] pos) (!(Builtin.Str.occurrences j i 0 j.length 1).isEmpty):=
 t_cmp op_in_str ha hb (fun x y H Z Q _ i1 i2 k=>⟨_,_,in_str.mp i1,in_str.mp i2,k _ (Same.refl H)⟩) hm
theorem tw_and1{p:Bool}(ha:T X ρ a p):TW X ρ (.BoolOp .And [a] pos) p:=pw_and1 ha
theorem tw_or1{p:Bool}(ha:T X ρ a p):TW X ρ (.BoolOp .Or [a] pos) p:=pw_or1 ha
theorem tw_and{p q:Bool}{r:List Expr}(ha:T X ρ a p)(hb:p=true->TW X ρ (.BoolOp .And (b::r) pos) q):TW X ρ (.BoolOp .And (a::b::r) pos) (p&&q):=by
 cases p with
 |true=>
  exact PW.mono (pw_and ha (hb rfl)) fun σ H Q z0=>el13 z0 fun Z oz en k=>⟨Z,oz,en,fun H1 s1=>by
   refine iteT ?_;exact⟨Z,oz.same s1,en.same s1,fun H2 s2=>k H2 (s1.trans s2)⟩⟩
 |false=>
  exact PW.mono (pw_and (tB':=fun _ _ _=>False) ha (fun wh pins s σ H Q I h=>h.elim)) fun σ H Q z0=>el13 z0 fun Z oz en k=>⟨Z,oz,en,fun H1 s1=>by
   refine iteF ?_;exact k H1 s1⟩
theorem tw_or{p q:Bool}{r:List Expr}(ha:T X ρ a p)(hb:p=false->TW X ρ (.BoolOp .Or (b::r) pos) q):TW X ρ (.BoolOp .Or (a::b::r) pos) (p||q):=by
 cases p with
 |false=>
  exact PW.mono (pw_or ha (hb rfl)) fun σ H Q z0=>el13 z0 fun Z oz en k=>⟨Z,oz,en,fun H1 s1=>by
   refine iteF ?_;exact⟨Z,oz.same s1,en.same s1,fun H2 s2=>k H2 (s1.trans s2)⟩⟩
 |true=>
  exact PW.mono (pw_or (tB':=fun _ _ _=>False) ha (fun wh pins s σ H Q I h=>h.elim)) fun σ H Q z0=>el13 z0 fun Z oz en k=>⟨Z,oz,en,fun H1 s1=>by
   refine iteT ?_;exact k H1 s1⟩
theorem TW.t{p:Bool}(h:TW X ρ a p):T X ρ a p:=PW.pt h
theorem e_ifExp{p:Bool}(hc:T X ρ c p)(ha:p=true->E X m ρ a d)(hb:p=false->E X m ρ b d):E X m ρ (.IfExp c a b pos) d:=by
 cases p with
 |true=>
  exact PE.mono (pe_ifExp (tb:=fun _ _ _=>False) hc (ha rfl) (fun pins s σ H Q I h=>h.elim)) fun σ H Q z0=>el13 z0 fun Z oz en k=>⟨Z,oz,en,fun H1 s1=>by
   refine iteT ?_;exact⟨Z,oz.same s1,en.same s1,fun v H2 s2 i2=>k v H2 (s1.trans s2) (i2.later s1)⟩⟩
 |false=>
  exact PE.mono (pe_ifExp (ta:=fun _ _ _=>False) hc (fun pins s σ H Q I h=>h.elim) (hb rfl)) fun σ H Q z0=>el13 z0 fun Z oz en k=>⟨Z,oz,en,fun H1 s1=>by
   refine iteF ?_;exact⟨Z,oz.same s1,en.same s1,fun v H2 s2 i2=>k v H2 (s1.trans s2) (i2.later s1)⟩⟩
theorem Ins.atI{K:PySem.W.Frag}{H:Hp}{Z:Zone}{ds:List D}{vs:List V}{i:Int}{d:D}(h:Ins K H Z ds vs)(e:atI ds i=some d):∃v,atI vs i=some v/\In K H Z d v:=by
 unfold L2.atI at e⊢
 rw[<-h.length]
 cases q:ixN ds.length i with
 |none=>rw[q]at e;cases e
 |some j=>
  rw[q]at e
  exact h.get e
theorem e_ixL{ds:List D}{i:Int}(ha:E X m1 ρ a (.lst ds))(hb:E X m2 ρ b (.int i))(h:atI ds i=some d)(hs:PlainIx b:=by intro _ _;rfl):E X m1 ρ (.Subscript a b pos) d:=
 PE.mono (pe_ix ix_list ha hb hs) fun σ H Q z0=>el13 z0 fun Z oz en k=>⟨Z,oz,en,fun x H1 s1 i1=>⟨Z,oz.same s1,en.same s1,fun y H2 s2 i2=>by
  obtain⟨p,xs,rfl,l,j⟩:=in_lst.mp (In.same s2 i1)
  obtain⟨v,e,iv⟩:=j.atI h
  exact⟨p,xs,i,v,rfl,in_int.mp (i2.plain (oz.same s1)),l.sq,e,k v H2 (s1.trans s2) iv⟩⟩⟩
theorem e_ixT{ds:List D}{i:Int}(ha:E X m1 ρ a (.tup ds))(hb:E X m2 ρ b (.int i))(h:atI ds i=some d)(hs:PlainIx b:=by intro _ _;rfl):E X m1 ρ (.Subscript a b pos) d:=
 PE.mono (pe_ix ix_tup ha hb hs) fun σ H Q z0=>el13 z0 fun Z oz en k=>⟨Z,oz,en,fun x H1 s1 i1=>⟨Z,oz.same s1,en.same s1,fun y H2 s2 i2=>by
  obtain⟨p,xs,rfl,l,j⟩:=in_tupS (In.same s2 i1)
  obtain⟨v,e,iv⟩:=j.atI h
  exact⟨p,xs,i,v,rfl,in_int.mp (i2.plain (oz.same s1)),l,e,k v H2 (s1.trans s2) iv⟩⟩⟩
theorem e_ixS{z:Str}{i:Int}{cp:Nat}(ha:E X m1 ρ a (.str z))(hb:E X m2 ρ b (.int i))(hz:z.length<=sizeLine)(h:atI z.cps.toList i=some cp)(hs:PlainIx b:=by intro _ _;rfl):E X true ρ (.Subscript a b pos) (.str ⟨#[cp]⟩):=
 PE.mono (pe_ix ix_str ha hb hs) fun σ H Q z0=>el13 z0 fun Z oz en k=>two (ta:=tE X.K m1 ρ (.str z)) (tb:=tE X.K m2 ρ (.int i)) oz en fun x y H2 s i1 i2=>
  ⟨z,i,cp,in_str.mp i1,in_int.mp i2,hz,h,k _ H2 s (in_str.mpr rfl)⟩
def EO(X:Cx)(ρ:List (Option D))(e:Option Expr)(o:Option Int):Prop:=PO X e (fun σ H Q=>∃Z:Zone,Z.Open H/\EnvIn X.K H Z σ ρ/\ ∀H',Same H H'->Q o H')
theorem PO.mono{e:Option Expr}{t t':TO}(h:PO X e t)(k:∀σ H Q,t' σ H Q->t σ H Q):PO X e t':=fun pins s σ H Q I q=>h pins s σ H Q I (k σ H Q q)
theorem eo_none:EO X ρ none none:=PO.mono po_none fun σ H Q z0=>el13 z0 fun Z oz en k=>k H (Same.refl H)
theorem eo_some{i:Int}(h:E X m1 ρ e (.int i)):EO X ρ (some e) (some i):=PO.mono (po_some h) fun σ H Q z0=>el13 z0 fun Z oz en k=>⟨Z,oz,en,fun v H1 s1 i1=>⟨i,in_int.mp (i1.plain oz),k H1 s1⟩⟩
def cut{α:Type}(xs:List α)(lo hi:Option Int):List α:=(xs.drop (HT.sIx xs.length 0 lo)).take (HT.sIx xs.length xs.length hi-HT.sIx xs.length 0 lo)
theorem Ins.cut{K:PySem.W.Frag}{H:Hp}{Z:Zone}{ds:List D}{vs:List V}(h:Ins K H Z ds vs)(lo hi:Option Int):Ins K H Z (cut ds lo hi) (cutV vs lo hi):=by
 unfold Y.cut cutV
 rw[h.length]
 exact(h.drop _).take _
variable{lo hi:Option Expr}{l u:Option Int}{p2:Pos}
theorem e_slL{ds:List D}(ha:E X m1 ρ a (.lst ds))(hl:EO X ρ lo l)(hu:EO X ρ hi u)(hm:m=true->m1=true\/flats (cut ds l u)=true:=by intro h;first|exact .inl h|cases h):E X m ρ (.Subscript a (.Slice lo hi none p2) pos) (.lst (cut ds l u)):=
 PE.mono (pe_slice sl_list ha hl hu) fun σ H Q z0=>el13 z0 fun Z oz en k=>⟨Z,oz,en,fun x H1 s1 i1=>⟨Z,oz.same s1,en.same s1,fun H2 s2=>⟨Z,oz.same (s1.trans s2),en.same (s1.trans s2),fun H3 s3=>by
  have s:=(s1.trans s2).trans s3
  have i3:In X.K H3 (out m1 Z H) (.lst ds) x:=In.same (s2.trans s3) i1
  obtain⟨p,xs,rfl,lq,j⟩:=in_lst.mp i3
  refine⟨p,xs,rfl,lq.sq,fun q hq=>k (.ref q) _ (s.trans (same_new hq)) (in_lst.mpr ⟨q,_,rfl,.inl ⟨upd_same,?_⟩,?_⟩)⟩
  . cases m
    . exact oz q (s.free hq)
    . exact s.free hq
  . have jc:=(j.cut l u).same (same_new (o:=.lst (cutV xs l u)) hq)
    cases m
    . cases m1
      . exact jc
      . exact jc.up oz
    . rcases hm rfl with h|h
      . subst h;exact jc
      . exact jc.flat' h⟩⟩⟩
end
end Y
namespace Y
open PySem PySem.Spec PyProof.Rows L2
variable[Tabs]
def clOf(cells:List (Str×Addr)):List (Str×NameKind)->List (Str×Addr)->List (Str×Addr)
 |[],acc=>acc
 |(n,k)::r,acc=>if k==.free then clOf cells r ((n,(cells.lookup n).getD 0)::acc)else clOf cells r acc
theorem clOf_sub{cells:List (Str×Addr)}:∀{names:List (Str×NameKind)} {acc:List (Str×Addr)},(∀y∈names,y.2=.free->∃c,cells.lookup y.1=some c)->(∀x c,acc.lookup x=some c->cells.lookup x=some c)->
 ∀x c,(clOf cells names acc).lookup x=some c->cells.lookup x=some c
 |[],_,_,h2,x,c,e=>h2 x c e
 |(n,k)::r,acc,h1,h2,x,c,e=>by
  unfold clOf at e
  by_cases hk:(k==NameKind.free)=true
  . rw[if_pos hk]at e
    refine clOf_sub (fun y hy=>h1 y (mem_cons_of_mem _ hy)) (fun y c' e'=>?_) x c e
    obtain⟨c0,e0⟩:=h1 (n,k) mem_cons_self (by simpa using hk)
    rw[lookup_cons]at e'
    cases hy:y==n with
    |true=>
     rw[hy]at e'
     simp at e'
     have:y=n:=by simpa using hy
     subst this
     rw[e0]at e'⊢
     simpa using e'
    |false=>
     rw[hy]at e'
     exact h2 y c' e'
  . rw[if_neg hk]at e
    exact clOf_sub (fun y hy=>h1 y (mem_cons_of_mem _ hy)) h2 x c e
theorem clOf_acc{cells:List (Str×Addr)}:∀{names:List (Str×NameKind)} {acc:List (Str×Addr)} {x:Str},(∃c,acc.lookup x=some c)->∃c,(clOf cells names acc).lookup x=some c
 |[],_,_,h=>h
 |(n,k)::r,acc,x,h=>by
  unfold clOf
  by_cases hk:(k==NameKind.free)=true
  . rw[if_pos hk]
    refine clOf_acc ?_
    rw[lookup_cons]
    cases hy:x==n with
    |true=>exact⟨_,rfl⟩
    |false=>exact h
  . rw[if_neg hk];exact clOf_acc h
theorem clOf_has{cells:List (Str×Addr)}:∀{names:List (Str×NameKind)} {acc:List (Str×Addr)} {x:Str},(x,NameKind.free)∈names->∃c,(clOf cells names acc).lookup x=some c
 |[],_,_,h=>by cases h
 |(n,k)::r,acc,x,h=>by
  unfold clOf
  rcases mem_cons.mp h with e|h
  . cases e
    rw[if_pos (by decide)]
    exact clOf_acc ⟨(cells.lookup n).getD 0,by rw[lookup_cons];simp⟩
  . by_cases hk:(k==NameKind.free)=true
    . rw[if_pos hk];exact clOf_has h
    . rw[if_neg hk];exact clOf_has h
theorem closure_of{scope:Scope}{env:Env}(h:∀y∈scope.names,y.2=.free->∃c,env.cells.lookup y.1=some c):closureFor scope env=pure (clOf env.cells scope.names []):=by
 have key:∀(names:List (Str×NameKind)) (acc:List (Str×Addr)),(∀y∈names,y.2=.free->∃c,env.cells.lookup y.1=some c)->
  (forIn names acc fun(x:Str×NameKind) (cs:List (Str×Addr))=>(match x with
   |(name,kind)=>if(kind==NameKind.free)=true then do let a<-cellOf env name;pure (ForInStep.yield ((name,a)::cs))else pure (ForInStep.yield cs)):Sem (List (Str×Addr)))=pure (clOf env.cells names acc):=by
  intro names
  induction names with
  |nil=>intro acc _;rfl
  |cons y r ih=>
   intro acc hy
   obtain⟨n,k⟩:=y
   rw[List.forIn_cons]
   unfold clOf
   by_cases hk:(k==NameKind.free)=true
   . obtain⟨c,e⟩:=hy (n,k) mem_cons_self (by simpa using hk)
     have e1:cellOf env n=pure c:=by unfold cellOf;rw[e]
     simp only[hk,if_true,e1,pure_bind]
     rw[ih _ fun z hz=>hy z (mem_cons_of_mem _ hz),e]
     rfl
   . simp only[hk,if_false,pure_bind]
     exact ih _ fun z hz=>hy z (mem_cons_of_mem _ hz)
 unfold closureFor
 have k:=key scope.names [] h
 first
  |(simp only[bind_pure];exact k)
  |(rw[k];rfl)
  |exact k
theorem lookup_relabel{env:Env}{P:NameKind->Prop}(hP:P .free->P .cell):∀{names:List (Str×NameKind)} {x:Str} {k:NameKind},names.lookup x=some k->P k->
 ∃k',(names.map fun(n,k)=>if(k==NameKind.free&&env.scope.kind==.function&&env.kindOf n==some .cell)then(n,NameKind.cell)else(n,k)).lookup x=some k'/\P k'
 |[],_,_,h,_=>by simp at h
 |(n,k0)::r,x,k,h,p=>by
  have ih:= @lookup_relabel env P hP r x k
  show∃k',List.lookup x ((if(k0==NameKind.free&&env.scope.kind==.function&&env.kindOf n==some .cell)=true then(n,NameKind.cell)else(n,k0))::_)=some k'/\P k'
  cases hx:x==n with
  |true=>
   simp only[lookup_cons,hx]at h
   have hk:k0=k:=Option.some.inj h
   subst hk
   by_cases hc:(k0==NameKind.free&&env.scope.kind==.function&&env.kindOf n==some .cell)=true
   . rw[if_pos hc];simp only[lookup_cons,hx]
     refine⟨_,rfl,?_⟩
     have:k0=.free:=by simp at hc;exact hc.1.1
     subst this
     exact hP p
   . rw[if_neg hc];simp only[lookup_cons,hx];exact⟨_,rfl,p⟩
  |false=>
   simp only[lookup_cons,hx]at h
   by_cases hc:(k0==NameKind.free&&env.scope.kind==.function&&env.kindOf n==some .cell)=true
   . rw[if_pos hc];simp only[lookup_cons,hx];exact ih h p
   . rw[if_neg hc];simp only[lookup_cons,hx];exact ih h p
theorem unlook_relabel{env:Env}:∀{names:List (Str×NameKind)} {x:Str} {k':NameKind},(names.map fun(n,k)=>if(k==NameKind.free&&env.scope.kind==.function&&env.kindOf n==some .cell)then(n,NameKind.cell)else(n,k)).lookup x=some k'->
 ∃k,(x,k)∈names/\(k'=k\/k=.free)
 |[],_,_,h=>by simp at h
 |(n,k0)::r,x,k',h=>by
  have ih:= @unlook_relabel env r x k'
  have h':List.lookup x ((if(k0==NameKind.free&&env.scope.kind==.function&&env.kindOf n==some .cell)=true then(n,NameKind.cell)else(n,k0))::(r.map fun(n,k)=>if(k==NameKind.free&&env.scope.kind==.function&&env.kindOf n==some .cell)then(n,NameKind.cell)else(n,k)))=some k':=h
  cases hx:x==n with
  |true=>
   have hxn:x=n:=by simpa using hx
   subst hxn
   by_cases hc:(k0==NameKind.free&&env.scope.kind==.function&&env.kindOf x==some .cell)=true
   . have:k0=.free:=by simp at hc;exact hc.1.1
     exact⟨k0,mem_cons_self,.inr this⟩
   . rw[if_neg hc]at h';simp only[lookup_cons,hx]at h'
     cases h'
     exact⟨k0,mem_cons_self,.inl rfl⟩
  |false=>
   have h2:List.lookup x (r.map fun(n,k)=>if(k==NameKind.free&&env.scope.kind==.function&&env.kindOf n==some .cell)then(n,NameKind.cell)else(n,k))=some k':=by
    by_cases hc:(k0==NameKind.free&&env.scope.kind==.function&&env.kindOf n==some .cell)=true
    . rw[if_pos hc]at h';simp only[lookup_cons,hx]at h';exact h'
    . rw[if_neg hc]at h';simp only[lookup_cons,hx]at h';exact h'
   obtain⟨k,a,b⟩:=ih h2
   exact⟨k,mem_cons_of_mem _ a,b⟩
def CapOk(X:Cx):List Str->List Nat->Prop
 |[],[]=>True
 |y::ys,j::js=>(X.N[j]? =some y/\(X.env.scope.names.lookup y=some .cell\/X.env.scope.names.lookup y=some .free))/\CapOk X ys js
 |_,_=>False
theorem CapOk.at{X:Cx}:∀{caps:List Str} {js:List Nat},CapOk X caps js->∀(k:Nat) y j,caps[k]? =some y->js[k]? =some j->X.N[j]? =some y/\(X.env.scope.names.lookup y=some .cell\/X.env.scope.names.lookup y=some .free)
 |[],_,_,_,_,_,e,_=>by simp at e
 |_::_,[],h,_,_,_,_,_=>by exact False.elim h
 |y::ys,j::js,h,0,_,_,e1,e2=>by simp at e1 e2;subst e1 e2;exact h.1
 |y::ys,j::js,h,k+1,y',j',e1,e2=>h.2.at k y' j' (by simpa using e1) (by simpa using e2)
theorem CapOk.len{X:Cx}:∀{caps:List Str} {js:List Nat},CapOk X caps js->js.length=caps.length
 |[],[],_=>rfl
 |[],_::_,h=>False.elim h
 |_::_,[],h=>False.elim h
 |_::_,_::_,h=>by simp[h.2.len]
structure BlkScope(X:Cx)(scope:Scope)(own caps:List Str)(js:List Nat):Prop where
 kind:scope.kind=.function
 nocell:∀y∈scope.names,y.2≠ .cell
 names:∀y∈scope.names,y.2=.local->scope.names.lookup y.1=some .local
 nd:(own++caps).Nodup
 own:∀y∈own,scope.names.lookup y=some .local
 capf:∀y∈caps,(y,NameKind.free)∈scope.names/\scope.names.lookup y=some .free
 capO:CapOk X caps js
 free:∀y∈scope.names,y.2=.free->y.1∈caps
def blk(X:Cx)(N':List Str)(scope:Scope)(C:Addr)(s:Shared)(H:Hp)(fp:List Addr):Cx:=
 {X with N:=N',s₀:=s,H₀:=H,env:=compEnvC scope (clOf X.env.cells scope.names []) C X.env,outer:=X.stack,ex:=fp,fn:=fun _=>false,pn:=[],xe:=fun _ _=>False}
def capsOf(js:List Nat)(σ:St):St:=js.map fun j=>(σ[j]?).join
section
variable{X:Cx}{pins:List (Addr×Obj)}{σ:St}{H H':Hp}{s:Shared}{scope:Scope}{own caps:List Str}{js:List Nat}{fp:List Addr}
theorem BlkScope.cells(B:BlkScope X scope own caps js)(ok:X.Ok):∀y∈scope.names,y.2=.free->∃c,X.env.cells.lookup y.1=some c:=fun y hy hf=>by
 obtain⟨k,hk⟩:=List.getElem?_of_mem (B.free y hy hf)
 have hj:k<js.length:=by rw[B.capO.len];exact(List.getElem?_eq_some_iff.mp hk).1
 obtain⟨_,h⟩:=B.capO.at k y.1 js[k] hk (by simp[hj])
 exact ok.has y.1 h
theorem inv_blk(B:BlkScope X scope own caps js)(I:Inv X pins σ H s)(hf:∀b∈fp,FpOk X pins H b)(ho:∀b∈fp,b<s.heap.objs.size){h4:Heap}{tk:Nat}
 (hn:h4.Ns (s.heap.objs.size+1) (fun _=>none))(hk:∀b o,s.heap.get? b=some o->h4.get? b=some o)
 (hl:h4.get? s.heap.objs.size=some {cls:=.type "list",data:=.seq ([]:List Value).toArray 0}):
 Inv (blk X (own++caps) scope (s.heap.objs.size+1) s H fp) [] (own.map (fun _=>none)++capsOf js σ) (upd H s.heap.objs.size (.lst [])) {s with heap:=h4,toks:=tk}:=by
 have fresh:H s.heap.objs.size=none:=I.hok.fresh (Nat.le_refl _)
 have freshC:H (s.heap.objs.size+1)=none:=I.hok.fresh (Nat.le_succ _)
 have hcl:=B.cells I.ok
 have sub:=clOf_sub (acc:=[]) hcl (fun x c e=>by simp at e)
 have ok':(blk X (own++caps) scope (s.heap.objs.size+1) s H fp).Ok:=by
  refine⟨I.ok.mod,B.kind,I.ok.glob,I.ok.blt,Nat.le_succ _,fun x y c h1 h2=>I.ok.inj x y c (sub x c h1) (sub y c h2),fun x hx=>?_,fun x c hx=>(nomatch hx),I.ok.hd,I.ok.frames,.inl rfl,fun b hb=>⟨?_,fun x c e=>?_⟩,I.bs,Nat.le_trans I.ok.bsz I.sz,fun b o e hb=>?_,fun b hb hs=>?_,I.stack,I.stkFree⟩
  . have hx':∃k',(scope.names.map fun(n,k)=>if(k==NameKind.free&&X.env.scope.kind==.function&&X.env.kindOf n==some .cell)then(n,NameKind.cell)else(n,k)).lookup x=some k'/\(k'=.cell\/k'=.free):=by
     rcases hx with e|e
     . exact⟨_,e,.inl rfl⟩
     . exact⟨_,e,.inr rfl⟩
    obtain⟨k',e,hk'⟩:=hx'
    obtain⟨k,hm,q⟩:=unlook_relabel e
    have hfree:k=.free:=by
     rcases q with q|q
     . subst q
       rcases hk' with z|z
       . exact absurd z (B.nocell _ hm)
       . exact z
     . exact q
    subst hfree
    exact clOf_has hm
  . exact Nat.ne_of_lt (Nat.lt_succ_of_lt (ho b hb))
  . exact(hf b hb).2.2.2.2.1 x c (sub x c e)
  . rcases(hf b hb).2.2.2.1 with z|z
    . exact I.ok.noex b o e z
    . rw[(I.ok.bs b o e).1]at z;cases z
  . rcases mem_cons.mp (I.stkSub b hs)with z|z
    . exact(hf b hb).2.1 z
    . exact(hf b hb).2.2.1 z
 refine⟨ok',rfl,I.bare,Un.laid hk (Nat.le_refl _) fresh,⟨_,hn,fun i x v e1 e2 e3=>?_⟩,fun x c e=>?_,?_,fun x c e=>?_,fun p hp=>absurd (show p∈([]:List (Addr×Obj))from hp) (by simp),I.hok.laid hk (Nat.le_refl _) ⟨Nat.zero_le _,[],0,.nil,hl⟩,?_⟩
 . have e1:(own++caps)[i]? =some x:=e1
   have hi:¬i<own.length:=fun hi=>by
    rw[getElem?_append_left (by simpa using hi),getElem?_map]at e2
    cases q:own[i]? with
    |none=>rw[q]at e2;cases e2
    |some y=>rw[q]at e2;cases e2
   rw[getElem?_append_right (by simpa using hi)]at e2
   rw[getElem?_append_right (by simpa using hi)]at e1
   rw[length_map]at e2
   unfold capsOf at e2
   rw[getElem?_map]at e2
   cases q:js[i-own.length]? with
   |none=>rw[q]at e2;cases e2
   |some j=>
    rw[q]at e2
    have e2:(σ[j]?).join=some v:=by simpa using e2
    have e2':σ[j]? =some (some v):=by
     cases z:σ[j]? with
     |none=>rw[z]at e2;cases e2
     |some w=>rw[z]at e2;simpa using e2
    obtain⟨c1,c2⟩:=B.capO.at _ x j e1 q
    obtain⟨m,_,hl'⟩:=I.loc
    obtain⟨u,r,lk⟩:=hl' j x v c1 e2' (c2.elim (fun z=>.inr (.inl z)) fun z=>.inr (.inr z))
    refine⟨u,r,?_⟩
    rcases lk with⟨z,_⟩|⟨_,c,ec,cell⟩
    . have z:X.env.scope.names.lookup x=some .local:=z
      rcases c2 with c2|c2<;>(rw[c2]at z;cases z)
    . have hfr:=B.capf x (mem_of_getElem? e1)
      obtain⟨k',ek,pk⟩:=lookup_relabel (env:=X.env) (P:=fun k=>k=.cell\/k=.free) (fun _=>.inl rfl) hfr.2 (.inr rfl)
      refine .inr ⟨?_,c,?_,?_⟩
      . rcases pk with rfl|rfl
        . exact .inl ek
        . exact .inr ek
      . obtain⟨c',e'⟩:=clOf_has (cells:=X.env.cells) (acc:=[]) hfr.1
        have:=sub x c' e'
        rw[ec]at this
        cases this
        exact e'
      . obtain⟨oo,ho',hd'⟩:=cell
        exact⟨oo,hk _ _ ho',hd'⟩
 . obtain⟨v,oo,ho',hd'⟩:=I.cell x c (sub x c e)
   exact⟨v,oo,hk _ _ ho',hd'⟩
 . show(upd H s.heap.objs.size (.lst [])) (s.heap.objs.size+1)=none
   rw[upd_ne (Nat.succ_ne_self _)];exact freshC
 . obtain⟨v,oo,ho',hd'⟩:=I.cell x c (sub x c e)
   rw[upd_ne (Nat.ne_of_lt (lt_size ho'))]
   exact I.freeC x c (sub x c e)
 . show _=(own++caps).length
   unfold capsOf
   rw[List.length_append,List.length_append,length_map,length_map,B.capO.len]
theorem inv_back{C:Addr}{σ':St}{pl:List (Addr×Obj)}{s':Shared}{h':Heap}(I:Inv X pins σ H s)(hf:∀b∈fp,FpOk X pins H b)(I':Inv (blk X (own++caps) scope C s H fp) pl σ' H' s')(hC:s.heap.objs.size<=C)(hs:Heap.SameBut C s'.heap h'):
 Inv X pins σ H' {s' with heap:=h'}:=by
 have neC:∀b o,s.heap.get? b=some o->b≠C:=fun b o e=>Nat.ne_of_lt (Nat.lt_of_lt_of_le (lt_size e) hC)
 have freeC:H' C=none:=I'.free
 have b':Un (frs X.stack) fp H H' s.heap s'.heap:=I'.base
 refine I.call' (s':={s' with heap:=h'}) (ch:=fp) I'.os ⟨fun b o e n hb hx=>(hs.2 b (neC b o e)).trans (b'.keep b o e n hb hx),fun b o e n hb hx=>?_,b'.free,fun b o e hx=>?_,b'.tups,b'.frzs,b'.tbls⟩ (fun b ob e=>?_) I'.bare fun b hb=>?_
 . obtain⟨sl,e1⟩:=b'.slot b o e n hb hx
   exact⟨sl,(hs.2 b (neC b o e)).trans e1⟩
 . obtain⟨o',e1⟩:=b'.there b o e hx
   exact⟨o',(hs.2 b (neC b o e)).trans e1⟩
 . refine(I'.hok b ob e).stay (fun c w' hc q=>(hs.2 c ?_).trans q) (fun _ q=>q) fun _ _ q=>q
   rintro rfl
   rcases hc with rfl|hc
   . rw[freeC]at e;cases e
   . rw[freeC]at hc;cases hc
 . exact⟨(hf b hb).2.2.2.1,(hf b hb).2.1,(hf b hb).2.2.2.2.1,(hf b hb).2.2.2.2.2⟩
end
theorem sure{α:Type}{M:Model}{A:Around}{m:Sem α}{P Q:α->Shared->Prop}{E:Value->Shared->Prop}{s:Shared}(h:wpAny M A m P (fun _ _=>False) s)(k:∀a s,P a s->Q a s):wpAny M A m Q E s:=wpAny_mono h k fun _ _ f=>f.elim
def PTs(X:Cx)(ifs:List Expr)(t:TT):Prop:=∀(pins:List (Addr×Obj)) (s:Shared) (σ:St) (H:Hp) (Q:Bool->Hp->Prop),Inv X pins σ H s->t σ H Q->
 wpAny (model X.prog X.w) X.A (forIn ifs true fun c r=>if r=true then do let ok<-isTrue c X.env (eval c X.env);pure (ForInStep.yield ok)else pure (ForInStep.yield r)) (TP X pins σ Q) X.xe s
theorem pts_nil{X:Cx}:PTs X [] (fun _ H Q=>Q true H):=fun pins s σ H Q I h=>wpAny_tests_nil ⟨H,I,h⟩
theorem pts_one{X:Cx}{c:Expr}{t:TT}(h:PT X c t):PTs X [c] t:=fun pins s σ H Q I q=>wpAny_tests_one (h pins s σ H Q I q)
def tComp(wi:TI)(n:Nat)(js:List Nat)(g:TG)(tc:Nat->TT)(te:Nat->TE):TE:=fun σ H Q=>wi σ H fun J H1=>∀l,H1 l=none->
 ∃W:Nat->Nat->List V->Hp->Prop,(∃m,W 0 m [] (upd H1 l (.lst [])))/\ ∀i m xs H ow,ow.length=n->W i m xs H->H l=some (.lst xs)/\
  ((J.stop i H/\Q (.ref l) H)\/(J.go i H/\ ∀x H',J.yld i H x H'->g x (ow++capsOf js σ) H' fun σ2 H2=>(∃ow',ow'.length=n/\σ2=ow'++capsOf js σ)/\
   tc i σ2 H2 fun b H3=>if b=true then te i σ2 H3 fun y H4=>H4 l=some (.lst xs)/\xs.length<sizeLine/\ ∃m',m'<m/\W (i+1) m' (xs++[y]) (upd H4 l (.lst (xs++[y])))
    else∃m',m'<m/\W (i+1) m' xs H3))
def CompEnd(X:Cx)(pins:List (Addr×Obj))(σ:St)(Q:VK)(acc:Value)(C:Addr)(s':Shared):Prop:=
 ∃v H',Inv X pins σ H' s'/\RelV v acc/\Q v H'/\(∃m,s'.heap.Ns C m)/\FpOk X pins H' C
theorem comp_core{X:Cx}{elt tg iter:Expr}{ifs:List Expr}{scope:Scope}{pos:Pos}{own caps:List Str}{js:List Nat}{g:TG}{tc:Nat->TT}{te:Nat->TE}(hc:X.calm=true)(B:BlkScope X scope own caps js)
 (hg:∀C s H fp,PG (blk X (own++caps) scope C s H fp) tg g)(ht:∀C s H fp i,PTs (blk X (own++caps) scope C s H fp) ifs (tc i))(he:∀C s H fp i,PE (blk X (own++caps) scope C s H fp) elt (te i))
 {pins:List (Addr×Obj)}{σ:St}{Q:VK}{itv:Value}{s2:Shared}{RR:Value->Addr->Result->Shared->Prop}(hRR:∀acc C s',CompEnd X pins σ Q acc C s'->RR acc C (.ok .next) s')
 (h2:PIE X pins σ tg (fun J H1=>∀l,H1 l=none->
  ∃W:Nat->Nat->List V->Hp->Prop,(∃m,W 0 m [] (upd H1 l (.lst [])))/\ ∀i m xs H ow,ow.length=own.length->W i m xs H->H l=some (.lst xs)/\
   ((J.stop i H/\Q (.ref l) H)\/(J.go i H/\ ∀x H',J.yld i H x H'->g x (ow++capsOf js σ) H' fun σ2 H2=>(∃ow',ow'.length=own.length/\σ2=ow'++capsOf js σ)/\
    tc i σ2 H2 fun b H3=>if b=true then te i σ2 H3 fun y H4=>H4 l=some (.lst xs)/\xs.length<sizeLine/\ ∃m',m'<m/\W (i+1) m' (xs++[y]) (upd H4 l (.lst (xs++[y])))
     else∃m',m'<m/\W (i+1) m' xs H3))) itv s2):
 wpAny (model X.prog X.w) X.A (newList []) (fun acc s₃=>wpAny (model X.prog X.w) X.A (newFunctionEnv scope X.env.globals (clOf X.env.cells scope.names []) [] X.env.qual none .none (some X.env)) (fun cenv s₄=>
  codeAny (model X.prog X.w) X.A (.compStart (.ListComp elt [⟨tg,iter,ifs,0⟩] scope pos) 0 itv acc {cenv with scope:=relabel scope X.env}) (RR acc cenv.locals) s₄) X.xe s₃) X.xe s2:=by
 obtain⟨it,fp,tn,J,H2,e,I2,TT,st2,f2,q⟩:=h2
 subst e
 have fresh:H2 s2.heap.objs.size=none:=I2.hok.fresh (Nat.le_refl _)
 obtain⟨W,⟨m0,w0⟩,turn⟩:=q s2.heap.objs.size fresh
 have hlt:∀b∈fp,b<s2.heap.objs.size:=fun b hb=>let⟨o,e,_⟩:=TT.obj _ _ st2 b hb;lt_size e
 refine wpAny_newObj_type (wpAny_newFunctionEnv B.nocell (by intro y hy;simp at hy) (fun h₁ hns₁ hsb₁=>?_) B.kind)
 dsimp only at hns₁ hsb₁⊢
 generalize hH2:s2.heap.push {cls:=.type "list",dict:=none,data:=.seq ([]:List Value).toArray}=H3 at hns₁ hsb₁⊢
 have hC:H3.objs.size=s2.heap.objs.size+1:=by rw[<-hH2,Heap.size_push]
 have old:∀b o,s2.heap.get? b=some o->h₁.get? b=some o:=fun b o e=>hsb₁.extBut b o (by rw[hC];exact Nat.ne_of_lt (Nat.lt_succ_of_lt (lt_size e))) (get?_push_of_some _ (hH2▸get?_push_of_some _ e))
 have hacc:h₁.get? s2.heap.objs.size=some {cls:=.type "list",data:=.seq ([]:List Value).toArray 0}:=
  hsb₁.extBut _ _ (by rw[hC];exact Nat.ne_of_lt (Nat.lt_succ_self _)) (get?_push_of_some _ (hH2▸get?_push_size _ rfl))
 have hns:h₁.Ns (s2.heap.objs.size+1) (fun _=>none):=by rw[<-hC];exact hns₁
 have I4:∀tk,Inv (blk X (own++caps) scope (s2.heap.objs.size+1) s2 H2 fp) [] (own.map (fun _=>none)++capsOf js σ) (upd H2 s2.heap.objs.size (.lst [])) {s2 with heap:=h₁,toks:=tk}:=fun tk=>inv_blk B I2 f2 hlt hns old hacc
 rw[hC]
 --what stays of the iterator
 have stat:∀{H':Hp},(∀b∈fp,H' b=none)->∀b∈fp,FpOk (blk X (own++caps) scope (s2.heap.objs.size+1) s2 H2 fp) [] H' b:=fun{H'} hn b hb=>by
  have F:=(I4 0).ok
  exact⟨hn b hb,(F.exf b hb).1,F.exfs b hb,.inl hb,(F.exf b hb).2,fun p hp=>absurd (show p∈([]:List (Addr×Obj))from hp) (by simp)⟩
 have loop:∀s3:Shared,s3={s2 with heap:=h₁,toks:=s2.toks+([]:List (Str×Value)).length}->
  codeAny (model X.prog X.w) X.A (.compLoop (.ListComp elt [⟨tg,iter,ifs,0⟩] scope pos) 0 (.ref it) (.ref s2.heap.objs.size) (compEnvC scope (clOf X.env.cells scope.names []) (s2.heap.objs.size+1) X.env))
   (RR (.ref s2.heap.objs.size) (s2.heap.objs.size+1)) s3:=by
  rintro s3 rfl
  refine codeAny_loop rfl (fun n s'=>∃i xs ow H',ow.length=own.length/\Inv (blk X (own++caps) scope (s2.heap.objs.size+1) s2 H2 fp) [] (ow++capsOf js σ) H' s'/\tn i s'.heap/\(∀b∈fp,H' b=none)/\W i n xs H') ?_ m0
   ⟨0,[],own.map (fun _=>none),_,by simp,I4 _,TT.keep _ _ _ st2 fun b _ o e=>old b o e,fun b hb=>by rw[upd_ne (Nat.ne_of_lt (hlt b hb))];exact(f2 b hb).1,w0⟩
  rintro n s4 ⟨i,xs,ow,H4,how,I5,st4,fr4,w4⟩
  obtain⟨hl4,q4⟩:=turn i n xs H4 ow how w4
  refine wpAny_noted ?_
  refine cast (congrArg (fun m=>wpAny (model X.prog X.w) X.A m _ _ s4) (compTurn_list _ _ _ _ _ _ _ _ _).symm) ?_
  refine wpAny_bind (wpAny_standAt (wpAny_bind ?_))
  rcases q4 with⟨stop,qn⟩|⟨go,step⟩
  . refine sure (TT.done (blk X (own++caps) scope (s2.heap.objs.size+1) s2 H2 fp) rfl rfl rfl hc i [] s4 _ H4 _ I5 (stat fr4) st4 stop) fun r s6 ⟨hr,I6⟩=>?_
    subst hr
    obtain⟨m,hm,_⟩:=I6.loc
    refine wpAny_pure (hRR _ _ _ ⟨.ref s2.heap.objs.size,H4,inv_back I2 f2 I6 (Nat.le_succ _) (Heap.SameBut.refl ..),rfl,qn,⟨m,hm⟩,I2.fpOk (Nat.le_succ _) I6.free⟩)
  . refine sure (TT.item (blk X (own++caps) scope (s2.heap.objs.size+1) s2 H2 fp) rfl rfl rfl hc i [] s4 _ H4 (fun _ _=>False) I5 (stat fr4) st4 go) fun r s6 ⟨u,hr,h6⟩=>?_
    subst hr
    refine wpAny_bind (sure h6 fun _ s7 ⟨x,H7,I7,r7,y7,st7,fr7⟩=>?_)
    have I7':=I7.pinned (stat fr7) (TT.obj _ _ st7)
    refine wpAny_bind (sure (hg _ _ _ _ _ s7 _ H7 x u _ I7' r7 (step x H7 y7)) fun _ s8 ⟨σ8,H8,I8,⟨ow',how',eσ⟩,q8⟩=>?_)
    subst eσ
    refine wpAny_bind (sure (ht _ _ _ _ i _ s8 _ H8 _ I8 q8) fun b s9 ⟨H9,I9,q9⟩=>?_)
    have again:∀{H10:Hp} {s10:Shared},Inv (blk X (own++caps) scope (s2.heap.objs.size+1) s2 H2 fp) ([]++pinsAt fp s7.heap) (ow'++capsOf js σ) H10 s10->tn (i+1) s10.heap/\ ∀b∈fp,H10 b=none:=fun{H10 s10} I10=>by
     refine⟨TT.keep _ _ _ st7 fun b hb o e=>(I10.pin (b,o) (mem_append_right _ (mem_append_right _ (mem_pinsAt hb e)))).1,fun b hb=>?_⟩
     obtain⟨o,e,d⟩:=TT.obj _ _ st7 b hb
     exact(I10.pin (b,o) (mem_append_right _ (mem_append_right _ (mem_pinsAt hb e)))).2.1
    cases b with
    |false=>
     rw[if_neg Bool.false_ne_true]at q9
     obtain⟨m',hm,w9⟩:=q9
     exact wpAny_pure ⟨rfl,m',hm,i+1,xs,ow',H9,how',I9.unpinned,(again I9).1,(again I9).2,w9⟩
    |true=>
     rw[if_pos rfl]at q9
     refine wpAny_bind (wpAny_bind (sure (he _ _ _ _ i _ s9 _ H9 _ I9 q9) fun y s10 ⟨z,H10,I10,r10,hl10,hz,m',hm,w10⟩=>wpAny_bind ?_))
     refine sure (mt_append _ s10 _ H10 (.ref s2.heap.objs.size) [z] (.ref s2.heap.objs.size) [y] (fun _ H'=>H'=upd H10 s2.heap.objs.size (.lst (xs++[z]))) I10 rfl (.cons r10 .nil) ⟨_,xs,z,rfl,rfl,hl10,hz,rfl⟩) fun _ s11 ⟨_,H11,I11,_,e11⟩=>?_
     subst e11
     exact wpAny_pure (wpAny_pure ⟨rfl,m',hm,i+1,xs++[z],ow',_,how',I11.unpinned,(again I11).1,(again I11).2,w10⟩)
 exact codeAny_compStart_list (loop _ rfl) (TT.self _ 0 _ _ _ (TT.keep _ _ _ st2 fun b _ o e=>old b o e) (loop _ rfl))
theorem away{X:Cx}{pins:List (Addr×Obj)}{σ:St}{H:Hp}{s:Shared}{C:Addr}{h':Heap}(I:Inv X pins σ H s)(f:FpOk X pins H C)(hs:Heap.SameBut C s.heap h'):Inv X pins σ H {s with heap:=h'}:=
 I.turned (t':=s.toks) (fun b o hb e=>(hs.2 b hb).trans e) f.1 f.2.1 f.2.2.2.1 f.2.2.2.2.1 f.2.2.2.2.2
theorem pe_comp{X:Cx}{elt tg iter:Expr}{ifs:List Expr}{scope:Scope}{pos:Pos}{wi:TI}{own caps:List Str}{js:List Nat}{g:TG}{tc:Nat->TT}{te:Nat->TE}(hc:X.calm=true)(B:BlkScope X scope own caps js)(hi:PI X tg iter wi)
 (hg:∀C s H fp,PG (blk X (own++caps) scope C s H fp) tg g)(ht:∀C s H fp i,PTs (blk X (own++caps) scope C s H fp) ifs (tc i))(he:∀C s H fp i,PE (blk X (own++caps) scope C s H fp) elt (te i))
 (hs:∀x,foldedSetIterable iter X.env x=pure x:=by intro _;rfl):PE X (.ListComp elt [⟨tg,iter,ifs,0⟩] scope pos) (tComp wi own.length js g tc te):=by
 intro pins s σ H Q I h
 rw[eval_ListComp]
 refine wpAny_comprehension_free (use:=none) rfl hs (closure_of (B.cells I.ok)) B.kind B.names (thn (hi pins s σ H _ I h) fun v s1 h1=>thn h1 fun itv s2 h2=>?_)
 refine comp_core (RR:=fun acc C=>compPost (model X.prog X.w) X.A X.xe none (EP X pins σ Q) acc C) hc B hg ht he (fun acc C s' ⟨v,H',I',r,q,⟨m,hm⟩,f⟩=>?_) h2
 exact⟨m,hm,fun h' hs'=>⟨v,H',away I' f hs',r,q⟩⟩
theorem ps_comp{X:Cx}{elt tg iter:Expr}{ifs:List Expr}{scope:Scope}{pos spos py:Pos}{wi:TI}{own caps:List Str}{js:List Nat}{g:TG}{tc:Nat->TT}{te:Nat->TE}{y:Str}{k:Nat}(hN:X.N.Nodup)(hk:X.N[k]? =some y)(hy:Loc X.env.scope y)
 (hc:X.calm=true)(B:BlkScope X scope own caps js)(hi:PI X tg iter wi)
 (hg:∀C s H fp,PG (blk X (own++caps) scope C s H fp) tg g)(ht:∀C s H fp i,PTs (blk X (own++caps) scope C s H fp) ifs (tc i))(he:∀C s H fp i,PE (blk X (own++caps) scope C s H fp) elt (te i))
 (hsw:swapsWith (.ListComp elt [⟨tg,iter,ifs,0⟩] scope pos) (some (.Name y py)) spos.line X.env=pure true)(hf:X.fn y=true\/X.env.scope.names.lookup y=some .local)
 (hs:∀x,foldedSetIterable iter X.env x=pure x:=by intro _;rfl):PS X (.Assign [.Name y py] (.ListComp elt [⟨tg,iter,ifs,0⟩] scope pos) spos) (tAsg (tComp wi own.length js g tc te) (gName k)):=by
 intro pins s σ H D I h
 rw[exec_Assign_Name_used _ _ _ _ hsw]
 refine wpAny_bind (wpAny_standAt (wpAny_bind ?_))
 show wpAny _ X.A (do let _<-comprehension (.ListComp elt [⟨tg,iter,ifs,0⟩] scope pos) scope X.env _ (newList []) false (eval iter X.env) (some (assign (.Name y py) X.env))) _ _ s
 refine wpAny_bind (wpAny_mono (wpAny_comprehension_free (use:=some (assign (.Name y py) X.env)) (Q:=fun _ s'=>SP X pins D .next s') rfl hs (closure_of (B.cells I.ok)) B.kind B.names
  (thn (hi pins s σ H _ I h) fun v s1 h1=>thn h1 fun itv s2 h2=>?_)) (fun _ s' hq=>wpAny_pure (wpAny_pure hq)) fun _ _ e=>e)
 refine comp_core (RR:=fun acc C=>compPost (model X.prog X.w) X.A X.xe (some (assign (.Name y py) X.env)) (fun _ s'=>SP X pins D .next s') acc C) (pins:=pins) (σ:=σ) (Q:=fun v H'=>D.nx (σ.set k (some v)) H') hc B hg ht he (fun acc C s' ⟨v,H',I',r,q,⟨m,hm⟩,f⟩=>?_) h2
 show wpAny _ X.A (assign (.Name y py) X.env acc) _ _ _
 refine wpAny_assign_Name (store_ok2 I' hN hk hy r (fun s'' I'' ⟨a,sb,ha⟩=>?_) hf)
 have hCa:C≠a:=by
  rcases ha with rfl|ha
  . exact f.2.1
  . exact fun z=>f.2.2.2.2.1 y a ha z.symm
 exact⟨m,hm.sameBut sb hCa,fun h' hs'=>⟨_,H',away I'' f hs',q⟩⟩
structure Yields(K:PySem.W.Frag)(J:It)(vs:List V)(srcs ds:List D):Prop where
 go:∀(Z:Zone) H,Z.Open H->Ins K H Z srcs vs->∀(i:Nat) d,ds[i]? =some d->J.go i H/\ ∀x H2,J.yld i H x H2->Same H H2/\In K H2 Z d x
 stop:∀(Z:Zone) H,Z.Open H->Ins K H Z srcs vs->J.stop ds.length H
def tIT(K:PySem.W.Frag)(m:Bool)(ρ:List (Option D))(ds:List D):TI:=fun σ H R=>∃Z:Zone,Z.Open H/\EnvIn K H Z σ ρ/\
 ∀J H' vs srcs,Same H H'->Ins K H' (out m Z H) srcs vs->Yields K J vs srcs ds->R J H'
def IT(X:Cx)(tg:Expr)(m:Bool)(ρ:List (Option D))(iter:Expr)(ds:List D):Prop:=PI X tg iter (tIT X.K m ρ ds)
theorem PI.mono{X:Cx}{tg iter:Expr}{t t':TI}(h:PI X tg iter t)(k:∀σ H R,t' σ H R->t σ H R):PI X tg iter t':=fun pins s σ H R I q=>h pins s σ H R I (k σ H R q)
section
variable{X:Cx}{ρ:List (Option D)}{m m1 m2:Bool}{tg e a b:Expr}{ds:List D}{d:D}{pos p:Pos}
theorem it_list(h:E X m ρ e (.lst ds)):IT X tg m ρ e ds:=PI.mono (pi_list h) fun σ H R z0=>el13 z0 fun Z oz en k=>⟨Z,oz,en,fun v H1 s1 i1=>by
 obtain⟨a,xs,rfl,l,j⟩:=in_lst.mp i1
 refine⟨a,rfl,⟨xs,l.sq⟩,k _ H1 [.ref a] [.lst ds] s1 (Ins.one i1) ⟨fun Z2 H2 o2 j2 i d e=>?_,fun Z2 H2 o2 j2=>?_⟩⟩
 . obtain⟨w,r,e1,j3,j4⟩:=ins_cons.mp j2
   cases e1
   obtain⟨a',ys,e2,l2,j5⟩:=in_lst.mp j3
   cases e2
   obtain⟨v,e3,iv⟩:=j5.get e
   refine⟨⟨ys,v,l2.sq,e3⟩,fun x H3 ⟨e4,y⟩=>?_⟩
   subst e4
   have:=y ys l2.sq
   rw[e3]at this
   cases this
   exact⟨Same.refl _,iv⟩
 . obtain⟨w,r,e1,j3,j4⟩:=ins_cons.mp j2
   cases e1
   obtain⟨a',ys,e2,l2,j5⟩:=in_lst.mp j3
   cases e2
   exact⟨ys,l2.sq,Nat.le_of_eq j5.length.symm⟩⟩
def rangeD(lo:Int)(n:Nat):List D:=(List.range n).map fun i=>D.int (lo+(i:Nat))
theorem rangeD_get{lo:Int}{n i:Nat}{d:D}(h:(rangeD lo n)[i]? =some d):i<n/\d=.int (lo+i):=by
 unfold rangeD at h
 rw[getElem?_map]at h
 by_cases hi:i<n
 . rw[List.getElem?_range hi]at h
   exact⟨hi,by simpa using h.symm⟩
 . rw[List.getElem?_eq_none (by simpa using hi)]at h
   cases h
theorem rangeD_len{lo:Int}{n:Nat}:(rangeD lo n).length=n:=by simp[rangeD]
theorem yields_range{K:PySem.W.Frag}(lo:Int)(n:Nat):Yields K (Itr lo n) [] [] (rangeD lo n):=
 ⟨fun Z H _ _ i d e=>by
  obtain⟨hi,rfl⟩:=rangeD_get e
  refine⟨hi,fun x H2 ⟨e1,e2⟩=>?_⟩
  subst e1 e2
  exact⟨Same.refl _,in_int.mpr rfl⟩,fun Z H _ _=>by rw[rangeD_len];exact Nat.le_refl n⟩
theorem it_range{n:Int}(h:E X m1 ρ a (.int n))(hn:n<2^62)(hn2: -(2^62)<=n)(hm:X.mg "range"=none)(hg:Gl X "range":=by rfl)(hs:starEach [a] X.env=[(false,eval a X.env)]:=by rfl):
 IT X tg m ρ (.Call (.Name "range" p) [a] [] pos) (rangeD 0 n.toNat):=
 PI.mono (pi_range1 hg hm (pa_cons h pa_nil (by rw[hs];rfl)) hs) fun σ H R z0=>el13 z0 fun Z oz en k=>⟨Z,oz,en,fun v H1 s1 i1=>⟨n,by rw[in_int.mp (i1.plain oz)],hn2,hn,k _ H1 [] [] s1 (ins_nil.mpr rfl) (yields_range 0 n.toNat)⟩⟩
def Its(z:Str):It:=⟨fun i _=>i<z.cps.size,fun i H x H'=>H'=H/\ ∃c,z.cps[i]? =some c/\x=.str ⟨#[c]⟩,fun i _=>z.cps.size<=i⟩
theorem turn_ascii{P:Program}{w:World}{K:PySem.W.Frag}{tg:Expr}(it:Addr)(z:Str)(t:Tok):Turn P w K tg (Its z) [it] it (fun i h=>h.IsStrIter it "str_ascii_iterator" z t i) where
 mem:=by simp
 obj:=fun i h st b hb=>by
  have e:b=it:=by simpa using hb
  subst e
  obtain⟨o,e,c,d⟩:=st
  exact⟨o,e,fun v z=>by rw[d]at z;cases z⟩
 keep:=fun i h h' st k=>let⟨o,ho,r⟩:=st;⟨o,k it (by simp) o ho,r⟩
 item:=by
  intro X hP hw hK hc i pins s σ H E I hf st hg
  subst hP hw hK
  obtain⟨f0,f1,f2,f3,f4,f5⟩:=hf it (by simp)
  have hg:i<z.cps.size:=hg
  refine wpAny_pyNext_ascii_item st (c:=z.cps[i]) (by simp[hg]) fun h' st' sb=>?_
  have I1:Inv X pins σ H {s with heap:=h',toks:=s.toks+1}:=I.turned (t':=s.toks+1) (fun b o hb e=>(sb.2 b hb).trans e) f0 f1 f3 f4 f5
  obtain⟨o,e,c,d⟩:=id st'
  exact⟨_,rfl,go_of (s:={s with heap:=h',toks:=s.toks+1}) e c d (by decide) ⟨.str ⟨#[z.cps[i]]⟩,H,I1,⟨_,rfl⟩,⟨rfl,z.cps[i],by simp[hg],rfl⟩,st',fun b hb=>(hf b hb).1⟩⟩
 done:=by
  intro X hP hw hK hc i pins s σ H E I hf st hg
  subst hP hw hK
  obtain⟨f0,f1,f2,f3,f4,f5⟩:=hf it (by simp)
  have hg:z.cps.size<=i:=hg
  exact wpAny_pyNext_ascii_end (I.ok.hd hc) st (by simp[hg]) fun h' eb=>⟨rfl,I.turned (t':=s.toks) (fun b o hb e=>eb b o hb e) f0 f1 f3 f4 f5⟩
 self:=fun _ _ _ _ _ st h=>wpAny_pyIter_striter_ascii st h
theorem turn_wide{P:Program}{w:World}{K:PySem.W.Frag}{tg:Expr}(it:Addr)(z:Str)(t:Tok):Turn P w K tg (Its z) [it] it (fun i h=>h.IsStrIter it "str_iterator" z t i) where
 mem:=by simp
 obj:=fun i h st b hb=>by
  have e:b=it:=by simpa using hb
  subst e
  obtain⟨o,e,c,d⟩:=st
  exact⟨o,e,fun v z=>by rw[d]at z;cases z⟩
 keep:=fun i h h' st k=>let⟨o,ho,r⟩:=st;⟨o,k it (by simp) o ho,r⟩
 item:=by
  intro X hP hw hK hc i pins s σ H E I hf st hg
  subst hP hw hK
  obtain⟨f0,f1,f2,f3,f4,f5⟩:=hf it (by simp)
  have hg:i<z.cps.size:=hg
  refine wpAny_pyNext_wide_item st (c:=z.cps[i]) (by simp[hg]) fun h' st' sb=>?_
  have I1:Inv X pins σ H {s with heap:=h',toks:=s.toks+1}:=I.turned (t':=s.toks+1) (fun b o hb e=>(sb.2 b hb).trans e) f0 f1 f3 f4 f5
  obtain⟨o,e,c,d⟩:=id st'
  exact⟨_,rfl,go_of (s:={s with heap:=h',toks:=s.toks+1}) e c d (by decide) ⟨.str ⟨#[z.cps[i]]⟩,H,I1,⟨_,rfl⟩,⟨rfl,z.cps[i],by simp[hg],rfl⟩,st',fun b hb=>(hf b hb).1⟩⟩
 done:=by
  intro X hP hw hK hc i pins s σ H E I hf st hg
  subst hP hw hK
  obtain⟨f0,f1,f2,f3,f4,f5⟩:=hf it (by simp)
  have hg:z.cps.size<=i:=hg
  exact wpAny_pyNext_wide_end (I.ok.hd hc) st (by simp[hg]) fun h' eb=>⟨rfl,I.turned (t':=s.toks) (fun b o hb e=>eb b o hb e) f0 f1 f3 f4 f5⟩
 self:=fun _ _ _ _ _ st h=>wpAny_pyIter_striter_wide st h
def iStr(tl:TE):TI:=fun σ H R=>tl σ H fun x H1=>∃z,x=.str z/\R (Its z) H1
theorem pi_str{tl:TE}(hl:PE X e tl):PI X tg e (iStr tl):=by
 intro pins s σ H R I h
 refine thn (hl pins s σ H _ I h) fun v s1 ⟨x,H1,I1,r1,q1⟩=>?_
 obtain⟨z,rfl,q⟩:=q1
 obtain⟨t,rfl⟩:=r1
 have fp:∀b∈[s1.heap.objs.size],FpOk X pins H1 b:=fun b hb=>by
  have e:b=s1.heap.objs.size:=by simpa using hb
  subst e
  exact I1.fpOk (Nat.le_refl _) (I1.hok.fresh (Nat.le_refl _))
 cases ha:z.cps.all (· <128)
 . exact wpAny_pyIter_wide ha ⟨s1.heap.objs.size,[s1.heap.objs.size],_,_,H1,rfl,I1.kept (t':=s1.toks) fun b o e=>get?_push_of_some _ e,turn_wide _ z t,⟨_,get?_push_size _ rfl,rfl,rfl⟩,fp,q⟩
 . exact wpAny_pyIter_ascii ha ⟨s1.heap.objs.size,[s1.heap.objs.size],_,_,H1,rfl,I1.kept (t':=s1.toks) fun b o e=>get?_push_of_some _ e,turn_ascii _ z t,⟨_,get?_push_size _ rfl,rfl,rfl⟩,fp,q⟩
def signsD(z:Str):List D:=z.cps.toList.map fun c=>D.str ⟨#[c]⟩
theorem it_str{z:Str}(h:E X m1 ρ e (.str z)):IT X tg m ρ e (signsD z):=PI.mono (pi_str h) fun σ H R z0=>el13 z0 fun Z oz en k=>⟨Z,oz,en,fun v H1 s1 i1=>by
 refine⟨z,in_str.mp (i1.plain oz),k _ H1 [] [] s1 (ins_nil.mpr rfl) ⟨fun Z2 H2 o2 j2 i d e=>?_,fun Z2 H2 o2 j2=>?_⟩⟩
 . unfold signsD at e
   rw[getElem?_map]at e
   cases q:z.cps.toList[i]? with
   |none=>rw[q]at e;cases e
   |some c=>
    rw[q]at e
    have e':D.str ⟨#[c]⟩=d:=by simpa using e
    subst e'
    have hi:i<z.cps.size:=by simpa using(List.getElem?_eq_some_iff.mp q).1
    refine⟨hi,fun x H3 ⟨e1,c',e2,e3⟩=>?_⟩
    subst e1 e3
    have:c'=c:=by
     have q':z.cps[i]? =some c:=by simpa using q
     rw[q']at e2
     exact(Option.some.inj e2).symm
    subst this
    exact⟨Same.refl _,in_str.mpr rfl⟩
 . show z.cps.size<=(signsD z).length
   simp[signsD]⟩
def TS'(X:Cx)(ρ:List (Option D))(ifs:List Expr)(b:Bool):Prop:=PTs X ifs (tB' X.K ρ b)
theorem ts_nil:TS' X ρ [] true:=fun pins s σ H Q I z0=>el13 z0 fun Z oz en k=>pts_nil pins s σ H Q I (k H (Same.refl H))
theorem ts_one{p:Bool}(h:T X ρ e p):TS' X ρ [e] p:=pts_one h
def capD(js:List Nat)(ρ:List (Option D)):List (Option D):=js.map fun j=>(ρ[j]?).join
theorem envIn_caps{K:PySem.W.Frag}{H:Hp}{Z:Zone}{σ:St}{js:List Nat}(en:EnvIn K H Z σ ρ){ow:St}{ov:List (Option D)}(hl:ow.length=ov.length)(h:∀(i:Nat) d,ov[i]? =some (some d)->∃v,ow[i]? =some (some v)/\In K H Z d v):
 EnvIn K H Z (ow++capsOf js σ) (ov++capD js ρ):=fun i d e=>by
 by_cases hi:i<ov.length
 . rw[getElem?_append_left hi]at e
   rw[getElem?_append_left (by omega)]
   exact let⟨v,a,b⟩:=h i d e;⟨v,a,b.top⟩
 . rw[getElem?_append_right (by omega)]at e
   rw[getElem?_append_right (by omega),hl]
   unfold capD at e
   unfold capsOf
   rw[getElem?_map]at e⊢
   cases q:js[i-ov.length]? with
   |none=>rw[q]at e;cases e
   |some j=>
    rw[q]at e
    have e:(ρ[j]?).join=some d:=by simpa using e
    have e':ρ[j]? =some (some d):=by
     cases z:ρ[j]? with
     |none=>rw[z]at e;cases e
     |some w=>rw[z]at e;simpa using e
    obtain⟨v,a,b⟩:=en j d e'
    exact⟨v,by simp[a],b⟩
def tcD(K:PySem.W.Frag)(js:List Nat)(ρ:List (Option D))(ds:List D)(p:D->Bool)(i:Nat):TT:=fun σ H Q=>∃d,ds[i]? =some d/\tB' K ([some d]++capD js ρ) (p d) σ H Q
def teD(K:PySem.W.Frag)(js:List Nat)(ρ:List (Option D))(ds:List D)(p:D->Bool)(f:D->D)(me:Bool)(i:Nat):TE:=fun σ H Q=>∃d,ds[i]? =some d/\p d=true/\tE K me ([some d]++capD js ρ) (f d) σ H Q
theorem comp_reads{js:List Nat}{me:Bool}(p:D->Bool)(f:D->D)(hz:ds.length<=sizeLine)(hm:m=true->me=true\/ ∀d∈ds,(f d).flat=true)(σ:St)(H:Hp)(Q:VK)(h:tE X.K m ρ (.lst ((ds.filter p).map f)) σ H Q):
 tComp (tIT X.K m1 ρ ds) 1 js (gName 0) (tcD X.K js ρ ds p) (teD X.K js ρ ds p f me) σ H Q:=by
 obtain⟨Z,oz,en,k⟩:=h
 refine⟨Z,oz,en,fun J H1 vs srcs s1 i1 Y l hl=>?_⟩
 have hlH:H l=none:=s1.free hl
 --all zones without l
 have noL:∀{ds:List D} {vs:List V} {Z':Zone} {Ha Hb:Hp},Ha l=none->Same Ha Hb->Ins X.K Ha Z' ds vs->Ins X.K Hb ⟨Z'.m,fun a=>Z'.S a/\a≠l⟩ ds vs:=fun{ds vs Z' Ha Hb} ha sa h=>Ins.carry (Z':=⟨Z'.m,fun a=>Z'.S a/\a≠l⟩) (Carry.of sa (fun a zs e z=>⟨z,ne_of_none e ha⟩) fun m=>m) h
 have noL1:∀{d:D} {v:V} {Z':Zone} {Ha Hb:Hp},Ha l=none->Same Ha Hb->In X.K Ha Z' d v->In X.K Hb ⟨Z'.m,fun a=>Z'.S a/\a≠l⟩ d v:=fun{d v Z' Ha Hb} ha sa h=>In.carry (Z':=⟨Z'.m,fun a=>Z'.S a/\a≠l⟩) (Carry.of sa (fun a zs e z=>⟨z,ne_of_none e ha⟩) fun m=>m) h
 refine⟨fun i n xs H'=>n=ds.length-i/\i<=ds.length/\Same H1 H'/\H' l=some (.lst xs)/\xs.length<=i/\Ins X.K H' ⟨(out m Z H).m,fun a=>(out m Z H).S a/\a≠l⟩ (((ds.take i).filter p).map f) xs,⟨ds.length,by simp,Nat.zero_le _,same_new hl,upd_same,Nat.zero_le _,by simp;exact ins_nil.mpr rfl⟩,?_⟩
 rintro i n xs H' ow how ⟨rfl,hi',s1',hl',hxi,jx⟩
 refine⟨hl',?_⟩
 have srcsZ:Ins X.K H1 Z srcs vs:=by
  cases m1
  . exact i1
  . exact i1.up oz
 let Zl:Zone:=⟨Z.m,fun a=>Z.S a/\a≠l⟩
 have opl:∀{Ha:Hp} {o:HO},Same H Ha->Ha l=some o->Zl.Open Ha:=fun sa e=>⟨fun a ha=>⟨oz.op a (sa.free ha),by rintro rfl;rw[e]at ha;cases ha⟩,sa.tabs oz.tb⟩
 by_cases hlt:i<ds.length
 . have hd:ds[i]? =some ds[i]:=by simp[hlt]
   obtain⟨go,yl⟩:=Y.go Zl H' (opl (s1.trans s1') hl') (noL hl s1' srcsZ) i ds[i] hd
   refine .inr ⟨go,fun y H2 hy=>?_⟩
   obtain⟨s2,iy⟩:=yl y H2 hy
   have hl2:H2 l=some (.lst xs):=s2.at hl'
   have sH2:Same H H2:=(s1.trans s1').trans s2
   obtain⟨w,rfl⟩:∃w,ow=[w]:=by
    match ow,how with
    |[w],_=>exact⟨w,rfl⟩
   have en2:EnvIn X.K H2 Zl ([some y]++capsOf js σ) ([some ds[i]]++capD js ρ):=envIn_caps (fun i d e=>let⟨v,a,b⟩:=en i d e;⟨v,a,InT.carry (Z':=Zl) (Carry.of sH2 (fun a zs e z=>⟨z,ne_of_none e hlH⟩) fun m=>m) b⟩) rfl fun i d e=>by
    match i,e with
    |0,e=>cases e;exact⟨y,rfl,iy⟩
   refine⟨⟨[some y],rfl,rfl⟩,ds[i],hd,Zl,opl sH2 hl2,en2,fun H3 s3=>?_⟩
   have hl3:H3 l=some (.lst xs):=s3.at hl2
   have st:(ds.take (i+1)).filter p=(ds.take i).filter p++(if p ds[i]then[ds[i]]else[]):=take_succ_filter p ds i ds[i] hd
   cases hp:p ds[i]with
   |false=>
    refine iteF ?_
    refine⟨ds.length-(i+1),by omega,rfl,hlt,(s1'.trans s2).trans s3,hl3,by omega,?_⟩
    rw[st,hp]
    simp only[Bool.false_eq_true,if_false,append_nil]
    exact jx.same (s2.trans s3)
   |true=>
    refine iteT ?_
    refine⟨ds[i],hd,hp,Zl,opl (sH2.trans s3) hl3,en2.same s3,fun v H4 s4 iv=>?_⟩
    have hl4:H4 l=some (.lst xs):=s4.at hl3
    refine⟨hl4,by omega,ds.length-(i+1),by omega,rfl,hlt,((s1'.trans s2).trans (s3.trans s4)).write hl hl4,upd_same,by rw[List.length_append];simp;omega,?_⟩
    . rw[st,hp]
      simp only[if_true,map_append,map_cons,map_nil]
      have n:¬(⟨(out m Z H).m,fun a=>(out m Z H).S a/\a≠l⟩:Zone).S l:=fun z=>z.2 rfl
      refine Ins.append ((jx.same (s2.trans (s3.trans s4))).carry (.write hl4 n)) (Ins.one ?_)
      refine In.carry (.write hl4 n) ?_
      cases m with
      |false=>exact iv.plain (opl (sH2.trans s3) hl3)
      |true=>
       rcases hm rfl with h|h
       . subst h
         exact In.carry (Z:=nw H3) (Z':=⟨true,fun a=>H a=none/\a≠l⟩) ⟨fun a zs e z=>⟨e,(sH2.trans s3).free z,by rintro rfl;have z:H3 a=none:=z;rw[hl3]at z;cases z⟩,fun m=>nwF m,fun _ _ e=>e⟩ iv
       . exact iv.flat' (h _ (getElem_mem hlt))
 . have e:i=ds.length:=by omega
   subst e
   refine .inl ⟨Y.stop Zl H' (opl (s1.trans s1') hl') (noL hl s1' srcsZ),k (.ref l) H' (s1.trans s1') (in_lst.mpr ⟨l,xs,rfl,.inl ⟨hl',?_⟩,?_⟩)⟩
   . cases m
     . exact oz l hlH
     . exact hlH
   . rw[take_length]at jx
     exact Ins.carry (Z:=⟨(out m Z H).m,fun a=>(out m Z H).S a/\a≠l⟩) (Z':=out m Z H) (Carry.of (Same.refl H') (fun a zs e z=>And.left z) fun m=>m) jx
structure EC(X:Cx)(m:Bool)(ρ:List (Option D))(e:Expr)(d:D):Prop where
 val:E X m ρ e d
 s:∀(y:Str) (k:Nat) (spos py:Pos),X.N.Nodup->X.N[k]? =some y->Loc X.env.scope y->swapsWith e (some (.Name y py)) spos.line X.env=pure true->(X.fn y=true\/X.env.scope.names.lookup y=some .local)->PS X (.Assign [.Name y py] e spos) (tAsg (tE X.K m ρ d) (gName k))
theorem EC.cast{d':D}(h:EC X m ρ e d)(q:d=d'):EC X m ρ e d':=q▸h
theorem PS.mono'{X:Cx}{st:Stmt}{t t':TS}(h:PS X st t)(k:∀Q σ H,t' Q σ H->t Q σ H):PS X st t':=fun pins s σ H Q I q=>h pins s σ H Q I (k Q σ H q)
theorem ec_comp{elt iter:Expr}{x:Str}{px:Pos}{ifs:List Expr}{scope:Scope}{me:Bool}(caps:List Str)(js:List Nat)(p:D->Bool)(f:D->D)(hi:IT X (.Name x px) m1 ρ iter ds)
 (ht:∀C s H fp d,d∈ds->TS' (blk X ([x]++caps) scope C s H fp) ([some d]++capD js ρ) ifs (p d))(he:∀C s H fp d,d∈ds->p d=true->E (blk X ([x]++caps) scope C s H fp) me ([some d]++capD js ρ) elt (f d))
 (hz:ds.length<=sizeLine)(hm:m=true->me=true\/ ∀d∈ds,(f d).flat=true:=by intro h;first|exact .inl h|cases h)(hc:X.calm=true:=by rfl)
 (B:BlkScope X scope [x] caps js:=by exact⟨rfl,by decide,by decide,by decide,by decide,by decide,by repeat (first|exact trivial|refine⟨⟨rfl,by first|exact .inl rfl|exact .inr rfl⟩,?_⟩),by decide⟩)
 (hs:∀x,foldedSetIterable iter X.env x=pure x:=by intro _;rfl):EC X m ρ (.ListComp elt [⟨.Name x px,iter,ifs,0⟩] scope pos) (.lst ((ds.filter p).map f)):=by
 have hg:∀C s H fp,PG (blk X ([x]++caps) scope C s H fp) (.Name x px) (gName 0):=fun C s H fp=>pg_name (i:=0) B.nd rfl (.inl (lookup_relabel_local (B.own x (by simp)))) (.inr (lookup_relabel_local (B.own x (by simp))))
 have ht':∀C s H fp i,PTs (blk X ([x]++caps) scope C s H fp) ifs (tcD X.K js ρ ds p i):=fun C s H fp i pins s' σ H' Q I h=>by
  obtain⟨d,hd,h⟩:=h
  exact ht C s H fp d (mem_of_getElem? hd) pins s' σ H' Q I h
 have he':∀C s H fp i,PE (blk X ([x]++caps) scope C s H fp) elt (teD X.K js ρ ds p f me i):=fun C s H fp i pins s' σ H' Q I h=>by
  obtain⟨d,hd,hp,h⟩:=h
  exact he C s H fp d (mem_of_getElem? hd) hp pins s' σ H' Q I h
 refine⟨PE.mono (pe_comp (own:=[x]) (caps:=caps) hc B hi hg ht' he' hs) fun σ H Q h=>comp_reads p f hz hm σ H Q h,fun y k spos py hN hk hy hsw hf=>?_⟩
 exact PS.mono' (ps_comp (own:=[x]) (caps:=caps) hN hk hy hc B hi hg ht' he' hsw hf hs) fun Q σ H h=>comp_reads p f hz hm σ H _ h
theorem e_comp{elt iter:Expr}{x:Str}{px:Pos}{ifs:List Expr}{scope:Scope}{me:Bool}(caps:List Str)(js:List Nat)(p:D->Bool)(f:D->D)(hi:IT X (.Name x px) m1 ρ iter ds)
 (ht:∀C s H fp d,d∈ds->TS' (blk X ([x]++caps) scope C s H fp) ([some d]++capD js ρ) ifs (p d))(he:∀C s H fp d,d∈ds->p d=true->E (blk X ([x]++caps) scope C s H fp) me ([some d]++capD js ρ) elt (f d))
 (hz:ds.length<=sizeLine)(hm:m=true->me=true\/ ∀d∈ds,(f d).flat=true:=by intro h;first|exact .inl h|cases h)(hc:X.calm=true:=by rfl)
 (B:BlkScope X scope [x] caps js:=by exact⟨rfl,by decide,by decide,by decide,by decide,by decide,by repeat (first|exact trivial|refine⟨⟨rfl,by first|exact .inl rfl|exact .inr rfl⟩,?_⟩),by decide⟩)
 (hs:∀x,foldedSetIterable iter X.env x=pure x:=by intro _;rfl):E X m ρ (.ListComp elt [⟨.Name x px,iter,ifs,0⟩] scope pos) (.lst ((ds.filter p).map f)):=(ec_comp caps js p f hi ht he hz hm hc B hs).val
theorem ec_map{elt iter:Expr}{x:Str}{px:Pos}{scope:Scope}{me:Bool}(caps:List Str)(js:List Nat)(f:D->D)(hi:IT X (.Name x px) m1 ρ iter ds)
 (he:∀C s H fp d,d∈ds->E (blk X ([x]++caps) scope C s H fp) me ([some d]++capD js ρ) elt (f d))(hz:ds.length<=sizeLine)(hm:m=true->me=true\/ ∀d∈ds,(f d).flat=true:=by intro h;first|exact .inl h|cases h)(hc:X.calm=true:=by rfl)
 (B:BlkScope X scope [x] caps js:=by exact⟨rfl,by decide,by decide,by decide,by decide,by decide,by repeat (first|exact trivial|refine⟨⟨rfl,by first|exact .inl rfl|exact .inr rfl⟩,?_⟩),by decide⟩)
 (hs:∀x,foldedSetIterable iter X.env x=pure x:=by intro _;rfl):EC X m ρ (.ListComp elt [⟨.Name x px,iter,[],0⟩] scope pos) (.lst (ds.map f)):=by
 have h:=ec_comp (m:=m) (pos:=pos) caps js (fun _=>true) f hi (fun C s H fp d hd=>ts_nil) (fun C s H fp d hd _=>he C s H fp d hd) hz hm hc B hs
 rwa [List.filter_eq_self.mpr fun _ _=>rfl]at h
theorem e_map{elt iter:Expr}{x:Str}{px:Pos}{scope:Scope}{me:Bool}(caps:List Str)(js:List Nat)(f:D->D)(hi:IT X (.Name x px) m1 ρ iter ds)
 (he:∀C s H fp d,d∈ds->E (blk X ([x]++caps) scope C s H fp) me ([some d]++capD js ρ) elt (f d))(hz:ds.length<=sizeLine)(hm:m=true->me=true\/ ∀d∈ds,(f d).flat=true:=by intro h;first|exact .inl h|cases h)(hc:X.calm=true:=by rfl)
 (B:BlkScope X scope [x] caps js:=by exact⟨rfl,by decide,by decide,by decide,by decide,by decide,by repeat (first|exact trivial|refine⟨⟨rfl,by first|exact .inl rfl|exact .inr rfl⟩,?_⟩),by decide⟩)
 (hs:∀x,foldedSetIterable iter X.env x=pure x:=by intro _;rfl):E X m ρ (.ListComp elt [⟨.Name x px,iter,[],0⟩] scope pos) (.lst (ds.map f)):=by
 have h:=e_comp (m:=m) (pos:=pos) caps js (fun _=>true) f hi (fun C s H fp d hd=>ts_nil) (fun C s H fp d hd _=>he C s H fp d hd) hz hm hc B hs
 rwa [List.filter_eq_self.mpr fun _ _=>rfl]at h
end
mutual
def Tr(K:PySem.W.Frag)(H:Hp):D->V->List Addr->Prop
 |.lst ds,v,as=>∃a xs bs,v=.ref a/\as=a::bs/\H a=some (.lst xs)/\Trs K H ds xs bs
 |.tup ds,v,as=>∃a xs,v=.ref a/\H a=some (.tup xs)/\Trs K H ds xs as
 |.non,v,as=>as=[]/\v=.non
 |.bl b,v,as=>as=[]/\v=.bl b
 |.int i,v,as=>as=[]/\v=.int i
 |.str x,v,as=>as=[]/\v=.str x
 |.dct _,_,_=>False
 |.agg _ _,_,_=>False
 |.ktup ks,v,as=>as=[]/\ ∃a,v=.ref a/\KTup K a ks
def Trs(K:PySem.W.Frag)(H:Hp):List D->List V->List Addr->Prop
 |[],xs,as=>xs=[]/\as=[]
 |d::ds,xs,as=>∃v r bs cs,xs=v::r/\as=bs++cs/\Tr K H d v bs/\Trs K H ds r cs
end
section
variable{K:PySem.W.Frag}{H H':Hp}{Z:Zone}
theorem tr_lst{ds:List D}{v:V}{as:List Addr}:Tr K H (.lst ds) v as↔ ∃a xs bs,v=.ref a/\as=a::bs/\H a=some (.lst xs)/\Trs K H ds xs bs:=by unfold Tr;exact Iff.rfl
theorem tr_tup{ds:List D}{v:V}{as:List Addr}:Tr K H (.tup ds) v as↔ ∃a xs,v=.ref a/\H a=some (.tup xs)/\Trs K H ds xs as:=by unfold Tr;exact Iff.rfl
theorem trs_nil{xs:List V}{as:List Addr}:Trs K H [] xs as↔xs=[]/\as=[]:=by unfold Trs;exact Iff.rfl
theorem trs_cons{d:D}{ds:List D}{xs:List V}{as:List Addr}:Trs K H (d::ds) xs as↔ ∃v r bs cs,xs=v::r/\as=bs++cs/\Tr K H d v bs/\Trs K H ds r cs:=by
 constructor
 . intro h;unfold Trs at h;exact h
 . intro h;unfold Trs;exact h
mutual
theorem Tr.carry(t:∀a (xs:List V),H a=some (.tup xs)->H' a=some (.tup xs)):∀{d:D} {v:V} {as:List Addr},(∀a (xs:List V),a∈as->H a=some (.lst xs)->H' a=some (.lst xs))->Tr K H d v as->Tr K H' d v as
 |.non,_,_,_,h=>by unfold Tr at h⊢;exact h
 |.bl _,_,_,_,h=>by unfold Tr at h⊢;exact h
 |.int _,_,_,_,h=>by unfold Tr at h⊢;exact h
 |.str _,_,_,_,h=>by unfold Tr at h⊢;exact h
 |.dct _,_,_,_,h=>by unfold Tr at h;exact h.elim
 |.agg _ _,_,_,_,h=>by unfold Tr at h;exact h.elim
 |.ktup _,_,_,_,h=>by unfold Tr at h⊢;exact h
 |.lst ds,_,_,k,h=>by
  obtain⟨a,xs,bs,e,rfl,ha,i⟩:=tr_lst.mp h
  exact tr_lst.mpr ⟨a,xs,bs,e,rfl,k a xs mem_cons_self ha,Trs.carry t (fun b ys hb=>k b ys (mem_cons_of_mem _ hb)) i⟩
 |.tup ds,_,_,k,h=>by
  obtain⟨a,xs,e,ha,i⟩:=tr_tup.mp h
  exact tr_tup.mpr ⟨a,xs,e,t a xs ha,Trs.carry t k i⟩
theorem Trs.carry(t:∀a (xs:List V),H a=some (.tup xs)->H' a=some (.tup xs)):∀{ds:List D} {vs:List V} {as:List Addr},(∀a (xs:List V),a∈as->H a=some (.lst xs)->H' a=some (.lst xs))->Trs K H ds vs as->Trs K H' ds vs as
 |[],_,_,_,h=>trs_nil.mpr (trs_nil.mp h)
 |d::ds,_,_,k,h=>by
  obtain⟨v,r,bs,cs,e,rfl,i,j⟩:=trs_cons.mp h
  exact trs_cons.mpr ⟨v,r,bs,cs,e,rfl,Tr.carry t (fun b ys hb=>k b ys (List.mem_append_left _ hb)) i,Trs.carry t (fun b ys hb=>k b ys (mem_append_right _ hb)) j⟩
end
mutual
theorem Tr.inn:∀{d:D} {v:V} {as:List Addr},(∀a∈as,Z.S a)->Tr K H d v as->In K H Z d v
 |.non,_,_,_,h=>by unfold Tr at h;exact in_non.mpr h.2
 |.bl _,_,_,_,h=>by unfold Tr at h;exact in_bl.mpr h.2
 |.int _,_,_,_,h=>by unfold Tr at h;exact in_int.mpr h.2
 |.str _,_,_,_,h=>by unfold Tr at h;exact in_str.mpr h.2
 |.dct _,_,_,_,h=>by unfold Tr at h;exact h.elim
 |.agg _ _,_,_,_,h=>by unfold Tr at h;exact h.elim
 |.ktup _,_,_,_,h=>by unfold Tr at h;exact in_ktup.mpr h.2
 |.lst ds,_,_,k,h=>by
  obtain⟨a,xs,bs,e,rfl,ha,i⟩:=tr_lst.mp h
  exact in_lst.mpr ⟨a,xs,e,.inl ⟨ha,k a mem_cons_self⟩,Trs.inn (fun b hb=>k b (mem_cons_of_mem _ hb)) i⟩
 |.tup ds,_,_,k,h=>by
  obtain⟨a,xs,e,ha,i⟩:=tr_tup.mp h
  exact in_tup.mpr ⟨a,xs,e,ha,Trs.inn k i⟩
theorem Trs.inn:∀{ds:List D} {vs:List V} {as:List Addr},(∀a∈as,Z.S a)->Trs K H ds vs as->Ins K H Z ds vs
 |[],_,_,_,h=>ins_nil.mpr (trs_nil.mp h).1
 |d::ds,_,_,k,h=>by
  obtain⟨v,r,bs,cs,e,rfl,i,j⟩:=trs_cons.mp h
  exact ins_cons.mpr ⟨v,r,e,Tr.inn (fun b hb=>k b (List.mem_append_left _ hb)) i,Trs.inn (fun b hb=>k b (mem_append_right _ hb)) j⟩
end
end
structure Fn where
 m:Bool
 Z:Zone
 H:Hp
def zn(F:Fn)(O:Addr->Prop)(fr:Bool):Zone:=if fr then⟨true,fun a=>F.H a=none/\ ¬O a⟩else⟨F.Z.m,fun a=>F.Z.S a/\ ¬O a⟩
def vz(F:Fn)(O:Addr->Prop)(ow fr:Bool):Zone:=if ow then(if fr then nw F.H else F.Z)else zn F O fr
structure SP where
 p:PySem.W.Frag->Fn->Hp->(Addr->Prop)->List Addr->V->Prop
 vw:Bool->Bool->Option D
 carry:∀{K:PySem.W.Frag} {F:Fn} {H H':Hp} {O O':Addr->Prop} {mine:List Addr} {v:V},p K F H O mine v->(∀a (xs:MO),a∈mine->H a=some xs.ho->H' a=some xs.ho)->(∀fr,Carry K H (zn F O fr) H' (zn F O' fr))->p K F H' O' mine v
 env:∀{K:PySem.W.Frag} {F:Fn} {H:Hp} {O:Addr->Prop} {mine:List Addr} {v:V} {ow fr:Bool} {d:D},F.Z.Open F.H->(ow=true->∀a∈mine,(vz F O ow fr).S a)->p K F H O mine v->vw ow fr=some d->InT K H (vz F O ow fr) d v
inductive Slot where
 |pl(fr:Bool)(d:D)
 |ow(fr:Bool)(ds:List D)
 |ow2(fr:Bool)(dss:List (List D))
 |oa(d:D)
 |sh(p:D->Prop)
 |owl(l:Addr)(fr:Bool)(ds:List D)
 |od(o:DO)
 |rf(v:V)
 |tr(d:D)
 |trl(u:V)(d:D)
 |gen(q:SP)
abbrev Rho:=List (Option Slot)
def RowsAt(K:PySem.W.Frag)(H:Hp)(Z:Zone)(dss:List (List D))(as:List Addr):Prop:=Paired (fun ds a=>∃xs,H a=some (.lst xs)/\Ins K H Z ds xs) dss as
def SlotIn(K:PySem.W.Frag)(F:Fn)(H:Hp)(O:Addr->Prop)(mine:List Addr)(v:V):Slot->Prop
 |.pl fr d=>In K H (zn F O fr) d v
 |.ow fr ds=>∃l xs,mine=[l]/\v=.ref l/\H l=some (.lst xs)/\Ins K H (zn F O fr) ds xs
 |.ow2 fr dss=>∃l as,mine=l::as/\v=.ref l/\H l=some (.lst (as.map V.ref))/\RowsAt K H (zn F O fr) dss as
 |.oa d=>In K H ⟨true,fun a=>a∈mine⟩ d v
 |.sh p=>∃d,p d/\In K H ⟨true,fun a=>a∈mine⟩ d v
 |.owl l fr ds=>∃xs,mine=[l]/\v=.ref l/\H l=some (.lst xs)/\Ins K H (zn F O fr) ds xs
 |.od o=>∃l,mine=[l]/\v=.ref l/\H l=some o.ho
 |.rf u=>v=u
 |.tr d=>Tr K H d v mine
 |.trl u d=>v=u/\Tr K H d v mine
 |.gen q=>q.p K F H O mine v
abbrev Owned(A:Nat->List Addr)(a:Addr):Prop:=∃j,a∈A j
structure StIn(K:PySem.W.Frag)(F:Fn)(H:Hp)(vs:St)(ρ:Rho)(A:Nat->List Addr):Prop where
 same:Same F.H H
 opn:F.Z.Open F.H
 nd:∀i,(A i).Nodup
 one:∀i j a,a∈A i->a∈A j->i=j
 new:∀i a,a∈A i->F.H a=none
 lst:∀i a,a∈A i->∃xs:MO,H a=some xs.ho
 at':∀(i:Nat) sl,ρ[i]? =some (some sl)->∃v,vs[i]? =some (some v)/\SlotIn K F H (Owned A) (A i) v sl
section
variable{K:PySem.W.Frag}{F:Fn}{H H':Hp}{vs:St}{ρ:Rho}{A:Nat->List Addr}{O O':Addr->Prop}{fr:Bool}
theorem RowsAt.carry{Z Z':Zone}{dss:List (List D)}{as:List Addr}(h:RowsAt K H Z dss as)(k:∀a xs,a∈as->H a=some (.lst xs)->H' a=some (.lst xs))(c:Carry K H Z H' Z'):RowsAt K H' Z' dss as:=by
 induction h with
 |nil=>exact .nil
 |cons r t ih=>
  obtain⟨xs,e,i⟩:=r
  exact .cons ⟨xs,k _ xs (by simp) e,i.carry c⟩ (ih fun a xs ha e=>k a xs (by simp[ha]) e)
theorem carry_zn(s:Same H H')(hO:∀a (xs:MO),H a=some xs.ho->¬O a->¬O' a):Carry K H (zn F O fr) H' (zn F O' fr):=by
 unfold zn
 cases fr
 . exact .of s (fun a xs e z=>⟨z.1,hO a xs e z.2⟩) fun m=>m
 . exact .of s (fun a xs e z=>⟨z.1,hO a xs e z.2⟩) fun m=>m
theorem SlotIn.carry{mine:List Addr}{v:V}{sl:Slot}(h:SlotIn K F H O mine v sl)(k:∀a (xs:MO),a∈mine->H a=some xs.ho->H' a=some xs.ho)(c:∀fr,Carry K H (zn F O fr) H' (zn F O' fr)):SlotIn K F H' O' mine v sl:=by
 cases sl with
 |pl fr d=>exact In.carry (c fr) h
 |ow fr ds=>
  obtain⟨l,xs,rfl,e,hl,i⟩:=h
  exact⟨l,xs,rfl,e,k l (.l xs) (by simp) hl,i.carry (c fr)⟩
 |ow2 fr dss=>
  obtain⟨l,as,rfl,e,hl,i⟩:=h
  exact⟨l,as,rfl,e,k l (.l _) (by simp) hl,i.carry (fun a xs ha q=>k a (.l xs) (by simp[ha]) q) (c fr)⟩
 |oa d=>exact In.carry ⟨fun a xs e z=>⟨k a xs z e,z⟩,fun m=>Bool.noConfusion (show true=false from m),(c true).t⟩ h
 |sh p=>
  obtain⟨d,hp,i⟩:=h
  exact⟨d,hp,i.carry ⟨fun a xs e z=>⟨k a xs z e,z⟩,fun m=>Bool.noConfusion (show true=false from m),(c true).t⟩⟩
 |owl l fr ds=>
  obtain⟨xs,rfl,e,hl,i⟩:=h
  exact⟨xs,rfl,e,k l (.l xs) (by simp) hl,i.carry (c fr)⟩
 |od o=>
  obtain⟨l,rfl,e,hl⟩:=h
  exact⟨l,rfl,e,k l (.d o) (by simp) hl⟩
 |rf u=>exact h
 |tr d=>exact Tr.carry (c true).t (fun a xs ha e=>k a (.l xs) ha e) h
 |trl u d=>exact⟨h.1,Tr.carry (c true).t (fun a xs ha e=>k a (.l xs) ha e) h.2⟩
 |gen q=>exact q.carry h k c
theorem StIn.grow(S:StIn K F H vs ρ A)(s:Same H H'):StIn K F H' vs ρ A:=
 ⟨S.same.trans s,S.opn,S.nd,S.one,S.new,fun i a ha=>let⟨xs,e⟩:=S.lst i a ha;⟨xs,s.at e xs.nt⟩,fun i sl e=>let⟨v,a,b⟩:=S.at' i sl e;⟨v,a,b.carry (fun a xs _ q=>s.at q xs.nt) fun fr=>carry_zn s fun a xs _ n=>n⟩⟩
theorem zn_open(S:StIn K F H vs ρ A)(fr:Bool):(zn F (Owned A) fr).Open H:=⟨fun a h=>by
 have n:¬Owned A a:=fun⟨j,hj⟩=>by obtain⟨xs,e⟩:=S.lst j a hj;rw[h]at e;cases e
 unfold zn
 cases fr
 . exact⟨S.opn.op a (S.same.free h),n⟩
 . exact⟨S.same.free h,n⟩,S.same.tabs S.opn.tb⟩
theorem vz_open(S:StIn K F H vs ρ A)(ow fr:Bool):(vz F (Owned A) ow fr).Open H:=by
 unfold vz
 cases ow
 . exact zn_open S fr
 . cases fr
   . exact S.opn.same S.same
   . exact nw_open S.opn.tb S.same
def viewS(ow fr:Bool):Option Slot->Option D
 |some (.pl f d)=>if fr&& !f then none else some d
 |some (.ow f ds)=>if ow&&(!fr||f)then some (.lst ds)else none
 |some (.ow2 f dss)=>if ow&&(!fr||f)then some (.lst (dss.map .lst))else none
 |some (.oa d)=>if ow then some d else none
 |some (.sh _)=>none
 |some (.owl _ _ _)=>none
 |some (.od o)=>if ow then some (.dct o)else none
 |some (.rf _)=>none
 |some (.tr d)=>if ow then some d else none
 |some (.trl _ d)=>if ow then some d else none
 |some (.gen q)=>q.vw ow fr
 |none=>none
def view(ow fr:Bool)(ρ:Rho):List (Option D):=ρ.map (viewS ow fr)
theorem zn_vz(op:F.Z.Open F.H){f ow:Bool}(hf:fr=true->f=true):Carry K H (zn F O f) H (vz F O ow fr):=by
 refine .of (Same.refl H) (fun a xs e z=>?_) fun m=>?_
 . unfold vz zn at*
   cases ow<;>cases fr<;>cases f<;>simp at hf z⊢ <;>first
    |exact z
    |exact z.1
    |exact⟨op a z.1,z.2⟩
    |exact op a z.1
 . unfold vz zn at*
   cases ow<;>cases fr<;>cases f<;>simp at hf m⊢ <;>exact m
theorem ins_rows{Z Z':Zone}{dss:List (List D)}{as:List Addr}(h:RowsAt K H Z dss as)(c:Carry K H Z H Z')(n:∀a∈as,Z'.S a):Ins K H Z' (dss.map D.lst) (as.map V.ref):=by
 induction h with
 |nil=>exact ins_nil.mpr rfl
 |cons r t ih=>
  obtain⟨xs,e,i⟩:=r
  exact ins_cons.mpr ⟨_,_,rfl,in_lst.mpr ⟨_,xs,rfl,.inl ⟨e,n _ (by simp)⟩,i.carry c⟩,ih fun a ha=>n a (by simp[ha])⟩
theorem slot_view(op:F.Z.Open F.H){mine:List Addr}{v:V}{sl:Slot}{ow:Bool}{d:D}(new:∀a∈mine,F.H a=none)(h:SlotIn K F H O mine v sl)(e:viewS ow fr (some sl)=some d):InT K H (vz F O ow fr) d v:=by
 have inS:ow=true->∀a∈mine,(vz F O ow fr).S a:=fun ho a ha=>by
  subst ho
  unfold vz
  cases fr
  . exact op a (new a ha)
  . exact new a ha
 cases sl with
 |pl f d'=>
  apply In.top
  change (if(fr&& !f)=true then none else some d')=some d at e
  by_cases q:(fr&& !f)=true
  . rw[if_pos q]at e;cases e
  . rw[if_neg q]at e
    cases e
    refine In.carry (zn_vz op fun hf=>?_) h
    subst hf
    simpa using q
 |ow f ds=>
  apply In.top
  change (if(ow&&(!fr||f))=true then some (D.lst ds)else none)=some d at e
  by_cases q:(ow&&(!fr||f))=true
  . rw[if_pos q]at e
    cases e
    obtain⟨l,xs,rfl,rfl,hl,i⟩:=h
    simp at q
    refine in_lst.mpr ⟨l,xs,rfl,.inl ⟨hl,inS q.1 l (by simp)⟩,i.carry (zn_vz op fun hf=>?_)⟩
    subst hf
    simpa using q.2
  . rw[if_neg q]at e;cases e
 |ow2 f dss=>
  apply In.top
  change (if(ow&&(!fr||f))=true then some (D.lst (dss.map D.lst))else none)=some d at e
  by_cases q:(ow&&(!fr||f))=true
  . rw[if_pos q]at e
    cases e
    obtain⟨l,as,rfl,rfl,hl,i⟩:=h
    simp at q
    refine in_lst.mpr ⟨l,_,rfl,.inl ⟨hl,inS q.1 l (by simp)⟩,ins_rows i (zn_vz op fun hf=>?_) fun a ha=>inS q.1 a (by simp[ha])⟩
    subst hf
    simpa using q.2
  . rw[if_neg q]at e;cases e
 |oa d'=>
  apply In.top
  change (if ow=true then some d' else none)=some d at e
  by_cases q:ow=true
  . rw[if_pos q]at e
    cases e
    exact In.carry ⟨fun a xs e z=>⟨e,inS q a z⟩,fun m=>Bool.noConfusion (show true=false from m),fun _ _ e=>e⟩ h
  . rw[if_neg q]at e;cases e
 |sh p=>cases e
 |owl l f ds=>cases e
 |rf u=>cases e
 |tr d'=>
  apply In.top
  change (if ow=true then some d' else none)=some d at e
  by_cases q:ow=true
  . rw[if_pos q]at e
    cases e
    exact Tr.inn (inS q) h
  . rw[if_neg q]at e;cases e
 |trl u d'=>
  apply In.top
  change (if ow=true then some d' else none)=some d at e
  by_cases q:ow=true
  . rw[if_pos q]at e
    cases e
    exact Tr.inn (inS q) h.2
  . rw[if_neg q]at e;cases e
 |od o=>
  apply In.top
  change (if ow=true then some (D.dct o)else none)=some d at e
  by_cases q:ow=true
  . rw[if_pos q]at e
    cases e
    obtain⟨l,rfl,rfl,hl⟩:=h
    exact in_dct.mpr ⟨l,rfl,hl,inS q l (by simp)⟩
  . rw[if_neg q]at e;cases e
 |gen q=>exact q.env op inS h e
theorem StIn.env{σ hv:St}{hρ:Rho}(S:StIn K F H (σ++hv) (ρ++hρ) A)(hl:σ.length=ρ.length)(ow fr:Bool):EnvIn K H (vz F (Owned A) ow fr) σ (view ow fr ρ):=fun i d e=>by
 unfold view at e
 rw[getElem?_map]at e
 cases q:ρ[i]? with
 |none=>rw[q]at e;cases e
 |some o=>
  rw[q]at e
  cases o with
  |none=>simp[viewS]at e
  |some sl=>
   have hi:i<ρ.length:=(List.getElem?_eq_some_iff.mp q).1
   obtain⟨v,a,b⟩:=S.at' i sl (by rw[getElem?_append_left hi];exact q)
   rw[getElem?_append_left (by omega)]at a
   exact⟨v,a,slot_view S.opn (S.new i) b (by simpa using e)⟩
def putA(A:Nat->List Addr)(i:Nat)(l:List Addr):Nat->List Addr:=fun j=>if j=i then l else A j
theorem putA_same{i:Nat}{l:List Addr}:putA A i l i=l:=by unfold putA;rw[if_pos rfl]
theorem putA_ne{i j:Nat}{l:List Addr}(h:j≠i):putA A i l j=A j:=by unfold putA;rw[if_neg h]
theorem carry_re{i:Nat}{l:List Addr}{H2:Hp}(S:StIn K F H vs ρ A)(k:∀b o,H b=some o->isT o=false->b∉A i->H2 b=some o)(hl:∀a∈l,a∈A i\/H a=none)(fr:Bool):Carry K H (zn F (Owned A) fr) H2 (zn F (Owned (putA A i l)) fr):=by
 have notI:∀{a:Addr} {o:HO},H a=some o->(∀xs:MO,o≠xs.ho)->a∉A i:=fun{a o} e n z=>by
  obtain⟨xs,e'⟩:=S.lst i a z
  rw[e]at e'
  exact n xs (Option.some.inj e')
 refine⟨fun a xs e z=>?_,fun m=>⟨?_,fun a xs e=>?_⟩,fun a xs e=>?_⟩
 . have key:¬Owned A a->H2 a=some xs.ho/\ ¬Owned (putA A i l) a:=fun n=>⟨k a _ e xs.nt fun z=>n ⟨i,z⟩,fun⟨k',hk⟩=>by
    by_cases q2:k'=i
    . rw[q2,putA_same]at hk
      rcases hl a hk with z|z
      . exact n ⟨i,z⟩
      . rw[e]at z;cases z
    . rw[putA_ne q2]at hk
      exact n ⟨k',hk⟩⟩
   unfold zn at z⊢
   cases fr
   . exact⟨(key z.2).1,z.1,(key z.2).2⟩
   . exact⟨(key z.2).1,z.1,(key z.2).2⟩
 . unfold zn at m⊢
   cases fr
   . exact m
   . exact m
 . rcases e with⟨o,e⟩|e
   . exact .inl ⟨o,k a _ e rfl (notI e fun xs z=>xs.nfrz z.symm)⟩
   . exact .inr e
 . exact k a _ e rfl (notI e fun xs z=>xs.ntup z.symm)
theorem StIn.re{i:Nat}{v:V}{sl:Slot}{l:List Addr}{H2:Hp}(S:StIn K F H vs ρ A)(hi:i<ρ.length)(hiv:i<vs.length)(sm:Same F.H H2)(k:∀b o,H b=some o->isT o=false->b∉A i->H2 b=some o)(nd:l.Nodup)
 (hl:∀a∈l,(a∈A i\/H a=none)/\ ∃xs:MO,H2 a=some xs.ho)(h:SlotIn K F H2 (Owned (putA A i l)) l v sl):StIn K F H2 (vs.set i (some v)) (ρ.set i (some sl)) (putA A i l):=by
 have disj:∀j a,j≠i->a∈A j->a∉l:=fun j a hj ha hal=>by
  rcases(hl a hal).1 with z|z
  . exact hj (S.one j i a ha z)
  . obtain⟨xs,e⟩:=S.lst j a ha;rw[z]at e;cases e
 refine⟨sm,S.opn,fun j=>?_,fun j k' a hj hk=>?_,fun j a ha=>?_,fun j a ha=>?_,fun j sl' e=>?_⟩
 . by_cases q:j=i
   . rw[q,putA_same];exact nd
   . rw[putA_ne q];exact S.nd j
 . by_cases q:j=i
   . by_cases q2:k'=i
     . rw[q,q2]
     . rw[q,putA_same]at hj;rw[putA_ne q2]at hk
       exact absurd hj (disj k' a q2 hk)
   . rw[putA_ne q]at hj
     by_cases q2:k'=i
     . rw[q2,putA_same]at hk
       exact absurd hk (disj j a q hj)
     . rw[putA_ne q2]at hk
       exact S.one j k' a hj hk
 . by_cases q:j=i
   . rw[q,putA_same]at ha
     rcases(hl a ha).1 with z|z
     . exact S.new i a z
     . exact S.same.free z
   . rw[putA_ne q]at ha;exact S.new j a ha
 . by_cases q:j=i
   . rw[q,putA_same]at ha;exact(hl a ha).2
   . rw[putA_ne q]at ha
     obtain⟨xs,e⟩:=S.lst j a ha
     exact⟨xs,k a _ e xs.nt fun z=>q (S.one j i a ha z)⟩
 . by_cases q:j=i
   . subst q
     rw[List.getElem?_set_self hi]at e
     cases e
     exact⟨v,by rw[List.getElem?_set_self hiv],by rw[putA_same];exact h⟩
   . rw[List.getElem?_set_ne (Ne.symm q)]at e
     obtain⟨w,a,b⟩:=S.at' j sl' e
     refine⟨w,by rw[List.getElem?_set_ne (Ne.symm q)];exact a,?_⟩
     rw[putA_ne q]
     exact b.carry (fun a xs ha e=>k a _ e xs.nt fun z=>q (S.one j i a ha z)) fun fr=>carry_re S k (fun a ha=>(hl a ha).1) fr
theorem StIn.put{i:Nat}{v:V}{sl:Slot}{l:List Addr}{H2:Hp}(S:StIn K F H vs ρ A)(hi:i<ρ.length)(hiv:i<vs.length)(s:Same H H2)(nd:l.Nodup)(hl:∀a∈l,H a=none/\ ∃xs:MO,H2 a=some xs.ho)
 (h:SlotIn K F H2 (Owned (putA A i l)) l v sl):StIn K F H2 (vs.set i (some v)) (ρ.set i (some sl)) (putA A i l):=S.re hi hiv (S.same.trans s) (fun b o e n _=>s.get b o e n) nd (fun a ha=>⟨.inr (hl a ha).1,(hl a ha).2⟩) h
theorem zn_drop{i:Nat}:Carry K H (zn F (Owned A) fr) H (zn F (Owned (putA A i [])) fr):=by
 have n:∀{P:Prop} {a:Addr},P/\ ¬Owned A a->P/\ ¬Owned (putA A i []) a:=fun{P a} z=>⟨z.1,fun⟨k,hk⟩=>by
  by_cases q:k=i
  . rw[q,putA_same]at hk;simp at hk
  . rw[putA_ne q]at hk;exact z.2 ⟨k,hk⟩⟩
 refine .of (Same.refl _) (fun a xs e z=>?_) fun m=>?_
 . unfold zn at z⊢
   cases fr
   . exact n z
   . exact n z
 . unfold zn at m⊢
   cases fr
   . exact m
   . exact m
end
structure EndD where
 nx:Rho->Prop
 rt:D->Prop
 bk:Rho->Prop:=fun _=>False
 ct:Rho->Prop:=fun _=>False
 rtT:D->Prop:=fun _=>False
 rtM:Rho->D->Prop:=fun _ _=>False
 rtS:Rho->(Nat->List Addr)->Hp->V->Prop:=fun _ _ _ _=>False
def StOk(K:PySem.W.Frag)(F:Fn)(hv:St)(hρ:Rho)(N:Rho->Prop)(σ:St)(H:Hp):Prop:=∃ρ A,σ.length=ρ.length/\StIn K F H (σ++hv) (ρ++hρ) A/\N ρ
structure Fits(K:PySem.W.Frag)(F:Fn)(hv:St)(hρ:Rho)(Q:EndD)(Q':Ends):Prop where
 hl:hv.length=hρ.length
 nx:∀σ H,StOk K F hv hρ Q.nx σ H->Q'.nx σ H
 bk:∀σ H,StOk K F hv hρ Q.bk σ H->Q'.bk σ H
 ct:∀σ H,StOk K F hv hρ Q.ct σ H->Q'.ct σ H
 rt:∀v d H,Same F.H H->In K H (out F.m F.Z F.H) d v->Q.rt d->Q'.rt v H
 rtT:∀v d H as,Same F.H H->Tr K H d v as->as.Nodup->(∀a∈as,F.H a=none)->Q.rtT d->Q'.rt v H
 rtM:∀σ H ρ A v d as,σ.length=ρ.length->StIn K F H (σ++hv) (ρ++hρ) A->Tr K H d v as->as.Nodup->(∀a∈as,F.H a=none)->(∀i a,a∈A i->a∉as)->Q.rtM ρ d->Q'.rt v H
 rtS:∀σ H ρ A v,σ.length=ρ.length->StIn K F H (σ++hv) (ρ++hρ) A->Q.rtS ρ A H v->Q'.rt v H
def tS(K:PySem.W.Frag)(F:Fn)(ρ:Rho)(Q:EndD):TS:=fun Q' σ H=>∃hv hρ A,σ.length=ρ.length/\StIn K F H (σ++hv) (ρ++hρ) A/\Fits K F hv hρ Q Q'
def SD(X:Cx)(F:Fn)(st:List Stmt)(ρ:Rho)(Q:EndD):Prop:=PSs X st (tS X.K F ρ Q)
def SD1(X:Cx)(F:Fn)(st:Stmt)(ρ:Rho)(Q:EndD):Prop:=PS X st (tS X.K F ρ Q)
theorem PS.mono{X:Cx}{st:Stmt}{t t':TS}(h:PS X st t)(k:∀Q σ H,t' Q σ H->t Q σ H):PS X st t':=fun pins s σ H Q I q=>h pins s σ H Q I (k Q σ H q)
theorem PSs.mono{X:Cx}{st:List Stmt}{t t':TS}(h:PSs X st t)(k:∀Q σ H,t' Q σ H->t Q σ H):PSs X st t':=fun pins s σ H Q I q=>h pins s σ H Q I (k Q σ H q)
section
variable{X:Cx}{F:Fn}{ρ:Rho}{Q:EndD}{st:Stmt}{rest body orelse:List Stmt}{e a c:Expr}{d:D}{pos p:Pos}{i:Nat}{x:Str}{fr m1:Bool}
theorem Fits.step{K:PySem.W.Frag}{hv:St}{hρ:Rho}{Q':Ends}{N:Rho->Prop}{n:St->Hp->Prop}(f:Fits K F hv hρ Q Q')(h:∀σ H,StOk K F hv hρ N σ H->n σ H):Fits K F hv hρ {Q with nx:=N} {Q' with nx:=n}:=⟨f.hl,h,f.bk,f.ct,f.rt,f.rtT,f.rtM,f.rtS⟩
theorem sd_nil(h:Q.nx ρ):SD X F [] ρ Q:=PSs.mono pss_nil fun Q' σ H z0=>el33 z0 fun hv hρ A hl S f=>f.nx σ H ⟨ρ,A,hl,S,h⟩
theorem sd_seq{N:Rho->Prop}(h1:SD1 X F st ρ {Q with nx:=N})(h2:∀ρ',N ρ'->SD X F rest ρ' Q):SD X F (st::rest) ρ Q:=
 PSs.mono (pss_cons (u:=fun Q' σ H=>∃ρ',N ρ'/\tS X.K F ρ' Q Q' σ H) h1 fun pins s σ H Q' I ⟨ρ',n,t⟩=>h2 ρ' n pins s σ H Q' I t) fun Q' σ H ⟨hv,hρ,A,hl,S,f⟩=>
  ⟨hv,hρ,A,hl,S,f.step fun σ' H' ⟨ρ',A',hl',S',n⟩=>⟨ρ',n,hv,hρ,A',hl',S',f⟩⟩
theorem sd_then{ρ':Rho}(h1:SD1 X F st ρ {Q with nx:=fun r=>r=ρ'})(h2:SD X F rest ρ' Q):SD X F (st::rest) ρ Q:=sd_seq h1 fun r e=>by subst e;exact h2
theorem set_app{α:Type}{l r:List α}{i:Nat}{v:α}(h:i<l.length):(l++r).set i v=l.set i v++r:=by
 rw[List.set_append_left _ _ h]
theorem put_plA{K:PySem.W.Frag}{hv:St}{hρ:Rho}{σ:St}{H H1:Hp}{A:Nat->List Addr}{v:V}(hl:σ.length=ρ.length)(S:StIn K F H (σ++hv) (ρ++hρ) A)(hi:i<ρ.length)(s:Same H H1)(h:In K H1 (zn F (Owned A) fr) d v):
 StIn K F H1 (σ.set i (some v)++hv) (ρ.set i (some (.pl fr d))++hρ) (putA A i []):=by
 rw[<-set_app (by omega), <-set_app hi]
 exact S.put (by rw[List.length_append];omega) (by rw[List.length_append];omega) s List.nodup_nil (fun a ha=>by simp at ha) (In.carry zn_drop h)
theorem put_pl{K:PySem.W.Frag}{hv:St}{hρ:Rho}{σ:St}{H H1:Hp}{A:Nat->List Addr}{v:V}(hl:σ.length=ρ.length)(S:StIn K F H (σ++hv) (ρ++hρ) A)(hi:i<ρ.length)(s:Same H H1)(h:In K H1 (zn F (Owned A) fr) d v):
 StOk K F hv hρ (fun r=>r=ρ.set i (some (.pl fr d))) (σ.set i (some v)) H1:=⟨_,putA A i [],by simp[hl],put_plA hl S hi s h,rfl⟩
theorem sd_setN(i:Nat){x:Str}{d:D}(he:E X true (view true false ρ) e d)(hr:SD X F rest (ρ.set i (some (.pl true d))) Q)(hN:X.N.Nodup)(hi:X.N[i]? =some x:=by rfl)
 (hx:Loc X.env.scope x:=by first|exact Or.inl rfl|exact Or.inr rfl)(hρ:i<ρ.length:=by exact of_decide_eq_true rfl)(hs:swapsWith e (some (.Name x p)) pos.line X.env=pure false:=by rfl)(hf:X.fn x=true\/X.env.scope.names.lookup x=some .local:=by first|exact .inl rfl|exact .inr rfl):
 SD X F (.Assign [.Name x p] e pos::rest) ρ Q:=
 sd_then (PS.mono (ps_set hN hi hx he hs hf) fun Q' σ H z0=>el33 z0 fun hv hρ' A hl S f=>⟨_,vz_open S true false,S.env hl true false,fun v H1 s1 i1=>f.nx _ H1 (put_pl hl S hρ s1 (In.up (zn_open S true) i1))⟩) hr
theorem sd_setF(i:Nat){x:Str}{d:D}(he:E X m1 (view true false ρ) e d)(fl:d.flat=true)(hr:SD X F rest (ρ.set i (some (.pl true d))) Q)(hN:X.N.Nodup)(hi:X.N[i]? =some x:=by rfl)
 (hx:Loc X.env.scope x:=by first|exact Or.inl rfl|exact Or.inr rfl)(hρ:i<ρ.length:=by exact of_decide_eq_true rfl)(hs:swapsWith e (some (.Name x p)) pos.line X.env=pure false:=by rfl)(hf:X.fn x=true\/X.env.scope.names.lookup x=some .local:=by first|exact .inl rfl|exact .inr rfl):
 SD X F (.Assign [.Name x p] e pos::rest) ρ Q:=sd_setN i (he.flat fl) hr hN hi hx hρ hs hf
theorem sd_ret(fr:Bool){d:D}(he:E X m1 (view true fr ρ) e d)(h:Q.rt d)(hm:F.m=true->fr=true\/m1=true:=by intro h;first|exact .inl rfl|exact .inr rfl|cases h):SD X F (.Return (some e) pos::rest) ρ Q:=
 sd_seq (N:=fun _=>False) (PS.mono (ps_ret he) fun Q' σ H z0=>el33 z0 fun hv hρ A hl S f=>⟨_,vz_open S true fr,S.env hl true fr,fun v H1 s1 i1=>f.rt v d H1 (S.same.trans s1) (by
  have key:(F.m=true->In X.K H1 (nw F.H) d v)/\In X.K H1 F.Z d v:=by
   cases m1 with
   |true=>
    have i2:In X.K H1 (nw F.H) d v:=In.later (m:=true) (Z:=F.Z) S.same i1
    exact⟨fun _=>i2,i2.up S.opn⟩
   |false=>
    cases fr with
    |true=>
     have i2:In X.K H1 (nw F.H) d v:=i1
     exact⟨fun _=>i2,i2.up S.opn⟩
    |false=>
     have i2:In X.K H1 F.Z d v:=i1
     exact⟨fun h=>(hm h).elim (fun z=>(nomatch z)) (fun z=>(nomatch z)),i2⟩
  cases hmm:F.m with
  |false=>exact key.2
  |true=>exact key.1 hmm) h⟩) fun _ n=>n.elim
theorem sd_if{b:Bool}(hc:T X (view true false ρ) c b)(h1:b=true->SD X F body ρ {Q with nx:=fun r=>SD X F rest r Q})(h2:b=false->SD X F orelse ρ {Q with nx:=fun r=>SD X F rest r Q}):SD X F (.If c body orelse pos::rest) ρ Q:=by
 refine sd_seq (N:=fun r=>SD X F rest r Q) ?_ fun _ h=>h
 cases b with
 |true=>
  exact PS.mono (ps_if hc (h1 rfl) (pss_never (sts:=orelse))) fun Q' σ H z0=>el33 z0 fun hv hρ A hl S f=>⟨_,vz_open S true false,S.env hl true false,fun H1 s1=>by
   refine iteT ?_;exact⟨hv,hρ,A,hl,S.grow s1,f⟩⟩
 |false=>
  exact PS.mono (ps_if hc (pss_never (sts:=body)) (h2 rfl)) fun Q' σ H z0=>el33 z0 fun hv hρ A hl S f=>⟨_,vz_open S true false,S.env hl true false,fun H1 s1=>by
   refine iteF ?_;exact⟨hv,hρ,A,hl,S.grow s1,f⟩⟩
theorem sd_ifJ(ρ1:Rho){b:Bool}(hc:T X (view true false ρ) c b)(h1:b=true->SD X F body ρ {Q with nx:=fun r=>r=ρ1})(h2:b=false->SD X F orelse ρ {Q with nx:=fun r=>r=ρ1})(h3:SD X F rest ρ1 Q):SD X F (.If c body orelse pos::rest) ρ Q:=by
 refine sd_then (ρ':=ρ1) ?_ h3
 cases b with
 |true=>
  exact PS.mono (ps_if hc (h1 rfl) (pss_never (sts:=orelse))) fun Q' σ H z0=>el33 z0 fun hv hρ A hl S f=>⟨_,vz_open S true false,S.env hl true false,fun H1 s1=>by
   refine iteT ?_;exact⟨hv,hρ,A,hl,S.grow s1,f⟩⟩
 |false=>
  exact PS.mono (ps_if hc (pss_never (sts:=body)) (h2 rfl)) fun Q' σ H z0=>el33 z0 fun hv hρ A hl S f=>⟨_,vz_open S true false,S.env hl true false,fun H1 s1=>by
   refine iteF ?_;exact⟨hv,hρ,A,hl,S.grow s1,f⟩⟩
theorem sd_expr(he:E X m1 (view true false ρ) e d)(hr:SD X F rest ρ Q)(hs:swapsWith e none pos.line X.env=pure false:=by rfl):SD X F (.Expr e pos::rest) ρ Q:=
 sd_then (PS.mono (ps_expr he hs) fun Q' σ H z0=>el33 z0 fun hv hρ A hl S f=>⟨_,vz_open S true false,S.env hl true false,fun v H1 s1 i1=>f.nx _ H1 ⟨ρ,A,hl,S.grow s1,rfl⟩⟩) hr
def hid(fr:Bool)(srcs:List D):Rho:=srcs.map fun d=>some (.pl fr d)
theorem StIn.hide{K:PySem.W.Frag}{H:Hp}{σ hv:St}{r hρ:Rho}{A:Nat->List Addr}{srcs:List D}{vs:List V}(S:StIn K F H (σ++hv) (r++hρ) A)(h1:σ.length=r.length)(h2:hv.length=hρ.length)(iz:Ins K H (zn F (Owned A) fr) srcs vs):
 StIn K F H (σ++(hv++vs.map some)) (r++(hρ++hid fr srcs)) A:=by
 refine⟨S.same,S.opn,S.nd,S.one,S.new,S.lst,fun i sl e=>?_⟩
 rw[<-List.append_assoc]at e⊢
 by_cases hi:i<(r++hρ).length
 . rw[getElem?_append_left hi]at e
   rw[getElem?_append_left (by rw[List.length_append]at hi⊢;omega)]
   exact S.at' i sl e
 . rw[getElem?_append_right (by omega)]at e
   rw[getElem?_append_right (by rw[List.length_append]at hi⊢;omega)]
   have hle:(σ++hv).length=(r++hρ).length:=by rw[List.length_append,List.length_append];omega
   rw[hle]
   unfold hid at e
   rw[getElem?_map]at e
   cases q:srcs[i-(r++hρ).length]? with
   |none=>rw[q]at e;cases e
   |some d=>
    rw[q]at e
    have e':some (Slot.pl fr d)=some sl:=by simpa using e
    cases e'
    obtain⟨v,a,b⟩:=iz.get q
    exact⟨v,by rw[getElem?_map,a];rfl,b⟩
theorem StIn.srcs{K:PySem.W.Frag}{H:Hp}{σ hv:St}{r hρ:Rho}{A:Nat->List Addr}{srcs:List D}{vs:List V}(S:StIn K F H (σ++(hv++vs.map some)) (r++(hρ++hid fr srcs)) A)(h1:σ.length=r.length)(h2:hv.length=hρ.length)(hsv:srcs.length=vs.length):
 Ins K H (zn F (Owned A) fr) srcs vs:=by
 refine Ins.of_get hsv fun i d v e1 e2=>?_
 have hle:(σ++hv).length=(r++hρ).length:=by rw[List.length_append,List.length_append];omega
 obtain⟨w,a,b⟩:=S.at' ((r++hρ).length+i) (.pl fr d) (by
  rw[<-List.append_assoc,getElem?_append_right (by omega),Nat.add_sub_cancel_left]
  unfold hid
  rw[getElem?_map,e1];rfl)
 rw[<-List.append_assoc,getElem?_append_right (by omega),hle,Nat.add_sub_cancel_left,getElem?_map,e2]at a
 cases a
 exact b
theorem StIn.unhide{K:PySem.W.Frag}{H:Hp}{σ hv e1:St}{r hρ e2:Rho}{A:Nat->List Addr}(S:StIn K F H (σ++(hv++e1)) (r++(hρ++e2)) A)(h1:σ.length=r.length)(h2:hv.length=hρ.length):StIn K F H (σ++hv) (r++hρ) A:=by
 refine⟨S.same,S.opn,S.nd,S.one,S.new,S.lst,fun i sl e=>?_⟩
 have hi:i<(r++hρ).length:=(List.getElem?_eq_some_iff.mp e).1
 obtain⟨v,a,b⟩:=S.at' i sl (by rw[<-List.append_assoc,getElem?_append_left hi];exact e)
 rw[<-List.append_assoc,getElem?_append_left (by rw[List.length_append]at hi⊢;omega)]at a
 exact⟨v,a,b⟩
end
def spD(K:PySem.W.Frag)(m:Bool)(G:List D->D->Prop):Sp:=fun vs H Q _=>∃(Z:Zone) (ds:List D) (d:D),Z.Open H/\Ins K H Z ds vs/\G ds d/\ ∀v H',Same H H'->In K H' (out m Z H) d v->Q v H'
structure Def(P:Program)(w:World)(K:PySem.W.Frag)(mg:Str->Option Value)(base:Heap)(k:Nat)(x:Str)(m:Bool)(G:List D->D->Prop):Prop where
 ex:∃f fd ps,FnOk P w K mg base CX0 k f fd ps (spD K m G)/\mg x=some (.ref f)/\keepIn K (.ref f)=true/\Binds K fd ps []
section
variable{X:Cx}{ρ:List (Option D)}{m:Bool}{e:Expr}{es:List Expr}{ds:List D}{d:D}{pos p:Pos}{k:Nat}{x:Str}{G:List D->D->Prop}
theorem e_call(Df:Def X.prog X.w X.K X.mg X.base k x m G)(hr:Room k X.A)(ha:EA X ρ (e::es) ds)(h:G ds d)(hg:Gl X x:=by rfl)(hdb:(x==("__debug__":Str))=false:=by decide)
 (he:starEach (e::es) X.env=(false,eval e X.env)::starEach es X.env:=by rfl)(hpl:(backTo pos (starEach es X.env)).any (·.1)=false:=by rfl):E X m ρ (.Call (.Name x p) (e::es) [] pos) d:=by
 obtain⟨f,fd,ps,a,b,c,dd⟩:=Df.ex
 exact PE.mono (pe_call a hr hg b c dd .nil pass0 ha hdb he hpl) fun σ H Q z0=>el13 z0 fun Z oz en k=>⟨Z,oz,en,fun vs H1 s1 i1=>by
  show spD X.K m G (vs++[]) H1 Q E0
  rw[append_nil]
  exact⟨Z,ds,d,oz.same s1,i1,h,fun v H' s' i=>k v H' (s1.trans s') (i.later s1)⟩⟩
end
def startD(N:List Str)(ds:List D):Rho:=ds.map (fun d=>some (.pl false d))++List.replicate (N.length-ds.length) none
theorem start_in{K:PySem.W.Frag}{Z:Zone}{H:Hp}{m:Bool}{N:List Str}{ds:List D}{vs:List V}(oz:Z.Open H)(h:Ins K H Z ds vs):StIn K ⟨m,Z,H⟩ H (L2.start N vs++[]) (startD N ds++[]) (fun _=>[]):=by
 refine⟨Same.refl H,oz,fun _=>List.nodup_nil,fun i j a ha=>by simp at ha,fun i a ha=>by simp at ha,fun i a ha=>by simp at ha,fun i sl e=>?_⟩
 rw[append_nil]at e⊢
 unfold startD at e
 unfold L2.start
 by_cases hi:i<ds.length
 . rw[getElem?_append_left (by simpa using hi),getElem?_map]at e
   have hd:ds[i]? =some ds[i]:=by simp[hi]
   rw[hd]at e
   have e':some (Slot.pl false ds[i])=some sl:=by simpa using e
   cases e'
   obtain⟨v,a,b⟩:=h.get hd
   have hv:i<vs.length:=(List.getElem?_eq_some_iff.mp a).1
   refine⟨v,by rw[getElem?_append_left (by simpa using hv),getElem?_map,a];rfl,?_⟩
   exact In.carry (Z':=⟨Z.m,fun a=>Z.S a/\ ¬Owned (fun _=>[]) a⟩) (Carry.of (Same.refl H) (fun a xs e z=>⟨z,fun⟨j,hj⟩=>by simp at hj⟩) fun m=>m) b
 . rw[getElem?_append_right (by simpa using hi),List.getElem?_replicate]at e
   split at e<;>cases e
section
variable{P:Program}{w:World}{K:PySem.W.Frag}{mg:Str->Option Value}{base:Heap}
theorem fnD{x qual:Str}{st:Stmt}{f:Addr}{fd:FuncData}{N ps:List Str}{k:Nat}{m:Bool}{G:List D->D->Prop}(Fx:Fun K x qual st f fd)(S:FnScope N ps (defScope st))
 (hlen:∀ds d,G ds d->ds.length=ps.length)
 (body:∀(cdv:Value) (A:Around) (outer:List Env) (s:Shared) (H:Hp) (E:XK) (Z:Zone) (ds:List D) (d:D),Room k (A.deeper (envOfC qual (defScope st) s.heap.objs.size f cdv))->G ds d->
  SD (cxOf CX0 P w K mg base N qual (defScope st) f cdv A outer s H E).nox ⟨m,Z,H⟩ (defBody st) (startD N ds) {nx:=fun _=>d=.non,rt:=fun d'=>d'=d}):FnOk P w K mg base CX0 (k+1) f fd ps (spD K m G):=by
 refine Fx.ok S (fun vs H Q E ⟨Z,ds,d,oz,i,g,kk⟩=>?_) (fun cdv A outer s H vs Q E hr ⟨Z,ds,d,oz,i,g,kk⟩=>?_)
 . rw[<-i.length];exact hlen ds d g
 . refine⟨_,body cdv A outer s H E Z ds d hr g,[],[],fun _=>[],?_,start_in oz i,⟨rfl,fun σ H' ⟨r,A',hl,S',e⟩=>?_,fun σ H' ⟨r,A',hl,S',e⟩=>e.elim,fun σ H' ⟨r,A',hl,S',e⟩=>e.elim,fun v d' H' s' i' e=>?_,fun _ _ _ _ _ _ _ _ e=>e.elim,fun _ _ _ _ _ _ _ _ _ _ _ _ _ e=>e.elim,fun _ _ _ _ _ _ _ e=>e.elim⟩⟩
   . have:=i.length
     simp[L2.start,startD];omega
   . subst e
     exact kk .non H' S'.same (in_non.mpr rfl)
   . subst e
     exact kk v H' s' i'
theorem def_of{x qual:Str}{st:Stmt}{f:Addr}{fd:FuncData}{N ps:List Str}{k:Nat}{m:Bool}{G:List D->D->Prop}(Fx:Fun K x qual st f fd)(S:FnScope N ps (defScope st))(hmg:mg x=some (.ref f))(hb:Binds K fd ps [])
 (hlen:∀ds d,G ds d->ds.length=ps.length)
 (body:∀(cdv:Value) (A:Around) (outer:List Env) (s:Shared) (H:Hp) (E:XK) (Z:Zone) (ds:List D) (d:D),Room k (A.deeper (envOfC qual (defScope st) s.heap.objs.size f cdv))->G ds d->
  SD (cxOf CX0 P w K mg base N qual (defScope st) f cdv A outer s H E).nox ⟨m,Z,H⟩ (defBody st) (startD N ds) {nx:=fun _=>d=.non,rt:=fun d'=>d'=d}):Def P w K mg base (k+1) x m G:=⟨f,fd,ps,fnD Fx S hlen body,hmg,Fx.kp,hb⟩
def lawG(ds:List D)(d:D):Prop:=∃ns:List Int,ns.length<=63/\ds=[.lst (ns.map D.int)]/\d=.bl true
def spLaw(K:PySem.W.Frag):Sp:=fun vs H Q _=>∃(a:Addr) (ns:List Int),vs=[.ref a]/\SqL K H a (ns.map V.int)/\ns.length<=63/\TabsOk H/\ ∀H',Q (.bl true) H'
theorem spLaw_of{H:Hp}{vs:List V}{Q:VK}{E:XK}(h:spLaw K vs H Q E):spD K false lawG vs H Q E:=by
 obtain⟨a,ns,rfl,hS,hl,tb,q⟩:=h
 refine⟨anyZ,[.lst (ns.map D.int)],.bl true,anyZ_open tb,Ins.one (in_lst.mpr ⟨a,_,rfl,?_,ins_ints ns⟩),⟨ns,hl,rfl,rfl⟩,fun v H' s i=>?_⟩
 . rcases hS with(h|h)|h
   . exact .inl ⟨h,trivial⟩
   . exact .inr ⟨rfl,.inl h⟩
   . exact .inr ⟨rfl,.inr h⟩
 . rw[in_bl.mp i];exact q H'
theorem law_of{k:Nat}{f:Addr}{fd:FuncData}{ps:List Str}(h:FnOk P w K mg base CX0 k f fd ps (spD K false lawG)):FnOk P w K mg base CX0 k f fd ps (spLaw K):=h.imp fun _ _ _ _ q=>spLaw_of q
end
section
variable{X:Cx}{F:Fn}{ρ:Rho}{Q:EndD}{rest:List Stmt}{e:Expr}{d:D}{pos p:Pos}{x:Str}{fr m1:Bool}{ds:List D}{dss:List (List D)}
theorem nodup1{a:Addr}:[a].Nodup:=by simp
theorem sd_own(i:Nat){x:Str}{ds:List D}(he:E X true (view true false ρ) e (.lst ds))(fl:flats ds=true)(hr:SD X F rest (ρ.set i (some (.ow true ds))) Q)(hN:X.N.Nodup)(hi:X.N[i]? =some x:=by rfl)
 (hx:Loc X.env.scope x:=by first|exact Or.inl rfl|exact Or.inr rfl)(hρ:i<ρ.length:=by exact of_decide_eq_true rfl)(hs:swapsWith e (some (.Name x p)) pos.line X.env=pure false:=by rfl)(hf:X.fn x=true\/X.env.scope.names.lookup x=some .local:=by first|exact .inl rfl|exact .inr rfl):
 SD X F (.Assign [.Name x p] e pos::rest) ρ Q:=
 sd_then (PS.mono (ps_set hN hi hx he hs hf) fun Q' σ H z0=>el33 z0 fun hv hρ' A hl S f=>⟨_,vz_open S true false,S.env hl true false,fun v H1 s1 i1=>by
  obtain⟨l,xs,rfl,at',j⟩:=in_lst.mp i1
  obtain⟨e1,e2⟩:H1 l=some (.lst xs)/\H l=none:=by
   rcases at' with z|z
   . exact z
   . exact absurd z.1 (by simp[out,nw])
  refine f.nx _ H1 ⟨_,putA A i [l],by simp[hl],?_,rfl⟩
  rw[<-set_app (by omega), <-set_app hρ]
  exact S.put (by rw[List.length_append];omega) (by rw[List.length_append];omega) s1 nodup1 (fun a ha=>by
   have:a=l:=by simpa using ha
   subst this
   exact⟨e2,.l xs,e1⟩) ⟨l,xs,rfl,rfl,e1,j.flat' fl⟩⟩) hr
theorem sd_own2(i:Nat){x:Str}(he:E X true (view true false ρ) e (.lst []))(hr:SD X F rest (ρ.set i (some (.ow2 true []))) Q)(hN:X.N.Nodup)(hi:X.N[i]? =some x:=by rfl)
 (hx:Loc X.env.scope x:=by first|exact Or.inl rfl|exact Or.inr rfl)(hρ:i<ρ.length:=by exact of_decide_eq_true rfl)(hs:swapsWith e (some (.Name x p)) pos.line X.env=pure false:=by rfl)(hf:X.fn x=true\/X.env.scope.names.lookup x=some .local:=by first|exact .inl rfl|exact .inr rfl):
 SD X F (.Assign [.Name x p] e pos::rest) ρ Q:=
 sd_then (PS.mono (ps_set hN hi hx he hs hf) fun Q' σ H z0=>el33 z0 fun hv hρ' A hl S f=>⟨_,vz_open S true false,S.env hl true false,fun v H1 s1 i1=>by
  obtain⟨l,xs,rfl,at',j⟩:=in_lst.mp i1
  cases ins_nil.mp j
  obtain⟨e1,e2⟩:H1 l=some (.lst [])/\H l=none:=by
   rcases at' with z|z
   . exact z
   . exact absurd z.1 (by simp[out,nw])
  refine f.nx _ H1 ⟨_,putA A i [l],by simp[hl],?_,rfl⟩
  rw[<-set_app (by omega), <-set_app hρ]
  exact S.put (by rw[List.length_append];omega) (by rw[List.length_append];omega) s1 nodup1 (fun a ha=>by
   have:a=l:=by simpa using ha
   subst this
   exact⟨e2,.l _,e1⟩) ⟨l,[],rfl,rfl,e1,.nil⟩⟩) hr
theorem sd_own21(i:Nat){x:Str}(he:E X true (view true false ρ) e (.lst [.lst []]))(hr:SD X F rest (ρ.set i (some (.ow2 true [[]]))) Q)(hN:X.N.Nodup)(hi:X.N[i]? =some x:=by rfl)
 (hx:Loc X.env.scope x:=by first|exact Or.inl rfl|exact Or.inr rfl)(hρ:i<ρ.length:=by exact of_decide_eq_true rfl)(hs:swapsWith e (some (.Name x p)) pos.line X.env=pure false:=by rfl)(hf:X.fn x=true\/X.env.scope.names.lookup x=some .local:=by first|exact .inl rfl|exact .inr rfl):
 SD X F (.Assign [.Name x p] e pos::rest) ρ Q:=
 sd_then (PS.mono (ps_set hN hi hx he hs hf) fun Q' σ H z0=>el33 z0 fun hv hρ' A hl S f=>⟨_,vz_open S true false,S.env hl true false,fun v H1 s1 i1=>by
  obtain⟨l,xs,rfl,at',j⟩:=in_lst.mp i1
  obtain⟨w,r,rfl,iw,jr⟩:=ins_cons.mp j
  cases ins_nil.mp jr
  obtain⟨a,ys,rfl,at2,j2⟩:=in_lst.mp iw
  cases ins_nil.mp j2
  obtain⟨e1,e2⟩:H1 l=some (.lst [.ref a])/\H l=none:=by
   rcases at' with z|z
   . exact z
   . exact absurd z.1 (by simp[out,nw])
  obtain⟨e3,e4⟩:H1 a=some (.lst [])/\H a=none:=by
   rcases at2 with z|z
   . exact z
   . exact absurd z.1 (by simp[out,nw])
  have nla:l≠a:=ne_of e1 e3 (by intro z;cases z)
  refine f.nx _ H1 ⟨_,putA A i [l,a],by simp[hl],?_,rfl⟩
  rw[<-set_app (by omega), <-set_app hρ]
  exact S.put (by rw[List.length_append];omega) (by rw[List.length_append];omega) s1 (by simp[nla]) (fun b hb=>by
   rcases mem_cons.mp hb with rfl|hb
   . exact⟨e2,.l _,e1⟩
   . have:b=a:=by simpa using hb
     subst this
     exact⟨e4,.l _,e3⟩) ⟨l,[a],rfl,rfl,e1,.cons ⟨[],e3,ins_nil.mpr rfl⟩ .nil⟩⟩) hr
theorem set_self{α:Type}{l:List α}{i:Nat}{v:α}(h:l[i]? =some v):l.set i v=l:=by
 obtain⟨hi,e⟩:=List.getElem?_eq_some_iff.mp h
 rw[<-e,List.set_getElem_self]
theorem StIn.ow{K:PySem.W.Frag}{H:Hp}{σ hv:St}{hρ:Rho}{A:Nat->List Addr}{i:Nat}(S:StIn K F H (σ++hv) (ρ++hρ) A)(hl:σ.length=ρ.length)(h:ρ[i]? =some (some (.ow fr ds))):
 ∃l xs,σ[i]? =some (some (.ref l))/\A i=[l]/\H l=some (.lst xs)/\Ins K H (zn F (Owned A) fr) ds xs:=by
 have hi:i<ρ.length:=(List.getElem?_eq_some_iff.mp h).1
 obtain⟨v,a,l,xs,e1,rfl,e2,j⟩:=S.at' i _ (by rw[getElem?_append_left hi];exact h)
 rw[getElem?_append_left (by omega)]at a
 exact⟨l,xs,a,e1,e2,j⟩
theorem put_ow{K:PySem.W.Frag}{hv:St}{hρ:Rho}{σ:St}{H:Hp}{A:Nat->List Addr}{i:Nat}{l:Addr}{xs ys:List V}{es:List D}(hl:σ.length=ρ.length)(S:StIn K F H (σ++hv) (ρ++hρ) A)(h:σ[i]? =some (some (.ref l)))(hA:A i=[l])(hx:H l=some (.lst xs))
 (j:Ins K H (zn F (Owned A) fr) es ys):StOk K F hv hρ (fun r=>r=ρ.set i (some (.ow fr es))) σ (upd H l (.lst ys)):=by
 have hi:i<σ.length:=(List.getElem?_eq_some_iff.mp h).1
 refine⟨_,putA A i [l],by simp[hl],?_,rfl⟩
 have key:=S.re (i:=i) (v:=.ref l) (sl:=.ow fr es) (l:=[l]) (H2:=upd H l (.lst ys)) (by rw[List.length_append];omega) (by rw[List.length_append];omega) (S.same.write (S.new i l (by rw[hA];simp)) hx) (fun b o e _ hb=>?_) nodup1 (fun a ha=>?_) ⟨l,ys,rfl,rfl,upd_same,?_⟩
 . rw[set_self (by rw[getElem?_append_left hi];exact h),set_app (by omega)]at key
   exact key
 . rw[hA]at hb
   have:b≠l:=by simpa using hb
   rw[upd_ne this];exact e
 . have:a=l:=by simpa using ha
   subst this
   exact⟨.inl (by rw[hA];simp),.l ys,upd_same⟩
 . have eqA:putA A i [l]=A:=by
    funext k
    by_cases q:k=i
    . rw[q,putA_same,hA]
    . rw[putA_ne q]
   rw[eqA]
   refine j.carry (.write hx ?_)
   unfold zn
   have o:Owned A l:=⟨i,by rw[hA];simp⟩
   cases fr
   . exact fun z=>z.2 o
   . exact fun z=>z.2 o
theorem sd_appendF(i:Nat){x:Str}{ap cp:Pos}{ds:List D}(fr:Bool){d:D}(h:ρ[i]? =some (some (.ow fr ds)):=by rfl)(he:E X m1 (view true false ρ) e d)(fl:d.flat=true)(hz:ds.length<1000)(hr:SD X F rest (ρ.set i (some (.ow fr (ds++[d])))) Q)
 (hN:X.N[i]? =some x:=by rfl)(hv:Vis X.env.scope x:=by first|exact Or.inl rfl|exact Or.inr (Or.inl rfl)|exact Or.inr (Or.inr rfl))(hd:(x==("__debug__":Str))=false:=by decide)(hcd:(x==("__classdict__":Str))=false:=by decide)
 (hbase:attributeBase (.Name x p) "append" X.env (eval (.Name x p) X.env)=eval (.Name x p) X.env:=by rfl)(hline:(ap.endLine==cp.line)=true:=by rfl)
 (hs:starEach [e] X.env=[(false,eval e X.env)]:=by rfl)(hsw:swapsWith (.Call (.Attribute (.Name x p) "append" ap) [e] [] cp) none pos.line X.env=pure false:=by rfl):
 SD X F (.Expr (.Call (.Attribute (.Name x p) "append" ap) [e] [] cp) pos::rest) ρ Q:=by
 refine sd_then (PS.mono (ps_expr (pe_bm PySem.F.plainAttrs_list PySem.F.slot_list_append PySem.F.type_list_append mt_append (pe_var hN hv hd hcd) (pa_cons he pa_nil (by rw[hs];rfl)) hbase (by rw[hs];rfl) hline (by rw[hs];rfl) rfl) hsw) ?_) hr
 rintro Q' σ H ⟨hv,hρ,A,hl,S,f⟩
 obtain⟨l,xs,e1,e2,e3,j⟩:=S.ow hl h
 refine⟨.ref l,e1,.inl ⟨rfl,xs,SqL.of e3⟩,_,vz_open S true false,S.env hl true false,fun v H1 s1 i1=>?_⟩
 refine⟨l,xs,v,rfl,rfl,s1.at e3,by rw[<-j.length];exact small1000 (by omega),f.nx _ _ (put_ow hl (S.grow s1) e1 e2 (s1.at e3) ((j.same s1).append (Ins.one (i1.flat' fl))))⟩
end
theorem strsAre_of{zs:List Str}:∀{us:List Value},Vals (zs.map V.str) us->StrsAre us zs:=by
 induction zs with
 |nil=>intro us r;rw[map_nil]at r;cases r;exact .nil
 |cons n ns ih=>
  intro us r
  rw[map_cons]at r
  cases r with
  |cons r1 r2=>
   obtain⟨t,e⟩:=r1
   subst e
   exact .cons n t (ih r2)
theorem vals_of_strs:∀(l:List (Str×Tok)),Vals ((l.map (·.1)).map V.str) (strValues l)
 |[]=>.nil
 |(x,t)::l=>.cons ⟨t,rfl⟩ (vals_of_strs l)
section
variable{X:Cx}
theorem mt_join:MtR X "str.join" (fun x xs H Q=>∃sep l zs,x=.str sep/\xs=[.ref l]/\SqL X.K H l (zs.map V.str)/\sep.length<=16/\(zs.map (·.length)).sum+zs.length<=1048576/\Q (.str (Txt.join sep zs)) H):=by
 intro pins s σ H x xs v us Q I rx rs h
 obtain⟨sep,l,zs,rfl,rfl,hl,h1,h2,q⟩:=h
 obtain⟨t,rfl⟩:=rx
 obtain⟨u,rfl,ru⟩:=Vals.one rs
 cases ru
 obtain⟨its,r,pl,hz⟩:=I.list hl
 exact join_listW pl.isList (by simpa using strsAre_of r) h1 h2 fun t' k=>⟨.str (Txt.join sep zs),H,I.tok _,⟨_,rfl⟩,q⟩
theorem mt_lower:MtR X "str.lower" (fun x xs H Q=>∃z,x=.str z/\xs=[]/\z.length<=5592405/\Q (.str (Txt.lower z)) H):=by
 intro pins s σ H x xs v us Q I rx rs h
 obtain⟨z,rfl,rfl,h1,q⟩:=h
 obtain⟨t,rfl⟩:=rx
 cases Vals.zero rs
 exact SCL.lower h1 fun _=>⟨.str (Txt.lower z),H,I.tok _,⟨_,rfl⟩,q⟩
theorem mt_upper:MtR X "str.upper" (fun x xs H Q=>∃z,x=.str z/\xs=[]/\z.length<=5592405/\Q (.str (Txt.upper z)) H):=by
 intro pins s σ H x xs v us Q I rx rs h
 obtain⟨z,rfl,rfl,h1,q⟩:=h
 obtain⟨t,rfl⟩:=rx
 cases Vals.zero rs
 exact SCL.upper h1 fun _=>⟨.str (Txt.upper z),H,I.tok _,⟨_,rfl⟩,q⟩
theorem newStrs{pins:List (Addr×Obj)}{σ:St}{H:Hp}{s:Shared}(I:Inv X pins σ H s){l:List (Str×Tok)}{k:Nat}(hz:l.length<=sizeLine):
 Inv X pins σ (upd H s.heap.objs.size (.lst ((l.map (·.1)).map V.str))) {s with heap:=s.heap.push {cls:=.type "list",data:=.seq (strValues l).toArray},toks:=k}:=
 I.laid (fun b u e=>get?_push_of_some _ e) (Nat.le_refl _) ⟨by simpa using hz,strValues l,0,vals_of_strs l,get?_push_size _ rfl⟩
theorem mt_split0:MtR X "str.split" (fun x xs H Q=>∃z,x=.str z/\xs=[]/\z.length<=sizeLine/\(Builtin.Str.spaceWords z (z.length+1)).length<=sizeLine/\ ∀p,H p=none->Q (.ref p) (upd H p (.lst ((Txt.words z).map V.str)))):=by
 intro pins s σ H x xs v us Q I rx rs h
 obtain⟨z,rfl,rfl,h1,h2,q⟩:=h
 obtain⟨t,rfl⟩:=rx
 cases Vals.zero rs
 have fr:=I.hok.fresh (Nat.le_refl _)
 refine call_meets F.slot_str_split (typeIs_str _ _ _) F.entry_str_split (F.args_str_split_1 _) (meets_str_split_space z t h1 h2) ?_
 cases hw:Builtin.Str.spaceWords z (z.length+1)==[(0,z.length)]
 . simp only[Bool.false_eq_true,if_false]
   rw[strsFrom_eq]
   have e:(numbered s.toks (wordsOf z)).map (·.1)=Txt.words z:=(numbered_texts _ _).trans (if_neg (ne_true_of_eq_false hw)).symm
   have hl:(numbered s.toks (wordsOf z)).length<=sizeLine:=by
    have:(numbered s.toks (wordsOf z)).length=((numbered s.toks (wordsOf z)).map (·.1)).length:=by simp
    rw[this,numbered_texts]
    simpa[wordsOf]using h2
   refine⟨.ref s.heap.objs.size,_,newStrs I hl,rfl,?_⟩
   rw[e]
   exact q _ fr
 . simp only[if_true]
   have e:[(z,t)].map (·.1)=Txt.words z:=(if_pos hw).symm
   refine⟨.ref s.heap.objs.size,_,newStrs I (l:=[(z,t)]) (k:=s.toks) (by simp;exact Nat.le_of_lt (small1000 (by decide))),rfl,?_⟩
   rw[e]
   exact q _ fr
theorem mt_split1:MtR X "str.split" (fun x xs H Q=>∃z y,x=.str z/\xs=[.str y]/\(y.length==0)=false/\z.length<=sizeLine/\(Builtin.Str.partsBetween z (Builtin.Str.occurrences z y 0 z.length (z.length+1)) y.length).length<=sizeLine/\
 ∀p,H p=none->Q (.ref p) (upd H p (.lst ((Txt.split z y).map V.str)))):=by
 intro pins s σ H x xs v us Q I rx rs h
 obtain⟨z,y,rfl,rfl,hy,h1,h2,q⟩:=h
 obtain⟨t,rfl⟩:=rx
 obtain⟨u',rfl,ru⟩:=Vals.one rs
 obtain⟨u,rfl⟩:=ru
 have fr:=I.hok.fresh (Nat.le_refl _)
 have one:∀k,Txt.split z y=[z]->EP X pins σ Q (.ref s.heap.objs.size) {s with heap:=s.heap.push {cls:=.type "list",data:=.seq (strValues [(z,t)]).toArray},toks:=k}:=fun k e=>by
  refine⟨.ref s.heap.objs.size,_,newStrs I (l:=[(z,t)]) (k:=k) (by simp;exact Nat.le_of_lt (small1000 (by decide))),rfl,?_⟩
  have e':[(z,t)].map (·.1)=Txt.split z y:=e.symm
  rw[e']
  exact q _ fr
 cases h3:(decide (z.length<y.length)||decide (Builtin.Str.strKind z<Builtin.Str.strKind y))
 . cases hf:(Builtin.Str.occurrences z y 0 z.length (z.length+1)).isEmpty
   . refine call_meets F.slot_str_split (typeIs_str _ _ _) F.entry_str_split (F.args_str_split_2 _ _) (meets_str_split_sep z y t u h3 hy hf h1 h2) ?_
     show wants _ _ _ {s with toks:=_,heap:=s.heap.push {cls:=.type "list",data:=.seq (strsFrom s.toks (Builtin.Str.partsBetween z (Builtin.Str.occurrences z y 0 z.length (z.length+1)) y.length)).toArray}}
     rw[strsFrom_eq]
     have e:(numbered s.toks (Builtin.Str.partsBetween z (Builtin.Str.occurrences z y 0 z.length (z.length+1)) y.length)).map (·.1)=Txt.split z y:=(numbered_texts _ _).trans ((if_neg (ne_true_of_eq_false h3)).trans (if_neg (ne_true_of_eq_false hf))).symm
     have hl:(numbered s.toks (Builtin.Str.partsBetween z (Builtin.Str.occurrences z y 0 z.length (z.length+1)) y.length)).length<=sizeLine:=by
      have:∀l:List (Str×Tok),l.length=(l.map (·.1)).length:=fun l=>by simp
      rw[this,numbered_texts]
      exact h2
     refine⟨.ref s.heap.objs.size,_,newStrs I hl,rfl,?_⟩
     rw[e]
     exact q _ fr
   . exact call_meets F.slot_str_split (typeIs_str _ _ _) F.entry_str_split (F.args_str_split_2 _ _) (meets_str_split_not_found z y t u h3 hy hf)
      (one s.toks ((if_neg (ne_true_of_eq_false h3)).trans (if_pos hf)))
 . exact call_meets F.slot_str_split (typeIs_str _ _ _) F.entry_str_split (F.args_str_split_2 _ _) (meets_str_split_cannot_occur z y t u h3) (one s.toks (if_pos h3))
theorem sl_str:SlR X (fun x lo hi H Q=>∃z,x=.str z/\z.length<=sizeLine/\Q (.str (Txt.slice z lo hi)) H):=by
 intro pins s σ H x v vl vu lo hi sl Q I rx hs pl pu h
 obtain⟨z,rfl,hz,q⟩:=h
 obtain⟨t,rfl⟩:=rx
 refine⟨"str",_,F.slot_str_getitem.lookup,typeIs_str _ _ _,?_⟩
 have fin:∀t' k,EP X pins σ Q (.str (Txt.slice z lo hi) t') {s with toks:=k}:=fun t' k=>⟨.str (Txt.slice z lo hi),H,I.tok k,⟨_,rfl⟩,q⟩
 have key:∀(l u:Option (Int×Tok)),vl=partValue l->vu=partValue u->l.map (·.1)=lo->u.map (·.1)=hi->wpAny (model X.prog X.w) X.A (getItem (.str z t) (.ref sl)) (EP X pins σ Q) X.xe s:=fun l u e1 e2 e3 e4=>by
  subst e1 e2 e3 e4
  exact wpAny_getItem_str_slice (l:=l) (u:=u) (st:=none) hs rfl (post_val_or_str ⟨Nat.le_trans (Txt.slice_le z _ _) hz,fun t' k=>fin t' k⟩)
 cases pl with
 |none=>
  cases pu with
  |none=>exact key none none rfl rfl rfl rfl
  |int j tj=>exact key none (some (j,tj)) rfl rfl rfl rfl
 |int i ti=>
  cases pu with
  |none=>exact key (some (i,ti)) none rfl rfl rfl rfl
  |int j tj=>exact key (some (i,ti)) (some (j,tj)) rfl rfl rfl rfl
end
section
variable{X:Cx}{ρ:List (Option D)}{m m1 m2:Bool}{a e o:Expr}{d:D}{pos p ap cp:Pos}{ds:List D}
theorem e_join{sep:Str}{zs:List Str}(ho:E X m1 ρ o (.str sep))(ha:E X m2 ρ a (.lst (zs.map D.str)))(h1:sep.length<=16)(h2:(zs.map (·.length)).sum+zs.length<=1048576)
 (hbase:attributeBase o "join" X.env (eval o X.env)=eval o X.env:=by rfl)(hline:(ap.endLine==cp.line)=true:=by rfl)(hs:starEach [a] X.env=[(false,eval a X.env)]:=by rfl):E X true ρ (.Call (.Attribute o "join" ap) [a] [] cp) (.str (Txt.join sep zs)):=
 PE.mono (pe_bm F.plainAttrs_str F.slot_str_join F.type_str_join mt_join ho (pa_cons ha pa_nil (by rw[hs];rfl)) hbase (by rw[hs];rfl) hline (by rw[hs];rfl) rfl) fun σ H Q z0=>el13 z0 fun Z oz en k=>⟨Z,oz,en,fun x H1 s1 i1=>by
  cases in_str.mp (i1.plain oz)
  refine⟨rfl,Z,oz.same s1,en.same s1,fun y H2 s2 i2=>?_⟩
  obtain⟨l,xs,rfl,at',j⟩:=in_lst.mp (i2.plain (oz.same s1))
  rw[ins_strs_inv j]at at'
  exact⟨sep,l,zs,rfl,rfl,at'.sq,h1,h2,k _ H2 (s1.trans s2) (in_str.mpr rfl)⟩⟩
theorem e_lower{z:Str}(ho:E X m1 ρ o (.str z))(h1:z.length<=5592405)(hbase:attributeBase o "lower" X.env (eval o X.env)=eval o X.env:=by rfl)(hline:(ap.endLine==cp.line)=true:=by rfl):E X true ρ (.Call (.Attribute o "lower" ap) [] [] cp) (.str (Txt.lower z)):=
 PE.mono (pe_bm0 F.plainAttrs_str F.slot_str_lower F.type_str_lower mt_lower ho hbase hline) fun σ H Q z0=>el13 z0 fun Z oz en k=>⟨Z,oz,en,fun x H1 s1 i1=>by
  cases in_str.mp (i1.plain oz)
  exact⟨rfl,z,rfl,rfl,h1,k _ H1 s1 (in_str.mpr rfl)⟩⟩
theorem e_upper{z:Str}(ho:E X m1 ρ o (.str z))(h1:z.length<=5592405)(hbase:attributeBase o "upper" X.env (eval o X.env)=eval o X.env:=by rfl)(hline:(ap.endLine==cp.line)=true:=by rfl):E X true ρ (.Call (.Attribute o "upper" ap) [] [] cp) (.str (Txt.upper z)):=
 PE.mono (pe_bm0 F.plainAttrs_str F.slot_str_upper F.type_str_upper mt_upper ho hbase hline) fun σ H Q z0=>el13 z0 fun Z oz en k=>⟨Z,oz,en,fun x H1 s1 i1=>by
  cases in_str.mp (i1.plain oz)
  exact⟨rfl,z,rfl,rfl,h1,k _ H1 s1 (in_str.mpr rfl)⟩⟩
theorem e_slS{z:Str}{lo hi:Option Expr}{l u:Option Int}{p2:Pos}(ha:E X m1 ρ a (.str z))(hl:EO X ρ lo l)(hu:EO X ρ hi u)(hz:z.length<=sizeLine):E X true ρ (.Subscript a (.Slice lo hi none p2) pos) (.str (Txt.slice z l u)):=
 PE.mono (pe_slice sl_str ha hl hu) fun σ H Q z0=>el13 z0 fun Z oz en k=>⟨Z,oz,en,fun x H1 s1 i1=>⟨Z,oz.same s1,en.same s1,fun H2 s2=>⟨Z,oz.same (s1.trans s2),en.same (s1.trans s2),fun H3 s3=>
  ⟨z,in_str.mp (i1.plain oz),hz,k _ H3 ((s1.trans s2).trans s3) (in_str.mpr rfl)⟩⟩⟩⟩
theorem e_split0{z:Str}(ho:E X m1 ρ o (.str z))(h1:z.length<=sizeLine)(h2:(Builtin.Str.spaceWords z (z.length+1)).length<=sizeLine)(hbase:attributeBase o "split" X.env (eval o X.env)=eval o X.env:=by rfl)(hline:(ap.endLine==cp.line)=true:=by rfl):
 E X true ρ (.Call (.Attribute o "split" ap) [] [] cp) (.lst ((Txt.words z).map D.str)):=
 E.mode (PE.mono (pe_bm0 F.plainAttrs_str F.slot_str_split F.type_str_split mt_split0 ho hbase hline) fun σ H Q z0=>el13 z0 fun Z oz en k=>⟨Z,oz,en,fun x H1 s1 i1=>by
  cases in_str.mp (i1.plain oz)
  exact⟨rfl,z,rfl,rfl,h1,h2,fun p hp=>k _ _ (s1.trans (same_new hp)) (in_lst.mpr ⟨p,_,rfl,.inl ⟨upd_same,s1.free hp⟩,ins_strs _⟩)⟩⟩)
theorem e_split1{z y:Str}(ho:E X m1 ρ o (.str z))(ha:E X m2 ρ a (.str y))(hy:(y.length==0)=false)(h1:z.length<=sizeLine)(h2:(Builtin.Str.partsBetween z (Builtin.Str.occurrences z y 0 z.length (z.length+1)) y.length).length<=sizeLine)
 (hbase:attributeBase o "split" X.env (eval o X.env)=eval o X.env:=by rfl)(hline:(ap.endLine==cp.line)=true:=by rfl)(hs:starEach [a] X.env=[(false,eval a X.env)]:=by rfl):
 E X true ρ (.Call (.Attribute o "split" ap) [a] [] cp) (.lst ((Txt.split z y).map D.str)):=
 E.mode (PE.mono (pe_bm F.plainAttrs_str F.slot_str_split F.type_str_split mt_split1 ho (pa_cons ha pa_nil (by rw[hs];rfl)) hbase (by rw[hs];rfl) hline (by rw[hs];rfl) rfl) fun σ H Q z0=>el13 z0 fun Z oz en k=>⟨Z,oz,en,fun x H1 s1 i1=>by
  cases in_str.mp (i1.plain oz)
  refine⟨rfl,Z,oz.same s1,en.same s1,fun w H2 s2 i2=>?_⟩
  cases in_str.mp (i2.plain (oz.same s1))
  exact⟨z,y,rfl,rfl,hy,h1,h2,fun p hp=>k _ _ ((s1.trans s2).trans (same_new hp)) (in_lst.mpr ⟨p,_,rfl,.inl ⟨upd_same,(s1.trans s2).free hp⟩,ins_strs _⟩)⟩⟩)
theorem e_lenL(ha:E X m1 ρ a (.lst ds))(hm:X.mg "len"=none)(hg:Gl X "len":=by rfl)(hs:starEach [a] X.env=[(false,eval a X.env)]:=by rfl):E X true ρ (.Call (.Name "len" p) [a] [] pos) (.int ds.length):=
 PE.mono (pe_callB call_len_seq hg hm PySem.boot_len (pa_cons ha pa_nil (by rw[hs];rfl)) (by decide) (by decide) (by rw[hs];rfl) rfl) fun σ H Q z0=>el13 z0 fun Z oz en k=>⟨Z,oz,en,fun x H1 s1 i1=>by
  obtain⟨l,xs,rfl,at',j⟩:=in_lst.mp (i1.plain oz)
  exact⟨l,xs,rfl,.inl at'.sq,k _ H1 s1 (in_int.mpr (by rw[j.length]))⟩⟩
theorem e_lenS{z:Str}(ha:E X m1 ρ a (.str z))(hz:z.length<=sizeLine)(hm:X.mg "len"=none)(hg:Gl X "len":=by rfl)(hs:starEach [a] X.env=[(false,eval a X.env)]:=by rfl):E X true ρ (.Call (.Name "len" p) [a] [] pos) (.int z.length):=
 PE.mono (pe_callB call_len_str hg hm PySem.boot_len (pa_cons ha pa_nil (by rw[hs];rfl)) (by decide) (by decide) (by rw[hs];rfl) rfl) fun σ H Q z0=>el13 z0 fun Z oz en k=>⟨Z,oz,en,fun x H1 s1 i1=>by
  cases in_str.mp (i1.plain oz)
  exact⟨z,rfl,hz,k _ H1 s1 (in_int.mpr rfl)⟩⟩
theorem e_listL(ha:E X m1 ρ a (.lst ds))(hm:X.mg "list"=none)(hmm:m=true->m1=true\/flats ds=true:=by intro h;first|exact .inl h|cases h)(hg:Gl X "list":=by rfl)(hs:starEach [a] X.env=[(false,eval a X.env)]:=by rfl):E X m ρ (.Call (.Name "list" p) [a] [] pos) (.lst ds):=
 PE.mono (pe_callTy call_list_of hg hm boot_list (pa_cons ha pa_nil (by rw[hs];rfl)) (by decide) (by decide) (by rw[hs];rfl) rfl) fun σ H Q z0=>el13 z0 fun Z oz en k=>⟨Z,oz,en,fun x H1 s1 i1=>by
  obtain⟨l,xs,rfl,at',j⟩:=in_lst.mp i1
  refine⟨l,xs,rfl,.inl at'.sq,fun q hq=>k (.ref q) _ (s1.trans (same_new hq)) (in_lst.mpr ⟨q,xs,rfl,.inl ⟨upd_same,?_⟩,?_⟩)⟩
  . cases m
    . exact oz q (s1.free hq)
    . exact s1.free hq
  . have jc:=j.same (same_new (o:=.lst xs) hq)
    cases m
    . cases m1
      . exact jc
      . exact jc.up oz
    . rcases hmm rfl with h|h
      . subst h;exact jc
      . exact jc.flat' h⟩
end
def keq:Key->D->Bool
 |.inl a,.int b=>a==b
 |.inl a,.bl b=>a==(if b then 1 else 0)
 |.inr a,.str b=>a==b
 |_,_=>false
def keqs:List Key->List D->Bool
 |[],[]=>true
 |k::ks,d::ds=>keq k d&&keqs ks ds
 |_,_=>false
mutual
def deq:D->D->Bool
 |.non,.non=>true
 |.bl a,.bl b=>a==b
 |.bl a,.int b=>(if a then 1 else 0)==b
 |.int a,.bl b=>a==(if b then 1 else 0)
 |.int a,.int b=>a==b
 |.str a,.str b=>a==b
 |.lst a,.lst b=>deqs a b
 |.tup a,.tup b=>deqs a b
 |.tup a,.ktup ks=>deqs a (ks.map kD)
 |.dct _,.dct _=>true
 |.agg _ _,.agg _ _=>true
 |.ktup ks,.tup b=>keqs ks b
 |.ktup ks,.ktup ks'=>keqs ks (ks'.map kD)
 |_,_=>false
def deqs:List D->List D->Bool
 |[],[]=>true
 |a::as,b::bs=>deq a b&&deqs as bs
 |_,_=>false
end
mutual
def D.dep:D->Nat
 |.lst ds=>deps ds+1
 |.tup ds=>deps ds+1
 |.dct _=>100000
 |.agg _ _=>100000
 |.ktup _=>1
 |_=>0
def deps:List D->Nat
 |[]=>0
 |d::ds=>max d.dep (deps ds)
end
theorem deps_mem:∀{ds:List D} {d:D},d∈ds->d.dep<=deps ds
 |[],_,h=>by simp at h
 |e::ds,d,h=>by
  unfold deps
  rcases mem_cons.mp h with rfl|h
  . exact Nat.le_max_left _ _
  . exact Nat.le_trans (deps_mem h) (Nat.le_max_right _ _)
theorem keqs_refl:∀ks:List Key,keqs ks (ks.map kD)=true
 |[]=>rfl
 |.inl a::ks=>by simp[keqs,keq,kD,keqs_refl ks]
 |.inr a::ks=>by simp[keqs,keq,kD,keqs_refl ks]
mutual
theorem deq_refl:∀d:D,deq d d=true
 |.non=>by simp[deq]
 |.bl _=>by simp[deq]
 |.int _=>by simp[deq]
 |.str _=>by simp[deq]
 |.lst ds=>by simp[deq,deqs_refl ds]
 |.tup ds=>by simp[deq,deqs_refl ds]
 |.dct _=>by simp[deq]
 |.agg _ _=>by simp[deq]
 |.ktup ks=>by simp only[deq];exact keqs_refl ks
theorem deqs_refl:∀ds:List D,deqs ds ds=true
 |[]=>by simp[deqs]
 |d::ds=>by simp[deqs,deq_refl d,deqs_refl ds]
end
theorem deqs_range:∀(ds es:List D),((List.range (min ds.length es.length)).all (fun j=>deq (ds.getD j .non) (es.getD j .non))&&ds.length==es.length)=deqs ds es
 |[],[]=>by simp[deqs]
 |[],_::_=>by simp[deqs]
 |_::_,[]=>by simp[deqs]
 |a::as,b::bs=>by
  have ih:=deqs_range as bs
  rw[deqs, <-ih]
  have hm:min (a::as).length (b::bs).length=min as.length bs.length+1:=by simp<;>omega
  rw[hm,List.range_succ_eq_map,List.all_cons,List.all_map]
  simp[Function.comp_def,Bool.and_assoc]
def Told{α:Type}[DecidableEq α](f:α->D):Prop:=∀a b,deq (f a) (f b)=decide (a=b)
section
variable{α β:Type}[DecidableEq α][DecidableEq β]{f:α->D}{g:β->D}
theorem told_str:Told D.str:=fun a b=>by simp only[deq];by_cases h:a=b<;>simp[h]
theorem told_all(h:Told f):∀(as bs:List α),deqs (as.map f) (bs.map f)=decide (as=bs)
 |[],[]=>by simp[deqs]
 |[],_::_=>by simp[deqs]
 |_::_,[]=>by simp[deqs]
 |a::as,b::bs=>by
  simp only[map_cons,deqs]
  rw[h a b,told_all h as bs]
  by_cases h1:a=b<;>by_cases h2:as=bs<;>simp[h1,h2]
theorem told_list(h:Told f):Told (fun l:List α=>D.lst (l.map f)):=fun a b=>by simp only[deq];exact told_all h a b
end
section
variable{X:Cx}{pins:List (Addr×Obj)}{σ:St}{H:Hp}{s:Shared}{Z Z':Zone}
theorem dct_at{a:Addr}{o:DO}(I:Inv X pins σ H s)(h:H a=some o.ho):DEq.IsDct s.heap a:=by
 cases o with
 |k kvs=>
  obtain⟨_,_,vs,_,⟨cls,dd,data,sl⟩,es,ep,h1,h2,h3,_⟩:=dk_of I.hok h
  have hc:cls=.type "dict":=h2.1
  have hd:data=.dict es ep:=h3
  subst hc hd
  exact⟨dd,es,ep,sl,h1⟩
 |t kvs=>
  obtain⟨_,_,vs,_,⟨cls,dd,data,sl⟩,es,ep,h1,h2,h3,_⟩:=dt_of I.hok h
  have hc:cls=.type "dict":=h2.1
  have hd:data=.dict es ep:=h3
  subst hc hd
  exact⟨dd,es,ep,sl,h1⟩
 |f b kvs=>
  obtain⟨_,_,vs,_,⟨cls,dd,data,sl⟩,es,ep,h1,h2,h3,_⟩:=dk_rd I.hok (.inr ⟨b,h⟩)
  have hc:cls=.type "dict":=h2.1
  have hd:data=.dict es ep:=h3
  subst hc hd
  exact⟨dd,es,ep,sl,h1⟩
theorem kfree{a:Addr}{ks:List Key}(I:Inv X pins σ H s)(h:KTup X.K a ks):H a=none:=by
 obtain⟨o,_,_,hk,_⟩:=h
 exact(I.bs a o (I.mod.kin a o hk)).2
theorem sq_not_dct{a:Addr}{xs:List V}{o:DO}(I:Inv X pins σ H s)(h:SqL X.K H a xs)(h':H a=some o.ho):False:=by
 obtain⟨_,_,⟨ob,n,e,c,_⟩,_⟩:=I.list h
 obtain⟨dd,es,ep,sl,e'⟩:=dct_at I h'
 rw[e]at e'
 cases e'
 exact absurd c (by simp)
theorem lst_not_tup{a:Addr}{xs ys:List V}(I:Inv X pins σ H s)(h:SqL X.K H a xs)(h':SqT X.K H a ys):False:=by
 obtain⟨_,_,⟨o,n,e,c,_⟩,_⟩:=I.list h
 obtain⟨_,_,⟨o',e',c',_⟩,_⟩:=I.tuple h'
 rw[e]at e';cases e'
 rw[c]at c'
 exact absurd c' (by decide)
mutual
theorem In.inj(I:Inv X pins σ H s):∀{d d':D} {v:V},In X.K H Z d v->In X.K H Z' d' v->d=d'
 |.non,d',v,h,h'=>by
  rw[in_non.mp h]at h'
  cases d' with
  |non=>rfl
  |bl b=>cases in_bl.mp h'
  |int b=>cases in_int.mp h'
  |str b=>cases in_str.mp h'
  |lst b=>obtain⟨_,_,e,_⟩:=in_lst.mp h';cases e
  |tup b=>obtain⟨_,_,e,_⟩:=in_tupS h';cases e
  |dct b=>obtain⟨_,e,_⟩:=in_dct.mp h';cases e
  |ktup b=>obtain⟨_,e,_⟩:=in_ktup.mp h';cases e
  |agg s b=>exact absurd h' in_agg
 |.bl x,d',v,h,h'=>by
  rw[in_bl.mp h]at h'
  cases d' with
  |non=>cases in_non.mp h'
  |bl b=>cases in_bl.mp h';rfl
  |int b=>cases in_int.mp h'
  |str b=>cases in_str.mp h'
  |lst b=>obtain⟨_,_,e,_⟩:=in_lst.mp h';cases e
  |tup b=>obtain⟨_,_,e,_⟩:=in_tupS h';cases e
  |dct b=>obtain⟨_,e,_⟩:=in_dct.mp h';cases e
  |ktup b=>obtain⟨_,e,_⟩:=in_ktup.mp h';cases e
  |agg s b=>exact absurd h' in_agg
 |.int x,d',v,h,h'=>by
  rw[in_int.mp h]at h'
  cases d' with
  |non=>cases in_non.mp h'
  |bl b=>cases in_bl.mp h'
  |int b=>cases in_int.mp h';rfl
  |str b=>cases in_str.mp h'
  |lst b=>obtain⟨_,_,e,_⟩:=in_lst.mp h';cases e
  |tup b=>obtain⟨_,_,e,_⟩:=in_tupS h';cases e
  |dct b=>obtain⟨_,e,_⟩:=in_dct.mp h';cases e
  |ktup b=>obtain⟨_,e,_⟩:=in_ktup.mp h';cases e
  |agg s b=>exact absurd h' in_agg
 |.str x,d',v,h,h'=>by
  rw[in_str.mp h]at h'
  cases d' with
  |non=>cases in_non.mp h'
  |bl b=>cases in_bl.mp h'
  |int b=>cases in_int.mp h'
  |str b=>cases in_str.mp h';rfl
  |lst b=>obtain⟨_,_,e,_⟩:=in_lst.mp h';cases e
  |tup b=>obtain⟨_,_,e,_⟩:=in_tupS h';cases e
  |dct b=>obtain⟨_,e,_⟩:=in_dct.mp h';cases e
  |ktup b=>obtain⟨_,e,_⟩:=in_ktup.mp h';cases e
  |agg s b=>exact absurd h' in_agg
 |.lst ds,d',v,h,h'=>by
  obtain⟨a,xs,rfl,l,j⟩:=in_lst.mp h
  cases d' with
  |non=>cases in_non.mp h'
  |bl b=>cases in_bl.mp h'
  |int b=>cases in_int.mp h'
  |str b=>cases in_str.mp h'
  |lst es=>
   obtain⟨_,ys,e,l',j'⟩:=in_lst.mp h'
   cases e
   have:=I.list_inj l.sq l'.sq
   subst this
   rw[Ins.inj I j j']
  |tup es=>
   obtain⟨_,ys,e,l',j'⟩:=in_tupS h'
   cases e
   exact(lst_not_tup I l.sq l').elim
  |dct o=>
   obtain⟨_,e,l',_⟩:=in_dct.mp h'
   cases e
   exact(sq_not_dct I l.sq l').elim
  |agg s b=>exact absurd h' in_agg
  |ktup ks=>
   obtain⟨_,e,l'⟩:=in_ktup.mp h'
   cases e
   exact(lst_not_tup I l.sq l'.sq).elim
 |.tup ds,d',v,h,h'=>by
  obtain⟨a,xs,rfl,l,j⟩:=in_tupS h
  cases d' with
  |non=>cases in_non.mp h'
  |bl b=>cases in_bl.mp h'
  |int b=>cases in_int.mp h'
  |str b=>cases in_str.mp h'
  |lst es=>
   obtain⟨_,ys,e,l',j'⟩:=in_lst.mp h'
   cases e
   exact(lst_not_tup I l'.sq l).elim
  |tup es=>
   obtain⟨_,ys,e,l',j'⟩:=in_tupS h'
   cases e
   have:=I.tuple_inj l l'
   subst this
   rw[Ins.inj I j j']
  |dct o=>
   obtain⟨_,e,l',_⟩:=in_dct.mp h'
   cases e
   obtain⟨_,_,e,l,_⟩:=in_tup.mp h
   cases e
   rw[l]at l'
   exact((MO.d o).ntup (Option.some.inj l').symm).elim
  |agg s b=>exact absurd h' in_agg
  |ktup ks=>
   obtain⟨_,e,l'⟩:=in_ktup.mp h'
   cases e
   obtain⟨_,_,e,l,_⟩:=in_tup.mp h
   cases e
   rw[kfree I l']at l
   cases l
 |.ktup ks,d',v,h,h'=>by
  obtain⟨a,rfl,l⟩:=in_ktup.mp h
  cases d' with
  |non=>cases in_non.mp h'
  |bl b=>cases in_bl.mp h'
  |int b=>cases in_int.mp h'
  |str b=>cases in_str.mp h'
  |lst es=>
   obtain⟨_,ys,e,l',_⟩:=in_lst.mp h'
   cases e
   exact(lst_not_tup I l'.sq l.sq).elim
  |tup es=>
   obtain⟨_,ys,e,l',_⟩:=in_tup.mp h'
   cases e
   rw[kfree I l]at l'
   cases l'
  |dct o=>
   obtain⟨_,e,l',_⟩:=in_dct.mp h'
   cases e
   rw[kfree I l]at l'
   cases l'
  |agg s b=>exact absurd h' in_agg
  |ktup ks'=>
   obtain⟨_,e,l'⟩:=in_ktup.mp h'
   cases e
   rw[kVs_inj (I.tuple_inj (l.sq (H:=H)) (l'.sq (H:=H)))]
 |.agg s b,d',v,h,h'=>absurd h in_agg
 |.dct o,d',v,h,h'=>by
  obtain⟨a,rfl,l,_⟩:=in_dct.mp h
  cases d' with
  |non=>cases in_non.mp h'
  |bl b=>cases in_bl.mp h'
  |int b=>cases in_int.mp h'
  |str b=>cases in_str.mp h'
  |lst es=>
   obtain⟨_,ys,e,l',_⟩:=in_lst.mp h'
   cases e
   exact(sq_not_dct I l'.sq l).elim
  |tup es=>
   obtain⟨_,ys,e,l',_⟩:=in_tup.mp h'
   cases e
   rw[l']at l
   exact((MO.d o).ntup (Option.some.inj l).symm).elim
  |dct o'=>
   obtain⟨_,e,l',_⟩:=in_dct.mp h'
   cases e
   rw[l]at l'
   rw[DO.inj (Option.some.inj l')]
  |agg s b=>exact absurd h' in_agg
  |ktup ks=>
   obtain⟨_,e,l'⟩:=in_ktup.mp h'
   cases e
   rw[kfree I l']at l
   cases l
theorem Ins.inj(I:Inv X pins σ H s):∀{ds ds':List D} {vs:List V},Ins X.K H Z ds vs->Ins X.K H Z' ds' vs->ds=ds'
 |[],ds',_,h,h'=>by
  rw[ins_nil.mp h]at h'
  cases ds' with
  |nil=>rfl
  |cons d ds=>obtain⟨_,_,e,_⟩:=ins_cons.mp h';cases e
 |d::ds,ds',_,h,h'=>by
  obtain⟨v,r,rfl,i,j⟩:=ins_cons.mp h
  cases ds' with
  |nil=>cases ins_nil.mp h'
  |cons d' ds'=>
   obtain⟨v',r',e,i',j'⟩:=ins_cons.mp h'
   cases e
   rw[In.inj I i i',Ins.inj I j j']
end
theorem keqs_is:∀(ks:List Key) (ds:List D),keqs ks ds=deqs (ks.map kD) ds
 |[],[]=>by simp[keqs,deqs]
 |[],_::_=>by simp[keqs,deqs]
 |_::_,[]=>by simp[keqs,deqs]
 |.inl a::ks,d::ds=>by
  simp only[keqs,map_cons,deqs,kD]
  rw[keqs_is ks ds]
  cases d<;>simp[keq,deq]
 |.inr a::ks,d::ds=>by
  simp only[keqs,map_cons,deqs,kD]
  rw[keqs_is ks ds]
  cases d<;>simp[keq,deq]
theorem deps_kD:∀ks:List Key,deps (ks.map kD)=0
 |[]=>by simp[deps]
 |.inl a::ks=>by simp[deps,kD,D.dep,deps_kD ks]
 |.inr a::ks=>by simp[deps,kD,D.dep,deps_kD ks]
open PySem.SeqAt in
theorem eqAt_D(I:Inv X pins σ H s):∀(n:Nat) {A:Around} {d d':D} {v v':V} {u u':Value},In X.K H Z d v->In X.K H Z' d' v'->RelV v u->RelV v' u'->d.dep<=n->A.units+n<cLine->EqAt A s u u' (deq d d'):=by
 intro n
 induction n with
 |zero=>
  intro A d d' v v' u u' i i' r r' hd hu
  have hu0:A.units<cLine:=by omega
  have key:∀{x:V},flatV x=true->v=x->(∀y,In X.K H Z' d' y->RelV y u'->EqAt A s u u' (deq d d'))->EqAt A s u u' (deq d d'):=fun _ _ h=>h v' i' r'
  cases d with
  |lst ds=>unfold D.dep at hd;omega
  |tup ds=>unfold D.dep at hd;omega
  |dct o=>unfold D.dep at hd;omega
  |ktup o=>unfold D.dep at hd;omega
  |agg s o=>unfold D.dep at hd;omega
  |non=>
   cases in_non.mp i;cases r
   cases d' with
   |non=>cases in_non.mp i';cases r';simp only[deq];exact EqAt.same _
   |bl b=>cases in_bl.mp i';cases r';simp only[deq];exact EqAt.none_bool b
   |int b=>cases in_int.mp i';obtain⟨t,rfl⟩:=r';simp only[deq];exact EqAt.none_int b t
   |str b=>cases in_str.mp i';obtain⟨t,rfl⟩:=r';simp only[deq];exact EqAt.none_str b t
   |lst b=>obtain⟨a,xs,rfl,l,j⟩:=in_lst.mp i';cases r';obtain⟨its,_,pl,_⟩:=I.list l.sq;simp only[deq];exact EqAt.none_list pl.isList hu0
   |tup b=>obtain⟨a,xs,rfl,l,j⟩:=in_tupS i';cases r';obtain⟨its,_,pl,_⟩:=I.tuple l;simp only[deq];exact EqAt.none_tuple pl hu0
   |dct b=>obtain⟨a,rfl,l,_⟩:=in_dct.mp i';cases r';simp only[deq];exact DEq.at_none (dct_at I l) hu0
   |agg s b=>exact absurd i' in_agg
   |ktup b=>obtain⟨a,rfl,l⟩:=in_ktup.mp i';cases r';obtain⟨its,_,pl,_⟩:=I.tuple (l.sq (H:=H));simp only[deq];exact EqAt.none_tuple pl hu0
  |bl x=>
   cases in_bl.mp i;cases r
   cases d' with
   |non=>cases in_non.mp i';cases r';simp only[deq];exact EqAt.bool_none x
   |bl b=>cases in_bl.mp i';cases r';simp only[deq];exact EqAt.bool_bool x b
   |int b=>cases in_int.mp i';obtain⟨t,rfl⟩:=r';simp only[deq];exact EqAt.bool_int x b t
   |str b=>cases in_str.mp i';obtain⟨t,rfl⟩:=r';simp only[deq];exact EqAt.bool_str x b t
   |lst b=>obtain⟨a,xs,rfl,l,j⟩:=in_lst.mp i';cases r';obtain⟨its,_,pl,_⟩:=I.list l.sq;simp only[deq];exact EqAt.bool_list x pl.isList hu0
   |tup b=>obtain⟨a,xs,rfl,l,j⟩:=in_tupS i';cases r';obtain⟨its,_,pl,_⟩:=I.tuple l;simp only[deq];exact EqAt.bool_tuple x pl hu0
   |dct b=>obtain⟨a,rfl,l,_⟩:=in_dct.mp i';cases r';simp only[deq];exact DEq.at_bool x (dct_at I l) hu0
   |agg s b=>exact absurd i' in_agg
   |ktup b=>obtain⟨a,rfl,l⟩:=in_ktup.mp i';cases r';obtain⟨its,_,pl,_⟩:=I.tuple (l.sq (H:=H));simp only[deq];exact EqAt.bool_tuple x pl hu0
  |int x=>
   cases in_int.mp i;obtain⟨t0,rfl⟩:=r
   cases d' with
   |non=>cases in_non.mp i';cases r';simp only[deq];exact EqAt.int_none x t0
   |bl b=>cases in_bl.mp i';cases r';simp only[deq];exact EqAt.int_bool x t0 b
   |int b=>cases in_int.mp i';obtain⟨t,rfl⟩:=r';simp only[deq];exact EqAt.int_int x t0 b t
   |str b=>cases in_str.mp i';obtain⟨t,rfl⟩:=r';simp only[deq];exact EqAt.int_str x t0 b t
   |lst b=>obtain⟨a,xs,rfl,l,j⟩:=in_lst.mp i';cases r';obtain⟨its,_,pl,_⟩:=I.list l.sq;simp only[deq];exact EqAt.int_list x t0 pl.isList hu0
   |tup b=>obtain⟨a,xs,rfl,l,j⟩:=in_tupS i';cases r';obtain⟨its,_,pl,_⟩:=I.tuple l;simp only[deq];exact EqAt.int_tuple x t0 pl hu0
   |dct b=>obtain⟨a,rfl,l,_⟩:=in_dct.mp i';cases r';simp only[deq];exact DEq.at_int x t0 (dct_at I l) hu0
   |agg s b=>exact absurd i' in_agg
   |ktup b=>obtain⟨a,rfl,l⟩:=in_ktup.mp i';cases r';obtain⟨its,_,pl,_⟩:=I.tuple (l.sq (H:=H));simp only[deq];exact EqAt.int_tuple x t0 pl hu0
  |str x=>
   cases in_str.mp i;obtain⟨t0,rfl⟩:=r
   cases d' with
   |non=>cases in_non.mp i';cases r';simp only[deq];exact EqAt.str_none x t0
   |bl b=>cases in_bl.mp i';cases r';simp only[deq];exact EqAt.str_bool x t0 b
   |int b=>cases in_int.mp i';obtain⟨t,rfl⟩:=r';simp only[deq];exact EqAt.str_int x t0 b t
   |str b=>cases in_str.mp i';obtain⟨t,rfl⟩:=r';simp only[deq];exact EqAt.str_str x t0 b t
   |lst b=>obtain⟨a,xs,rfl,l,j⟩:=in_lst.mp i';cases r';obtain⟨its,_,pl,_⟩:=I.list l.sq;simp only[deq];exact EqAt.str_list x t0 pl.isList hu0
   |tup b=>obtain⟨a,xs,rfl,l,j⟩:=in_tupS i';cases r';obtain⟨its,_,pl,_⟩:=I.tuple l;simp only[deq];exact EqAt.str_tuple x t0 pl hu0
   |dct b=>obtain⟨a,rfl,l,_⟩:=in_dct.mp i';cases r';simp only[deq];exact DEq.at_str x t0 (dct_at I l) hu0
   |agg s b=>exact absurd i' in_agg
   |ktup b=>obtain⟨a,rfl,l⟩:=in_ktup.mp i';cases r';obtain⟨its,_,pl,_⟩:=I.tuple (l.sq (H:=H));simp only[deq];exact EqAt.str_tuple x t0 pl hu0
 |succ n ih=>
  intro A d d' v v' u u' i i' r r' hd hu
  have hu0:A.units<cLine:=by omega
  have hu1:A.in1.units+n<cLine:=by show A.units+1+n<cLine;omega
  have small:d.dep<=n->EqAt A s u u' (deq d d'):=fun h=>ih i i' r r' h (by omega)
  --the items,one by one
  have items:∀{ds es:List D} {xs ys:List V} {its its2:List Value},deps ds<=n->Ins X.K H Z ds xs->Ins X.K H Z' es ys->Vals xs its->Vals ys its2->∀j (h1:j<its.toArray.size) (h2:j<its2.toArray.size),
   EqAt A.in1 s its.toArray[j] its2.toArray[j] (deq (ds.getD j .non) (es.getD j .non)):=fun{ds es xs ys its its2} hdn jx jy rx ry j h1 h2=>by
   have z1:=jx.length;have z2:=jy.length;have z3:=rx.length;have z4:=ry.length
   simp at h1 h2
   have hj1:j<ds.length:=by omega
   have hj2:j<es.length:=by omega
   obtain⟨x,ex,ix⟩:=jx.get (i:=j) (d:=ds[j]) (by simp[hj1])
   obtain⟨y,ey,iy⟩:=jy.get (i:=j) (d:=es[j]) (by simp[hj2])
   obtain⟨w1,f1,q1⟩:=rx.get ex
   obtain⟨w2,f2,q2⟩:=ry.get ey
   have g1:its.toArray[j]=w1:=by
    have:=(List.getElem?_eq_some_iff.mp f1).2
    simpa using this
   have g2:its2.toArray[j]=w2:=by
    have:=(List.getElem?_eq_some_iff.mp f2).2
    simpa using this
   rw[g1,g2]
   have e1:ds.getD j .non=ds[j]:=by simp[hj1]
   have e2:es.getD j .non=es[j]:=by simp[hj2]
   rw[e1,e2]
   exact ih ix iy q1 q2 (Nat.le_trans (deps_mem (getElem_mem hj1)) hdn) hu1
  cases d with
  |non=>exact small (by simp[D.dep])
  |bl x=>exact small (by simp[D.dep])
  |int x=>exact small (by simp[D.dep])
  |str x=>exact small (by simp[D.dep])
  |dct o=>exact absurd hu (by unfold D.dep at hd;have:cLine=9900:=rfl;omega)
  |agg s b=>exact absurd i in_agg
  |ktup ks0=>
   obtain⟨a,rfl,l⟩:=in_ktup.mp i
   cases r
   obtain⟨its,rx,pl,_⟩:=I.tuple (l.sq (H:=H))
   have j:Ins X.K H Z (ks0.map kD) (ks0.map kV):=ins_kV ks0
   have hdn:deps (ks0.map kD)<=n:=by rw[deps_kD];exact Nat.zero_le _
   cases d' with
   |non=>cases in_non.mp i';cases r';simp only[deq];exact EqAt.tuple_none pl hu0
   |bl b=>cases in_bl.mp i';cases r';simp only[deq];exact EqAt.tuple_bool b pl hu0
   |int b=>cases in_int.mp i';obtain⟨t,rfl⟩:=r';simp only[deq];exact EqAt.tuple_int b t pl hu0
   |str b=>cases in_str.mp i';obtain⟨t,rfl⟩:=r';simp only[deq];exact EqAt.tuple_str b t pl hu0
   |lst es=>obtain⟨a',ys,rfl,l',j'⟩:=in_lst.mp i';cases r';obtain⟨its2,_,pl2,_⟩:=I.list l'.sq;simp only[deq];exact EqAt.tuple_list pl pl2.isList hu0
   |dct b=>obtain⟨a',rfl,l',_⟩:=in_dct.mp i';cases r';simp only[deq];exact DEq.at_tuple pl (dct_at I l') hu0
   |agg s b=>exact absurd i' in_agg
   |ktup ks=>
    obtain⟨a',rfl,l'⟩:=in_ktup.mp i'
    cases r'
    obtain⟨its2,ry,pl2,_⟩:=I.tuple (l'.sq (H:=H))
    by_cases haa:a=a'
    . subst haa
      have e:D.ktup ks0=D.ktup ks:=In.inj I i i'
      rw[e,deq_refl]
      exact EqAt.same _
    have j':Ins X.K H Z' (ks.map kD) (ks.map kV):=ins_kV ks
    refine EqAt.of_refs haa ?_
    have z1:=j.length;have z2:=j'.length;have z3:=rx.length;have z4:=ry.length
    simp only[deq]
    rw[keqs_is, <-deqs_range]
    have:=RcAt.tuples (e:=fun k=>deq ((ks0.map kD).getD k .non) ((ks.map kD).getD k .non)) pl pl2 hu0 (items hdn j j' rx ry)
    have e1:its.toArray.size=(ks0.map kD).length:=by simp at z1 z3⊢;omega
    have e2:its2.toArray.size=(ks.map kD).length:=by simp at z2 z4⊢;omega
    rw[e1,e2]at this
    exact this
   |tup es=>
    obtain⟨a',ys,rfl,l',j'⟩:=in_tupS i'
    cases r'
    obtain⟨its2,ry,pl2,_⟩:=I.tuple l'
    have haa:a≠a':=fun z=>by
     subst z
     obtain⟨_,_,e,lt,_⟩:=in_tup.mp i'
     cases e
     rw[kfree I l]at lt
     cases lt
    refine EqAt.of_refs haa ?_
    have z1:=j.length;have z2:=j'.length;have z3:=rx.length;have z4:=ry.length
    simp only[deq]
    rw[keqs_is, <-deqs_range]
    have:=RcAt.tuples (e:=fun k=>deq ((ks0.map kD).getD k .non) (es.getD k .non)) pl pl2 hu0 (items hdn j j' rx ry)
    have e1:its.toArray.size=(ks0.map kD).length:=by simp at z1 z3⊢;omega
    have e2:its2.toArray.size=es.length:=by simp at z2 z4⊢;omega
    rw[e1,e2]at this
    exact this
  |lst ds=>
   have hdn:deps ds<=n:=by unfold D.dep at hd;omega
   obtain⟨a,xs,rfl,l,j⟩:=in_lst.mp i
   cases r
   obtain⟨its,rx,pl,_⟩:=I.list l.sq
   cases d' with
   |non=>cases in_non.mp i';cases r';simp only[deq];exact EqAt.list_none pl.isList hu0
   |bl b=>cases in_bl.mp i';cases r';simp only[deq];exact EqAt.list_bool b pl.isList hu0
   |int b=>cases in_int.mp i';obtain⟨t,rfl⟩:=r';simp only[deq];exact EqAt.list_int b t pl.isList hu0
   |str b=>cases in_str.mp i';obtain⟨t,rfl⟩:=r';simp only[deq];exact EqAt.list_str b t pl.isList hu0
   |tup es=>obtain⟨a',ys,rfl,l',j'⟩:=in_tupS i';cases r';obtain⟨its2,_,pl2,_⟩:=I.tuple l';simp only[deq];exact EqAt.list_tuple pl.isList pl2 hu0
   |dct b=>obtain⟨a',rfl,l',_⟩:=in_dct.mp i';cases r';simp only[deq];exact DEq.at_list pl.isList (dct_at I l') hu0
   |agg s b=>exact absurd i' in_agg
   |ktup b=>obtain⟨a',rfl,l'⟩:=in_ktup.mp i';cases r';obtain⟨its2,_,pl2,_⟩:=I.tuple (l'.sq (H:=H));simp only[deq];exact EqAt.list_tuple pl.isList pl2 hu0
   |lst es=>
    obtain⟨a',ys,rfl,l',j'⟩:=in_lst.mp i'
    cases r'
    obtain⟨its2,ry,pl2,_⟩:=I.list l'.sq
    by_cases haa:a=a'
    . subst haa
      have e:D.lst ds=D.lst es:=In.inj I i i'
      rw[e,deq_refl]
      exact EqAt.same _
    . refine EqAt.of_refs haa ?_
      have z1:=j.length;have z2:=j'.length;have z3:=rx.length;have z4:=ry.length
      simp only[deq]
      rw[<-deqs_range]
      by_cases hsz:its.toArray.size=its2.toArray.size
      . have:=RcAt.lists (e:=fun k=>deq (ds.getD k .non) (es.getD k .non)) pl.isList pl2.isList hsz hu0 (items hdn j j' rx ry)
        have e1:its.toArray.size=min ds.length es.length:=by simp at hsz⊢;omega
        have e2:(ds.length==es.length)=true:=by simp at hsz⊢;omega
        rw[e1]at this
        rw[e2,Bool.and_true]
        exact this
      . have e2:(ds.length==es.length)=false:=by simp at hsz⊢;omega
        rw[e2,Bool.and_false]
        exact RcAt.lists_lengths pl.isList pl2.isList (by simpa using hsz) hu0
  |tup ds=>
   have hdn:deps ds<=n:=by unfold D.dep at hd;omega
   obtain⟨a,xs,rfl,l,j⟩:=in_tupS i
   cases r
   obtain⟨its,rx,pl,_⟩:=I.tuple l
   cases d' with
   |non=>cases in_non.mp i';cases r';simp only[deq];exact EqAt.tuple_none pl hu0
   |bl b=>cases in_bl.mp i';cases r';simp only[deq];exact EqAt.tuple_bool b pl hu0
   |int b=>cases in_int.mp i';obtain⟨t,rfl⟩:=r';simp only[deq];exact EqAt.tuple_int b t pl hu0
   |str b=>cases in_str.mp i';obtain⟨t,rfl⟩:=r';simp only[deq];exact EqAt.tuple_str b t pl hu0
   |lst es=>obtain⟨a',ys,rfl,l',j'⟩:=in_lst.mp i';cases r';obtain⟨its2,_,pl2,_⟩:=I.list l'.sq;simp only[deq];exact EqAt.tuple_list pl pl2.isList hu0
   |dct b=>obtain⟨a',rfl,l',_⟩:=in_dct.mp i';cases r';simp only[deq];exact DEq.at_tuple pl (dct_at I l') hu0
   |agg s b=>exact absurd i' in_agg
   |ktup ks=>
    obtain⟨a',rfl,l'⟩:=in_ktup.mp i'
    cases r'
    obtain⟨its2,ry,pl2,_⟩:=I.tuple (l'.sq (H:=H))
    have j':Ins X.K H Z' (ks.map kD) (ks.map kV):=ins_kV ks
    have haa:a≠a':=fun z=>by
     subst z
     obtain⟨_,_,e,lt,_⟩:=in_tup.mp i
     cases e
     rw[kfree I l']at lt
     cases lt
    refine EqAt.of_refs haa ?_
    have z1:=j.length;have z2:=j'.length;have z3:=rx.length;have z4:=ry.length
    simp only[deq]
    rw[<-deqs_range]
    have:=RcAt.tuples (e:=fun k=>deq (ds.getD k .non) ((ks.map kD).getD k .non)) pl pl2 hu0 (items hdn j j' rx ry)
    have e1:its.toArray.size=ds.length:=by simp;omega
    have e2:its2.toArray.size=(ks.map kD).length:=by simp at z2 z4⊢;omega
    rw[e1,e2]at this
    exact this
   |tup es=>
    obtain⟨a',ys,rfl,l',j'⟩:=in_tupS i'
    cases r'
    obtain⟨its2,ry,pl2,_⟩:=I.tuple l'
    by_cases haa:a=a'
    . subst haa
      have e:D.tup ds=D.tup es:=In.inj I i i'
      rw[e,deq_refl]
      exact EqAt.same _
    . refine EqAt.of_refs haa ?_
      have z1:=j.length;have z2:=j'.length;have z3:=rx.length;have z4:=ry.length
      simp only[deq]
      rw[<-deqs_range]
      have:=RcAt.tuples (e:=fun k=>deq (ds.getD k .non) (es.getD k .non)) pl pl2 hu0 (items hdn j j' rx ry)
      have e1:its.toArray.size=ds.length:=by simp;omega
      have e2:its2.toArray.size=es.length:=by simp;omega
      rw[e1,e2]at this
      exact this
end
section
variable{X:Cx}
open PySem.SeqAt
def pairD:D->D->Bool
 |.lst _,.lst _=>true
 |.tup _,.tup _=>true
 |_,_=>false
theorem op_eqD:OpR X (compareOp .Eq) (fun x y H Q=>∃d d' Z Z',In X.K H Z d x/\In X.K H Z' d' y/\pairD d d'=true/\X.A.units+d.dep<cLine/\Q (.bl (deq d d')) H):=by
 intro pins s σ H x y v u Q I rx ry h
 obtain⟨d,d',Z,Z',i,i',hp,hu,q⟩:=h
 have fin:EP X pins σ Q (.bool (deq d d')) s:=⟨.bl (deq d d'),H,I,rfl,q⟩
 have hu0:X.A.units<cLine:=by omega
 have items:∀{ds es:List D} {xs ys:List V} {its its2:List Value},deps ds<d.dep->Ins X.K H Z ds xs->Ins X.K H Z' es ys->Vals xs its->Vals ys its2->∀j (h1:j<its.toArray.size) (h2:j<its2.toArray.size),
  EqAt X.A.in1 s its.toArray[j] its2.toArray[j] (deq (ds.getD j .non) (es.getD j .non)):=fun{ds es xs ys its its2} hdn jx jy rx ry j h1 h2=>by
  have z1:=jx.length;have z2:=jy.length;have z3:=rx.length;have z4:=ry.length
  simp at h1 h2
  have hj1:j<ds.length:=by omega
  have hj2:j<es.length:=by omega
  obtain⟨x,ex,ix⟩:=jx.get (i:=j) (d:=ds[j]) (by simp[hj1])
  obtain⟨y,ey,iy⟩:=jy.get (i:=j) (d:=es[j]) (by simp[hj2])
  obtain⟨w1,f1,q1⟩:=rx.get ex
  obtain⟨w2,f2,q2⟩:=ry.get ey
  have g1:its.toArray[j]=w1:=by
   have:=(List.getElem?_eq_some_iff.mp f1).2
   simpa using this
  have g2:its2.toArray[j]=w2:=by
   have:=(List.getElem?_eq_some_iff.mp f2).2
   simpa using this
  rw[g1,g2]
  have e1:ds.getD j .non=ds[j]:=by simp[hj1]
  have e2:es.getD j .non=es[j]:=by simp[hj2]
  rw[e1,e2]
  exact eqAt_D I (d.dep-1) ix iy q1 q2 (by have:=deps_mem (getElem_mem hj1);omega) (by show X.A.units+1+(d.dep-1)<cLine;omega)
 unfold pairD at hp
 split at hp
 . rename_i ds es
   obtain⟨a,xs,rfl,l,j⟩:=in_lst.mp i
   obtain⟨a',ys,rfl,l',j'⟩:=in_lst.mp i'
   cases rx;cases ry
   obtain⟨its,rx,pl,_⟩:=I.list l.sq
   obtain⟨its2,ry,pl2,_⟩:=I.list l'.sq
   have z1:=j.length;have z2:=j'.length;have z3:=rx.length;have z4:=ry.length
   simp only[deq]at fin
   rw[<-deqs_range]at fin
   by_cases hsz:its.toArray.size=its2.toArray.size
   . have e1:its.toArray.size=min ds.length es.length:=by simp at hsz⊢;omega
     have e2:(ds.length==es.length)=true:=by simp at hsz⊢;omega
     rw[e2,Bool.and_true, <-e1]at fin
     exact eq_listAt (e:=fun k=>deq (ds.getD k .non) (es.getD k .non)) pl.isList pl2.isList hsz hu0 (items (by simp[D.dep]) j j' rx ry) fin
   . have e2:(ds.length==es.length)=false:=by simp at hsz⊢;omega
     rw[e2,Bool.and_false]at fin
     exact eq_list_lengthsAt pl.isList pl2.isList (by simpa using hsz) hu0 fin
 . rename_i ds es
   obtain⟨a,xs,rfl,l,j⟩:=in_tupS i
   obtain⟨a',ys,rfl,l',j'⟩:=in_tupS i'
   cases rx;cases ry
   obtain⟨its,rx,pl,_⟩:=I.tuple l
   obtain⟨its2,ry,pl2,_⟩:=I.tuple l'
   have z1:=j.length;have z2:=j'.length;have z3:=rx.length;have z4:=ry.length
   simp only[deq]at fin
   rw[<-deqs_range]at fin
   have e1:its.toArray.size=ds.length:=by simp;omega
   have e2:its2.toArray.size=es.length:=by simp;omega
   rw[<-e1, <-e2]at fin
   exact eq_tupleAt (e:=fun k=>deq (ds.getD k .non) (es.getD k .non)) pl pl2 hu0 (items (by simp[D.dep]) j j' rx ry) fin
 . cases hp
theorem op_neD:OpR X (compareOp .NotEq) (fun x y H Q=>∃d d' Z Z',In X.K H Z d x/\In X.K H Z' d' y/\pairD d d'=true/\X.A.units+d.dep<cLine/\Q (.bl (!deq d d')) H):=by
 intro pins s σ H x y v u Q I rx ry h
 obtain⟨d,d',Z,Z',i,i',hp,hu,q⟩:=h
 have fin:EP X pins σ Q (.bool (!deq d d')) s:=⟨.bl (!deq d d'),H,I,rfl,q⟩
 have hu0:X.A.units<cLine:=by omega
 have items:∀{ds es:List D} {xs ys:List V} {its its2:List Value},deps ds<d.dep->Ins X.K H Z ds xs->Ins X.K H Z' es ys->Vals xs its->Vals ys its2->∀j (h1:j<its.toArray.size) (h2:j<its2.toArray.size),
  EqAt X.A.in1 s its.toArray[j] its2.toArray[j] (deq (ds.getD j .non) (es.getD j .non)):=fun{ds es xs ys its its2} hdn jx jy rx ry j h1 h2=>by
  have z1:=jx.length;have z2:=jy.length;have z3:=rx.length;have z4:=ry.length
  simp at h1 h2
  have hj1:j<ds.length:=by omega
  have hj2:j<es.length:=by omega
  obtain⟨x,ex,ix⟩:=jx.get (i:=j) (d:=ds[j]) (by simp[hj1])
  obtain⟨y,ey,iy⟩:=jy.get (i:=j) (d:=es[j]) (by simp[hj2])
  obtain⟨w1,f1,q1⟩:=rx.get ex
  obtain⟨w2,f2,q2⟩:=ry.get ey
  have g1:its.toArray[j]=w1:=by
   have:=(List.getElem?_eq_some_iff.mp f1).2
   simpa using this
  have g2:its2.toArray[j]=w2:=by
   have:=(List.getElem?_eq_some_iff.mp f2).2
   simpa using this
  rw[g1,g2]
  have e1:ds.getD j .non=ds[j]:=by simp[hj1]
  have e2:es.getD j .non=es[j]:=by simp[hj2]
  rw[e1,e2]
  exact eqAt_D I (d.dep-1) ix iy q1 q2 (by have:=deps_mem (getElem_mem hj1);omega) (by show X.A.units+1+(d.dep-1)<cLine;omega)
 unfold pairD at hp
 split at hp
 . rename_i ds es
   obtain⟨a,xs,rfl,l,j⟩:=in_lst.mp i
   obtain⟨a',ys,rfl,l',j'⟩:=in_lst.mp i'
   cases rx;cases ry
   obtain⟨its,rx,pl,_⟩:=I.list l.sq
   obtain⟨its2,ry,pl2,_⟩:=I.list l'.sq
   have z1:=j.length;have z2:=j'.length;have z3:=rx.length;have z4:=ry.length
   simp only[deq]at fin
   rw[<-deqs_range]at fin
   by_cases hsz:its.toArray.size=its2.toArray.size
   . have e1:its.toArray.size=min ds.length es.length:=by simp at hsz⊢;omega
     have e2:(ds.length==es.length)=true:=by simp at hsz⊢;omega
     rw[e2,Bool.and_true, <-e1]at fin
     exact RcNeAt.lists (e:=fun k=>deq (ds.getD k .non) (es.getD k .non)) pl.isList pl2.isList hsz hu0 (items (by simp[D.dep]) j j' rx ry) _ _ _ _ fin
   . have e2:(ds.length==es.length)=false:=by simp at hsz⊢;omega
     rw[e2,Bool.and_false]at fin
     exact RcNeAt.lists_lengths pl.isList pl2.isList (by simpa using hsz) hu0 _ _ _ _ fin
 . rename_i ds es
   obtain⟨a,xs,rfl,l,j⟩:=in_tupS i
   obtain⟨a',ys,rfl,l',j'⟩:=in_tupS i'
   cases rx;cases ry
   obtain⟨its,rx,pl,_⟩:=I.tuple l
   obtain⟨its2,ry,pl2,_⟩:=I.tuple l'
   have z1:=j.length;have z2:=j'.length;have z3:=rx.length;have z4:=ry.length
   simp only[deq]at fin
   rw[<-deqs_range]at fin
   have e1:its.toArray.size=ds.length:=by simp;omega
   have e2:its2.toArray.size=es.length:=by simp;omega
   rw[<-e1, <-e2]at fin
   exact RcNeAt.tuples (e:=fun k=>deq (ds.getD k .non) (es.getD k .non)) pl pl2 hu0 (items (by simp[D.dep]) j j' rx ry) _ _ _ _ fin
 . cases hp
end
section
variable{X:Cx}{ρ:List (Option D)}{m1 m2:Bool}{a b:Expr}{d d':D}{pos:Pos}
theorem e_eqD(ha:E X m1 ρ a d)(hb:E X m2 ρ b d')(hp:pairD d d'=true)(hu:X.A.units+d.dep<cLine):E X true ρ (.Compare a [.Eq] [b] pos) (.bl (deq d d')):=
 e_cmp op_eqD ha hb (fun x y H Z Q _ i1 i2 k=>⟨d,d',Z,Z,i1,i2,hp,hu,k _ _ (Same.refl H) (in_bl.mpr rfl)⟩) (nomark _)
theorem t_neD(ha:E X m1 ρ a d)(hb:E X m2 ρ b d')(hp:pairD d d'=true)(hu:X.A.units+d.dep<cLine):T X ρ (.Compare a [.NotEq] [b] pos) (!deq d d'):=
 t_cmp op_neD ha hb (fun x y H Z Q _ i1 i2 k=>⟨d,d',Z,Z,i1,i2,hp,hu,k _ (Same.refl H)⟩) (nomark _)
end
section
variable{X:Cx}{F:Fn}{ρ:Rho}{Q:EndD}{rest:List Stmt}{e:Expr}{d:D}{pos p:Pos}{x:Str}{fr m1:Bool}{ds:List D}{dss:List (List D)}
theorem sd_setCN(i:Nat){x:Str}{d:D}(he:EC X true (view true false ρ) e d)(hr:SD X F rest (ρ.set i (some (.pl true d))) Q)(hN:X.N.Nodup)(hi:X.N[i]? =some x:=by rfl)
 (hx:Loc X.env.scope x:=by first|exact Or.inl rfl|exact Or.inr rfl)(hρ:i<ρ.length:=by exact of_decide_eq_true rfl)(hs:swapsWith e (some (.Name x p)) pos.line X.env=pure true:=by rfl)(hf:X.fn x=true\/X.env.scope.names.lookup x=some .local:=by first|exact .inl rfl|exact .inr rfl):
 SD X F (.Assign [.Name x p] e pos::rest) ρ Q:=
 sd_then (PS.mono (he.s x i pos p hN hi hx hs hf) fun Q' σ H z0=>el33 z0 fun hv hρ' A hl S f=>⟨_,vz_open S true false,S.env hl true false,fun v H1 s1 i1=>f.nx _ H1 (put_pl hl S hρ s1 (In.up (zn_open S true) i1))⟩) hr
theorem StIn.ow2{K:PySem.W.Frag}{H:Hp}{σ hv:St}{hρ:Rho}{A:Nat->List Addr}{i:Nat}(S:StIn K F H (σ++hv) (ρ++hρ) A)(hl:σ.length=ρ.length)(h:ρ[i]? =some (some (.ow2 fr dss))):
 ∃l as,σ[i]? =some (some (.ref l))/\A i=l::as/\H l=some (.lst (as.map V.ref))/\RowsAt K H (zn F (Owned A) fr) dss as:=by
 have hi:i<ρ.length:=(List.getElem?_eq_some_iff.mp h).1
 obtain⟨v,a,l,as,e1,rfl,e2,j⟩:=S.at' i _ (by rw[getElem?_append_left hi];exact h)
 rw[getElem?_append_left (by omega)]at a
 exact⟨l,as,a,e1,e2,j⟩
theorem RowsAt.length{K:PySem.W.Frag}{H:Hp}{Z:Zone}{as:List Addr}(h:RowsAt K H Z dss as):dss.length=as.length:=Paired.length h
theorem RowsAt.snoc{K:PySem.W.Frag}{H:Hp}{Z:Zone}{as:List Addr}{ds:List D}{a:Addr}{xs:List V}(h:RowsAt K H Z dss as)(e:H a=some (.lst xs))(i:Ins K H Z ds xs):RowsAt K H Z (dss++[ds]) (as++[a]):=Paired.snoc h ⟨xs,e,i⟩
theorem RowsAt.unsnoc{K:PySem.W.Frag}{H:Hp}{Z:Zone}:∀{dss:List (List D)} {as:List Addr} {ds:List D},RowsAt K H Z (dss++[ds]) as->∃bs a xs,as=bs++[a]/\RowsAt K H Z dss bs/\H a=some (.lst xs)/\Ins K H Z ds xs
 |[],as,ds,h=>by
  cases h with
  |cons r t=>cases t;obtain⟨xs,e,i⟩:=r;exact⟨[],_,xs,rfl,.nil,e,i⟩
 |d::dss,as,ds,h=>by
  cases h with
  |cons r t=>
   obtain⟨bs,a,xs,rfl,h1,e,i⟩:=RowsAt.unsnoc t
   exact⟨_::bs,a,xs,rfl,.cons r h1,e,i⟩
theorem sd_append2n(i:Nat){x:Str}{ap cp:Pos}{dss:List (List D)}(fr:Bool)(h:ρ[i]? =some (some (.ow2 fr dss)):=by rfl)(he:E X true (view true false ρ) e (.lst []))(hz:dss.length<1000)(hr:SD X F rest (ρ.set i (some (.ow2 fr (dss++[[]])))) Q)
 (hN:X.N[i]? =some x:=by rfl)(hv:Vis X.env.scope x:=by first|exact Or.inl rfl|exact Or.inr (Or.inl rfl)|exact Or.inr (Or.inr rfl))(hd:(x==("__debug__":Str))=false:=by decide)(hcd:(x==("__classdict__":Str))=false:=by decide)
 (hbase:attributeBase (.Name x p) "append" X.env (eval (.Name x p) X.env)=eval (.Name x p) X.env:=by rfl)(hline:(ap.endLine==cp.line)=true:=by rfl)
 (hs:starEach [e] X.env=[(false,eval e X.env)]:=by rfl)(hsw:swapsWith (.Call (.Attribute (.Name x p) "append" ap) [e] [] cp) none pos.line X.env=pure false:=by rfl):
 SD X F (.Expr (.Call (.Attribute (.Name x p) "append" ap) [e] [] cp) pos::rest) ρ Q:=by
 refine sd_then (PS.mono (ps_expr (pe_bm PySem.F.plainAttrs_list PySem.F.slot_list_append PySem.F.type_list_append mt_append (pe_var hN hv hd hcd) (pa_cons he pa_nil (by rw[hs];rfl)) hbase (by rw[hs];rfl) hline (by rw[hs];rfl) rfl) hsw) ?_) hr
 rintro Q' σ H ⟨hv,hρ,A,hl,S,f⟩
 obtain⟨l,as,e1,e2,e3,j⟩:=S.ow2 hl h
 have hi:i<σ.length:=(List.getElem?_eq_some_iff.mp e1).1
 refine⟨.ref l,e1,.inl ⟨rfl,_,SqL.of e3⟩,_,vz_open S true false,S.env hl true false,fun v H1 s1 i1=>?_⟩
 obtain⟨a,ys,rfl,at',jn⟩:=in_lst.mp i1
 cases ins_nil.mp jn
 obtain⟨ea,en⟩:H1 a=some (.lst [])/\H a=none:=by
  rcases at' with z|z
  . exact z
  . exact absurd z.1 (by simp[out,nw])
 have hlen:(as.map V.ref).length<sizeLine:=by rw[length_map, <-j.length];exact small1000 (by omega)
 refine⟨l,_,.ref a,rfl,rfl,s1.at e3,hlen,f.nx _ _ ?_⟩
 have hal:a≠l:=by rintro rfl;rw[e3]at en;cases en
 have haA:∀j,a∉A j:=fun j hj=>by obtain⟨xs,e⟩:=S.lst j a hj;rw[en]at e;cases e
 have hnd:=S.nd i
 rw[e2]at hnd
 have hl0:l∉as:=(nodup_cons.mp hnd).1
 have kk:∀b o,H b=some o->isT o=false->b∉A i->(upd H1 l (.lst (as.map V.ref++[.ref a]))) b=some o:=fun b o e n hb=>by
  rw[e2]at hb
  have:b≠l:=fun z=>hb (by simp[z])
  rw[upd_ne this];exact s1.get b o e n
 have mine:∀b∈l::(as++[a]),b∈A i\/H b=none:=fun b hb=>by
  rcases mem_cons.mp hb with z|hb
  . exact .inl (by rw[e2,z];simp)
  . rcases mem_append.mp hb with hb|hb
    . exact .inl (by rw[e2];simp[hb])
    . have:b=a:=by simpa using hb
      exact .inr (by rw[this];exact en)
 refine⟨_,putA A i (l::(as++[a])),by simp[hl],?_,rfl⟩
 have key:=S.re (i:=i) (v:=.ref l) (sl:=.ow2 fr (dss++[[]])) (l:=l::(as++[a])) (H2:=upd H1 l (.lst (as.map V.ref++[.ref a]))) (by rw[List.length_append];omega) (by rw[List.length_append];omega) ((S.same.trans s1).write (S.new i l (by rw[e2];simp)) (s1.at e3)) kk ?_ (fun b hb=>⟨mine b hb,?_⟩) ⟨l,as++[a],rfl,rfl,?_,?_⟩
 . rw[set_self (by rw[getElem?_append_left hi];exact e1),set_app (by omega)]at key
   exact key
 . have n1:a∉l::as:=by rw[<-e2];exact haA i
   rw[<-cons_append]
   exact List.nodup_append.mpr ⟨hnd,by simp,fun b hb c hc=>by
    have:c=a:=by simpa using hc
    subst this
    rintro rfl
    exact n1 hb⟩
 . rcases mem_cons.mp hb with z|hb
   . exact⟨.l _,by rw[z,upd_same];rfl⟩
   . rcases mem_append.mp hb with hb|hb
     . have:b≠l:=fun z=>hl0 (z▸hb)
       obtain⟨xs,e⟩:=S.lst i b (by rw[e2];simp[hb])
       exact⟨xs,by rw[upd_ne this];exact s1.at e xs.nt⟩
     . have:b=a:=by simpa using hb
       rw[this,upd_ne hal]
       exact⟨.l _,ea⟩
 . rw[upd_same,map_append];rfl
 . refine RowsAt.snoc (xs:=[]) (j.carry (fun b xs hb e=>?_) (carry_re S kk mine fr)) (by rw[upd_ne hal];exact ea) (ins_nil.mpr rfl)
   have:b≠l:=by rintro rfl;exact hl0 hb
   rw[upd_ne this];exact s1.at e
theorem sd_append2(i:Nat){x:Str}{ap cp sp:Pos}{ix:Expr}{mi:Bool}{dss:List (List D)}{ds:List D}(fr:Bool){d:D}(h:ρ[i]? =some (some (.ow2 fr (dss++[ds]))):=by rfl)(hix:E X mi (view true false ρ) ix (.int (-1)))(he:E X m1 (view true false ρ) e d)(fl:d.flat=true)(hz:ds.length<1000)
 (hr:SD X F rest (ρ.set i (some (.ow2 fr (dss++[ds++[d]])))) Q)
 (hN:X.N[i]? =some x:=by rfl)(hv:Vis X.env.scope x:=by first|exact Or.inl rfl|exact Or.inr (Or.inl rfl)|exact Or.inr (Or.inr rfl))(hd:(x==("__debug__":Str))=false:=by decide)(hcd:(x==("__classdict__":Str))=false:=by decide)
 (hpi:PlainIx ix:=by intro _ _;rfl)(hbase:attributeBase (.Subscript (.Name x p) ix sp) "append" X.env (eval (.Subscript (.Name x p) ix sp) X.env)=eval (.Subscript (.Name x p) ix sp) X.env:=by rfl)
 (hline:(ap.endLine==cp.line)=true:=by rfl)
 (hs:starEach [e] X.env=[(false,eval e X.env)]:=by rfl)(hsw:swapsWith (.Call (.Attribute (.Subscript (.Name x p) ix sp) "append" ap) [e] [] cp) none pos.line X.env=pure false:=by rfl):
 SD X F (.Expr (.Call (.Attribute (.Subscript (.Name x p) ix sp) "append" ap) [e] [] cp) pos::rest) ρ Q:=by
 refine sd_then (PS.mono (ps_expr (pe_bm PySem.F.plainAttrs_list PySem.F.slot_list_append PySem.F.type_list_append mt_append (pe_ix ix_list (pe_var hN hv hd hcd) hix hpi) (pa_cons he pa_nil (by rw[hs];rfl)) hbase (by rw[hs];rfl) hline (by rw[hs];rfl) rfl) hsw) ?_) hr
 rintro Q' σ H ⟨hv,hρ,A,hl,S,f⟩
 obtain⟨l,as,e1,e2,e3,j⟩:=S.ow2 hl h
 have hi:i<σ.length:=(List.getElem?_eq_some_iff.mp e1).1
 obtain⟨bs,a,xs,rfl,j1,ea,ja⟩:=j.unsnoc
 have hnd:=S.nd i
 rw[e2]at hnd
 have hal:a≠l:=fun z=>(nodup_cons.mp hnd).1 (by simp[z])
 have hab:a∉bs:=fun z=>by
  have:=(List.nodup_append.mp (nodup_cons.mp hnd).2).2.2 a z a (by simp)
  exact this rfl
 refine⟨.ref l,e1,_,vz_open S true false,S.env hl true false,fun y H1 s1 i1=>⟨l,_, -1,.ref a,rfl,in_int.mp (i1.plain (vz_open S true false)),SqL.of (s1.at e3),?_,.inl ⟨rfl,xs,SqL.of (s1.at ea)⟩,_,(vz_open S true false).same s1,(S.env hl true false).same s1,fun w H2 s2 i2=>?_⟩⟩
 . rw[map_append];exact atI_last _ _
 . have s12:=s1.trans s2
   have S2:=S.grow s12
   have hlen:xs.length<sizeLine:=by rw[<-ja.length];exact small1000 (by omega)
   refine⟨a,xs,w,rfl,rfl,s12.at ea,hlen,f.nx _ _ ?_⟩
   have aA:a∈A i:=by rw[e2];simp
   have kk:∀b o,H2 b=some o->isT o=false->b∉A i->(upd H2 a (.lst (xs++[w]))) b=some o:=fun b o e n hb=>by
    have:b≠a:=fun z=>hb (z▸aA)
    rw[upd_ne this];exact e
   have mine:∀b∈l::(bs++[a]),b∈A i\/H2 b=none:=fun b hb=>.inl (by rw[e2];exact hb)
   refine⟨_,putA A i (l::(bs++[a])),by simp[hl],?_,rfl⟩
   have key:=S2.re (i:=i) (v:=.ref l) (sl:=.ow2 fr (dss++[ds++[d]])) (l:=l::(bs++[a])) (H2:=upd H2 a (.lst (xs++[w]))) (by rw[List.length_append];omega) (by rw[List.length_append];omega) (S2.same.write (S2.new i a aA) (s12.at ea)) kk hnd (fun b hb=>⟨mine b hb,?_⟩) ⟨l,bs++[a],rfl,rfl,?_,?_⟩
   . rw[set_self (by rw[getElem?_append_left hi];exact e1),set_app (by omega)]at key
     exact key
   . by_cases z:b=a
     . exact⟨.l _,by rw[z,upd_same];rfl⟩
     . rw[upd_ne z]
       exact S2.lst i b (by rw[e2];exact hb)
   . rw[upd_ne (Ne.symm hal)];exact s12.at e3
   . have c:=carry_re S2 kk mine fr
     have sqt:∀b (ys:List V),H2 b=some (.tup ys)->(upd H2 a (.lst (xs++[w]))) b=some (.tup ys):=c.t
     have j1':RowsAt X.K H2 (zn F (Owned A) fr) dss bs:=j1.carry (fun b ys hb e=>s12.at e) (Carry.same s12)
     refine RowsAt.snoc (j1'.carry (fun b ys hb e=>?_) c) upd_same (Ins.append ((ja.same s12).carry c) (Ins.one (In.flat sqt fl i2)))
     have:b≠a:=fun z=>hab (z▸hb)
     rw[upd_ne this];exact e
end
section
variable{X:Cx}{pins:List (Addr×Obj)}{σ:St}{H H':Hp}{s:Shared}{h':Heap}
theorem turnedL{t':Nat}{ch:List Addr}(I:Inv X pins σ H s)(k:∀b o,b∉ch->s.heap.get? b=some o->h'.get? b=some o)(hf:∀b∈ch,FpOk X pins H b):Inv X pins σ H {s with heap:=h',toks:=t'}:=by
 have nit:∀b u,H b=some u->b∉ch:=fun b u e z=>by rw[(hf b z).1]at e;cases e
 refine I.step (g':=s.gens) (d':=s.drawn) (ch:=ch) (fun b hb=>⟨(hf b hb).2.2.2.1,(hf b hb).2.1,(hf b hb).2.2.2.2.1,(hf b hb).2.2.2.2.2⟩) (fun b o _ _ hc e _=>k b o hc e) (fun b o _ _ hc e _=>⟨o.slots,k b o hc e⟩) (fun _ _ _ _ n=>n)
  (fun b o hc e=>⟨o,k b o hc e⟩) (fun _ _ e=>e) (fun _ _ _ e=>e) (fun b ps e=>⟨#[],by rw[e];simp⟩) (fun m hm=>?_) (fun b u e=>?_) I.bare
 . obtain⟨o,es,ep,ho,r⟩:=hm
   exact⟨o,es,ep,k _ o (fun z=>(hf _ z).2.1 rfl) ho,r⟩
 . refine(I.hok b u e).stay (fun c v hc q=>k c v ?_ q) (fun _ q=>q) fun _ _ q=>q
   rcases hc with z|z
   . rw[z];exact nit b u e
   . exact nit c _ z
theorem track{a:Addr}{o:HO}(I:Inv X pins σ H s)(f:FpOk X pins H a)(ha:X.s₀.heap.objs.size<=a)(new:ObjOk X.prog X.w (upd H a o) s.heap a o):Inv X pins σ (upd H a o) s:=by
 have hn:=f.1
 have ne0:∀b ob,X.s₀.heap.get? b=some ob->b≠a:=fun b ob e=>Nat.ne_of_lt (Nat.lt_of_lt_of_le (lt_size e) ha)
 refine⟨I.ok,I.os,I.bare,⟨I.base.keep,I.base.slot,fun b ob e n hx=>?_,I.base.there,fun b xs e=>?_,fun b ob u e=>?_,fun b ps e=>?_⟩,I.loc,I.cell,?_,fun x c e=>?_,fun p hp=>?_,fun b u e=>?_,I.len⟩
 . rw[upd_ne (ne0 b ob e)];exact I.base.free b ob e n hx
 . have:=I.base.tups b xs e
   rw[upd_ne (ne_of_none this hn)];exact this
 . have:=I.base.frzs b ob u e
   rw[upd_ne (ne_of_none this hn)];exact this
 . obtain⟨m,e1⟩:=I.base.tbls b ps e
   exact⟨m,by rw[upd_ne (ne_of_none e1 hn)];exact e1⟩
 . rw[upd_ne (Ne.symm f.2.1)];exact I.free
 . rw[upd_ne (f.2.2.2.2.1 x c e)];exact I.freeC x c e
 . obtain⟨h1,h2,h3,h4,h5⟩:=I.pin p hp
   exact⟨h1,by rw[upd_ne (f.2.2.2.2.2 p hp)];exact h2,h3,h4,h5⟩
 . by_cases hb:b=a
   . subst hb;rw[upd_same]at e;cases e;exact new
   . rw[upd_ne hb]at e
     exact(I.hok b u e).stay (fun c v _ q=>q) (fun c q=>by rw[upd_ne (ne_of_none q hn)];exact q) fun c xs q=>by rw[upd_ne (ne_of_none q hn)];exact q
end
def Ite(K:PySem.W.Frag)(a:Addr):It:=
 ⟨fun i H=>∃xs x,SqL K H a xs/\xs[i]? =some x,fun i H y H'=>∃p x,H p=none/\y=.ref p/\(∀xs,SqL K H a xs->xs[i]? =some x)/\H'=upd H p (.tup [.int i,x]),fun i H=>∃xs,SqL K H a xs/\xs.length<=i⟩
theorem turn_enum{P:Program}{w:World}{K:PySem.W.Frag}{es:List Expr}{kt:Nat}{pt:Pos}(a e it:Addr)(hne:e≠it):Turn P w K (.Tuple es kt pt) (Ite K a) [e,it] e (fun i h=>(∃old,IsEnum h e it (i:Nat) old)/\h.IsListIter it a i) where
 mem:=by simp
 obj:=fun i h st b hb=>by
  obtain⟨⟨old,he⟩,o,e1,c,d⟩:=st
  rcases mem_cons.mp hb with rfl|hb
  . exact⟨_,he,fun v z=>by
     have z':Data.fields _=Data.cell v:=z
     cases z'⟩
  . have e2:b=it:=by simpa using hb
    subst e2
    exact⟨o,e1,fun v z=>by rw[d]at z;cases z⟩
 keep:=fun i h h' st k=>by
  obtain⟨⟨old,he⟩,hit⟩:=st
  exact⟨⟨old,k e (by simp) _ he⟩,hit.at fun o q=>k it (by simp) o q⟩
 item:=by
  intro X hP hw hK hc i pins s σ H E I hf st hg
  subst hP hw hK
  obtain⟨⟨old,he⟩,hit⟩:=st
  obtain⟨xs,x,hq,hx⟩:=hg
  obtain⟨its,rv,p,hz⟩:=I.list hq
  obtain⟨u,hu,ru⟩:=rv.get hx
  refine wpAny_pyNext_enum_item he hit p.isList (x:=u) (by simpa using hu) hne fun h1 he1 hit1 ht1 hz1 hk1=>?_
  refine⟨_,rfl,wpAny_letOwnedTupleGo_enum (s:={s with heap:=h1,toks:=s.toks+1}) he1 fun h2 he2 sb2=>?_⟩
  have hlt:e<s.heap.objs.size:=lt_size he
  have kk:∀b o,b∉[e,it]->s.heap.get? b=some o->h2.get? b=some o:=fun b o hb q=>by
   have b1:b≠e:=fun z=>hb (by simp[z])
   have b2:b≠it:=fun z=>hb (by simp[z])
   exact(sb2.2 b b1).trans (hk1 b o b1 b2 q)
  have I2:Inv X pins σ H {s with heap:=h2,toks:=s.toks+1}:=turnedL I kk hf
  have fresh:=I.hok.fresh (Nat.le_refl s.heap.objs.size)
  have tup:h2.get? s.heap.objs.size=some {cls:=.type "tuple",data:=.seq #[.int i s.toks,u]}:=(sb2.2 _ (Nat.ne_of_gt hlt)).trans ht1
  have I3:=track (o:=.tup [.int (i:Nat),x]) I2 (I.fpOk (Nat.le_refl _) fresh) (Nat.le_trans I.sz (Nat.le_refl _)) ⟨by show 2<=sizeLine;exact Nat.le_of_lt (small1000 (by decide)),[.int i s.toks,u],.cons ⟨_,rfl⟩ (.cons ru .nil),⟨_,tup,rfl,_,rfl⟩⟩
  refine⟨.ref s.heap.objs.size,_,I3,rfl,⟨s.heap.objs.size,x,fresh,rfl,fun ys hy=>by rw[I.list_inj hy hq];exact hx,rfl⟩,⟨⟨u,?_⟩,?_⟩,fun b hb=>?_⟩
  . have:((i:Int)+1)=((i+1:Nat):Int):=by omega
    rw[<-this];exact he2
  . obtain⟨o,q,c,d⟩:=hit1
    exact⟨o,(sb2.2 it (Ne.symm hne)).trans q,c,d⟩
  . have hb':b<s.heap.objs.size:=by
     rcases mem_cons.mp hb with rfl|hb
     . exact hlt
     . have e2:b=it:=by simpa using hb
       subst e2
       obtain⟨o,q,_⟩:=hit
       exact lt_size q
    rw[upd_ne (Nat.ne_of_lt hb')];exact(hf b hb).1
 done:=by
  intro X hP hw hK hc i pins s σ H E I hf st hg
  subst hP hw hK
  obtain⟨⟨old,he⟩,hit⟩:=st
  obtain⟨xs,hq,hx⟩:=hg
  obtain⟨its,rv,p,hz⟩:=I.list hq
  have hl:=rv.length
  exact wpAny_pyNext_enum_end (I.ok.hd hc) he hit p.isList (by simp;omega) fun h' eb=>⟨rfl,turnedL (t':=s.toks) (ch:=[it]) I (fun b o hb q=>eb b o (by simpa using hb) q) fun b hb=>hf b (by
   have:b=it:=by simpa using hb
   simp[this])⟩
 self:=fun _ _ _ _ _ st h=>by
  obtain⟨⟨old,he⟩,_⟩:=st
  exact wpAny_pyIter_enum he h
section
variable{X:Cx}{ρ:List (Option D)}{m m1 m2:Bool}{es:List Expr}{kt:Nat}{pt p pos:Pos}{a b:Expr}{ds es':List D}
def iEnum(K:PySem.W.Frag)(ta:TA):TI:=fun σ H R=>ta σ H fun vs H1=>∃l,vs=[.ref l]/\(∃xs,SqL K H1 l xs)/\R (Ite K l) H1
theorem pi_enum{ta:TA}(hg:Gl X "enumerate")(hm:X.mg "enumerate"=none)(ha:PA X [a] ta)(hs:starEach [a] X.env=[(false,eval a X.env)]:=by rfl):PI X (.Tuple es kt pt) (.Call (.Name "enumerate" p) [a] [] pos) (iEnum X.K ta):=by
 intro pins s σ H R I h
 refine Call_ (ld_blt I hg hm boot_enumerate (PyProof.Rows.callWith_type1 (thn (ha pos pins s σ H _ I h) fun us s1 ⟨vs,H1,I1,r1,q1⟩=>?_) hs rfl))
 obtain⟨l,e,⟨xs,hq⟩,q⟩:=q1
 subst e
 obtain⟨u,rfl,ru⟩:=vals1 r1
 cases ru
 obtain⟨its,rv,pl,hz⟩:=I1.list hq
 refine call_enumerate_list pl.isList fun h' he hit hz' hk=>?_
 have I2:Inv X pins σ H1 {s1 with heap:=h'}:=I1.kept (t':=s1.toks) hk
 refine wpAny_pyIter_enum (s:={s1 with heap:=h'}) he ⟨s1.heap.objs.size+1,[s1.heap.objs.size+1,s1.heap.objs.size],_,_,H1,rfl,I2,turn_enum l _ _ (Nat.succ_ne_self _),⟨⟨_,he⟩,hit⟩,fun b hb=>?_,q⟩
 rcases mem_cons.mp hb with rfl|hb
 . exact I1.fpOk (Nat.le_succ _) (I1.hok.fresh (Nat.le_succ _))
 . have e:b=s1.heap.objs.size:=by simpa using hb
   subst e
   exact I1.fpOk (Nat.le_refl _) (I1.hok.fresh (Nat.le_refl _))
def enumD(ds:List D):List D:=(List.range ds.length).map fun i=>D.tup [.int (i:Nat),ds.getD i .non]
theorem enumD_get{i:Nat}{d:D}(h:(enumD ds)[i]? =some d):∃d',ds[i]? =some d'/\d=.tup [.int (i:Nat),d']:=by
 unfold enumD at h
 rw[getElem?_map]at h
 by_cases hi:i<ds.length
 . rw[List.getElem?_range hi]at h
   refine⟨ds[i],by simp[hi],?_⟩
   have:=Option.some.inj h
   rw[<-this];simp[hi]
 . rw[List.getElem?_eq_none (by simpa using hi)]at h
   cases h
theorem enumD_len:(enumD ds).length=ds.length:=by simp[enumD]
theorem it_enum(h:E X m ρ a (.lst ds))(hm:X.mg "enumerate"=none)(hg:Gl X "enumerate":=by rfl)(hs:starEach [a] X.env=[(false,eval a X.env)]:=by rfl):
 IT X (.Tuple es kt pt) m ρ (.Call (.Name "enumerate" p) [a] [] pos) (enumD ds):=PI.mono (pi_enum hg hm (pa_cons h pa_nil (by rw[hs];rfl)) hs) fun σ H R z0=>el13 z0 fun Z oz en k=>⟨Z,oz,en,fun v H1 s1 i1=>by
 obtain⟨l,xs,rfl,at',j⟩:=in_lst.mp i1
 refine⟨l,rfl,⟨xs,at'.sq⟩,k _ H1 [.ref l] [.lst ds] s1 (Ins.one i1) ⟨fun Z2 H2 o2 j2 i d e=>?_,fun Z2 H2 o2 j2=>?_⟩⟩
 . obtain⟨d',e',rfl⟩:=enumD_get e
   obtain⟨w,r,e1,j3,j4⟩:=ins_cons.mp j2
   cases e1
   obtain⟨a',ys,e2,l2,j5⟩:=in_lst.mp j3
   cases e2
   obtain⟨v,e3,iv⟩:=j5.get e'
   refine⟨⟨ys,v,l2.sq,e3⟩,fun x H3 ⟨q,y,hq,ex,hy,eH⟩=>?_⟩
   subst ex eH
   have:=hy ys l2.sq
   rw[e3]at this
   cases this
   exact⟨same_new hq,in_tup.mpr ⟨q,_,rfl,upd_same,ins_cons.mpr ⟨_,_,rfl,in_int.mpr rfl,Ins.one (iv.same (same_new hq))⟩⟩⟩
 . obtain⟨w,r,e1,j3,j4⟩:=ins_cons.mp j2
   cases e1
   obtain⟨a',ys,e2,l2,j5⟩:=in_lst.mp j3
   cases e2
   exact⟨ys,l2.sq,by rw[enumD_len];exact Nat.le_of_eq j5.length.symm⟩⟩
end
theorem cut_sub{α:Type}{l:List α}{a b:Option Int}{x:α}(h:x∈cut l a b):x∈l:=List.mem_of_mem_drop (List.mem_of_mem_take h)
theorem smallL{n:Nat}(h:n<=1000):n<=sizeLine:=Nat.le_of_lt (small1000 h)
theorem cut_from{α:Type}(xs:List α)(k:Nat):cut xs (some (k:Int)) none=xs.drop k:=by
 unfold cut
 rw[HT.sIx_nat,HT.sIx_none]
 by_cases h:k<=xs.length
 . rw[Nat.min_eq_left h]
   exact List.take_of_length_le (by simp)
 . have h':xs.length<=k:=by omega
   rw[Nat.min_eq_right h',List.drop_of_length_le h',List.drop_length]
   simp
theorem flats_cut{ds:List D}{a b:Option Int}(h:flats ds=true):flats (cut ds a b)=true:=flats_all fun d hd=>flats_mem h d (cut_sub hd)
theorem atI_get{α:Type}{xs:List α}{i:Int}{a:α}(h0:0<=i)(h:xs[i.toNat]? =some a):atI xs i=some a:=by
 obtain⟨k,rfl⟩:=Int.eq_ofNat_of_zero_le h0
 exact atI_nat (by simpa using h)
mutual
def Gr(g:List D->List D):D->D->Prop
 |.lst ds,d'=>∃es,Grs g ds es/\(d'=.lst es\/d'=.lst (g es))
 |.tup ds,d'=>∃es,Grs g ds es/\d'=.tup es
 |.non,d'=>d'=.non
 |.bl b,d'=>d'=.bl b
 |.int i,d'=>d'=.int i
 |.str x,d'=>d'=.str x
 |.dct o,d'=>d'=.dct o
 |.ktup ks,d'=>d'=.ktup ks
 |.agg s ds,d'=>d'=.agg s ds
def Grs(g:List D->List D):List D->List D->Prop
 |[],es=>es=[]
 |d::ds,es=>∃e r,es=e::r/\Gr g d e/\Grs g ds r
end
theorem gr_lst{g:List D->List D}{ds:List D}{d':D}:Gr g (.lst ds) d'↔ ∃es,Grs g ds es/\(d'=.lst es\/d'=.lst (g es)):=by
 constructor
 . intro h;unfold Gr at h;exact h
 . intro h;unfold Gr;exact h
theorem gr_tup{g:List D->List D}{ds:List D}{d':D}:Gr g (.tup ds) d'↔ ∃es,Grs g ds es/\d'=.tup es:=by
 constructor
 . intro h;unfold Gr at h;exact h
 . intro h;unfold Gr;exact h
theorem grs_nil{g:List D->List D}{es:List D}:Grs g [] es↔es=[]:=by unfold Grs;exact Iff.rfl
theorem grs_cons{g:List D->List D}{d:D}{ds es:List D}:Grs g (d::ds) es↔ ∃e r,es=e::r/\Gr g d e/\Grs g ds r:=by
 constructor
 . intro h;unfold Grs at h;exact h
 . intro h;unfold Grs;exact h
section
variable{K:PySem.W.Frag}{H H2:Hp}{Z Z2:Zone}{g:List D->List D}{l:Addr}{ys:List V}
mutual
theorem In.gr(hm:Z.m=true)(hm2:Z2.m=true)(hS:∀a,Z.S a->Z2.S a)(nl:∀o:DO,H l≠some o.ho)(k:∀a (xs:MO),H a=some xs.ho->a≠l->H2 a=some xs.ho)(kl:∀xs es,H l=some (.lst xs)->Ins K H2 Z2 es xs->H2 l=some (.lst ys)/\Ins K H2 Z2 (g es) ys)(kt:∀a (xs:List V),H a=some (.tup xs)->H2 a=some (.tup xs)):
 ∀{d:D} {v:V},In K H Z d v->∃d',Gr g d d'/\In K H2 Z2 d' v
 |.non,v,h=>⟨.non,by unfold Gr;rfl,in_non.mpr (in_non.mp h)⟩
 |.bl b,v,h=>⟨.bl b,by unfold Gr;rfl,in_bl.mpr (in_bl.mp h)⟩
 |.int i,v,h=>⟨.int i,by unfold Gr;rfl,in_int.mpr (in_int.mp h)⟩
 |.str x,v,h=>⟨.str x,by unfold Gr;rfl,in_str.mpr (in_str.mp h)⟩
 |.agg s ds,v,h=>absurd h in_agg
 |.ktup ks,v,h=>⟨.ktup ks,by unfold Gr;rfl,in_ktup.mpr (in_ktup.mp h)⟩
 |.dct o,v,h=>by
  obtain⟨a,rfl,l',z⟩:=in_dct.mp h
  exact⟨.dct o,by unfold Gr;rfl,in_dct.mpr ⟨a,rfl,k a (.d o) l' (fun q=>nl o (q▸l')),hS a z⟩⟩
 |.lst ds,v,h=>by
  obtain⟨a,xs,rfl,at',j⟩:=in_lst.mp h
  obtain⟨e1,e2⟩:H a=some (.lst xs)/\Z.S a:=by
   rcases at' with z|z
   . exact z
   . rw[hm]at z;exact absurd z.1 (by simp)
  obtain⟨es,q1,q2⟩:=Ins.gr hm hm2 hS nl k kl kt j
  by_cases hal:a=l
  . subst hal
    obtain⟨q3,q4⟩:=kl xs es e1 q2
    exact⟨.lst (g es),gr_lst.mpr ⟨es,q1,.inr rfl⟩,in_lst.mpr ⟨a,ys,rfl,.inl ⟨q3,hS a e2⟩,q4⟩⟩
  . exact⟨.lst es,gr_lst.mpr ⟨es,q1,.inl rfl⟩,in_lst.mpr ⟨a,xs,rfl,.inl ⟨k a (.l xs) e1 hal,hS a e2⟩,q2⟩⟩
 |.tup ds,v,h=>by
  obtain⟨a,xs,rfl,at',j⟩:=in_tup.mp h
  obtain⟨es,q1,q2⟩:=Ins.gr hm hm2 hS nl k kl kt j
  exact⟨.tup es,gr_tup.mpr ⟨es,q1,rfl⟩,in_tup.mpr ⟨a,xs,rfl,kt a xs at',q2⟩⟩
theorem Ins.gr(hm:Z.m=true)(hm2:Z2.m=true)(hS:∀a,Z.S a->Z2.S a)(nl:∀o:DO,H l≠some o.ho)(k:∀a (xs:MO),H a=some xs.ho->a≠l->H2 a=some xs.ho)(kl:∀xs es,H l=some (.lst xs)->Ins K H2 Z2 es xs->H2 l=some (.lst ys)/\Ins K H2 Z2 (g es) ys)(kt:∀a (xs:List V),H a=some (.tup xs)->H2 a=some (.tup xs)):
 ∀{ds:List D} {vs:List V},Ins K H Z ds vs->∃es,Grs g ds es/\Ins K H2 Z2 es vs
 |[],vs,h=>⟨[],grs_nil.mpr rfl,ins_nil.mpr (ins_nil.mp h)⟩
 |d::ds,vs,h=>by
  obtain⟨v,r,rfl,a,b⟩:=ins_cons.mp h
  obtain⟨e,q1,q2⟩:=In.gr hm hm2 hS nl k kl kt a
  obtain⟨es,q3,q4⟩:=Ins.gr hm hm2 hS nl k kl kt b
  exact⟨e::es,grs_cons.mpr ⟨e,es,rfl,q1,q3⟩,ins_cons.mpr ⟨v,r,rfl,q2,q4⟩⟩
end
theorem nub(as:List Addr):∃bs:List Addr,bs.Nodup/\ ∀a,a∈bs↔a∈as:=by
 induction as with
 |nil=>exact⟨[],List.nodup_nil,fun a=>Iff.rfl⟩
 |cons c as ih=>
  obtain⟨bs,h1,h2⟩:=ih
  by_cases hc:c∈bs
  . exact⟨bs,h1,fun a=>by rw[h2,mem_cons];exact⟨.inr,fun z=>z.elim (fun e=>by rw[e];exact(h2 c).mp hc) id⟩⟩
  . exact⟨c::bs,nodup_cons.mpr ⟨hc,h1⟩,fun a=>by rw[mem_cons,mem_cons,h2]⟩
mutual
theorem In.collect(hm:Z.m=true):∀{d:D} {v:V},In K H Z d v->∃as:List Addr,(∀a∈as,Z.S a/\ ∃xs:MO,H a=some xs.ho)/\In K H ⟨true,fun a=>a∈as⟩ d v
 |.non,v,h=>⟨[],by simp,in_non.mpr (in_non.mp h)⟩
 |.bl b,v,h=>⟨[],by simp,in_bl.mpr (in_bl.mp h)⟩
 |.int i,v,h=>⟨[],by simp,in_int.mpr (in_int.mp h)⟩
 |.str x,v,h=>⟨[],by simp,in_str.mpr (in_str.mp h)⟩
 |.agg s ds,v,h=>absurd h in_agg
 |.ktup ks,v,h=>⟨[],by simp,in_ktup.mpr (in_ktup.mp h)⟩
 |.dct o,v,h=>by
  obtain⟨a,rfl,l,z⟩:=in_dct.mp h
  exact⟨[a],fun b hb=>by
   have:b=a:=by simpa using hb
   subst this
   exact⟨z,.d o,l⟩,in_dct.mpr ⟨a,rfl,l,by simp⟩⟩
 |.lst ds,v,h=>by
  obtain⟨a,xs,rfl,at',j⟩:=in_lst.mp h
  obtain⟨e1,e2⟩:H a=some (.lst xs)/\Z.S a:=by
   rcases at' with z|z
   . exact z
   . rw[hm]at z;exact absurd z.1 (by simp)
  obtain⟨as,q1,q2⟩:=Ins.collect hm j
  refine⟨a::as,fun b hb=>?_,in_lst.mpr ⟨a,xs,rfl,.inl ⟨e1,by simp⟩,q2.carry ⟨fun b ys e z=>⟨e,mem_cons_of_mem _ z⟩,fun m=>Bool.noConfusion (show true=false from m),fun _ _ e=>e⟩⟩⟩
  rcases mem_cons.mp hb with rfl|hb
  . exact⟨e2,.l xs,e1⟩
  . exact q1 b hb
 |.tup ds,v,h=>by
  obtain⟨a,xs,rfl,at',j⟩:=in_tup.mp h
  obtain⟨as,q1,q2⟩:=Ins.collect hm j
  exact⟨as,q1,in_tup.mpr ⟨a,xs,rfl,at',q2⟩⟩
theorem Ins.collect(hm:Z.m=true):∀{ds:List D} {vs:List V},Ins K H Z ds vs->∃as:List Addr,(∀a∈as,Z.S a/\ ∃xs:MO,H a=some xs.ho)/\Ins K H ⟨true,fun a=>a∈as⟩ ds vs
 |[],vs,h=>⟨[],by simp,ins_nil.mpr (ins_nil.mp h)⟩
 |d::ds,vs,h=>by
  obtain⟨v,r,rfl,a,b⟩:=ins_cons.mp h
  obtain⟨as,q1,q2⟩:=In.collect hm a
  obtain⟨bs,q3,q4⟩:=Ins.collect hm b
  refine⟨as++bs,fun c hc=>?_,ins_cons.mpr ⟨v,r,rfl,q2.carry ⟨fun b ys e z=>⟨e,mem_append.mpr (.inl z)⟩,fun m=>Bool.noConfusion (show true=false from m),fun _ _ e=>e⟩,q4.carry ⟨fun b ys e z=>⟨e,mem_append.mpr (.inr z)⟩,fun m=>Bool.noConfusion (show true=false from m),fun _ _ e=>e⟩⟩⟩
  rcases mem_append.mp hc with h|h
  . exact q1 c h
  . exact q3 c h
end
end
end Y
namespace Y
open PySem PySem.Spec PyProof.Rows L2
def KD0{α:Type}:Sem α->Prop
 |.pure _=>True
 |.raise _=>True
 |.unsupported _=>True
 |.finish _=>True
 |.rule _ k=>KD0 (k ())
 |.at _ k=>KD0 (k ())
 |.load _ _ k=>∀o,KD0 (k o)
 |.update _ _ f k=>(∀o,(f o).dict=o.dict/\(f o).isFreed=o.isFreed)/\KD0 (k ())
 |.alloc _ k=>∀n,KD0 (k n)
 |.loadIfAlive _ k=>∀o,KD0 (k o)
 |.point _ k=>KD0 (k ())
 |.fresh k=>∀n,KD0 (k n)
 |.ask k=>∀n,KD0 (k n)
 |.choose _ _ k=>∀n,KD0 (k n)
 |.handled _ k=>∀n,KD0 (k n)
 |.genState _ k=>∀n,KD0 (k n)
 |.stack k=>∀n,KD0 (k n)
 |.thread k=>∀n,KD0 (k n)
 |_=>False
def DK(h h':Heap):Prop:=∀b o,h.get? b=some o->∃o',h'.get? b=some o'/\o'.dict=o.dict
theorem DK.refl(h:Heap):DK h h:=fun _ o e=>⟨o,e,rfl⟩
theorem DK.trans{h h1 h2:Heap}(x:DK h h1)(y:DK h1 h2):DK h h2:=fun b o e=>
 let⟨o1,e1,d1⟩:=x b o e
 let⟨o2,e2,d2⟩:=y b o1 e1
 ⟨o2,e2,d2.trans d1⟩
theorem DK.push{h:Heap}{o:Obj}:DK h (h.push o):=fun _ o e=>⟨o,get?_push_of_some _ e,rfl⟩
theorem get_freed{h:Heap}{a:Addr}{o:Obj}(e:h.get? a=some o):o.isFreed=false:=(Heap.get?_some_iff.mp e).2
theorem DK.update{h:Heap}{a:Addr}{f:Obj->Obj}(hf:∀o,(f o).dict=o.dict/\(f o).isFreed=o.isFreed):DK h (h.update a f):=fun b o e=>by
 by_cases q:a=b
 . subst q
   exact⟨f o,Heap.get?_update_self f e ((hf o).2.trans (get_freed e)),(hf o).1⟩
 . exact⟨o,(Heap.get?_update_other _ _ q).trans e,rfl⟩
theorem wp_kd{α:Type}{M:Model}{Γ:PySem.Ctx}{Q:α->Pos->Shared->Prop}{E:Value->Pos->Shared->Prop}{h0:Heap}:
 ∀(t:Sem α) (p:Pos) (s:Shared),KD0 t->DK h0 s.heap->Sem.wp M Γ t Q E p s->Sem.wp M Γ t (fun a p s'=>Q a p s'/\DK h0 s'.heap) E p s
 |.pure a,p,s,_,d,h=>⟨h,d⟩
 |.raise _,_,_,_,_,h=>h
 |.unsupported _,_,_,_,_,h=>h.elim
 |.finish _,_,_,_,_,h=>h.elim
 |.rule _ k,p,s,c,d,h=>wp_kd (k ()) p s c d h
 |.at p' k,p,s,c,d,h=>wp_kd (k ()) p' s c d h
 |.load _ _ k,p,s,c,d,⟨o,e,h⟩=>⟨o,e,wp_kd (k o) p s (c o) d h⟩
 |.update _ _ f k,p,s,c,d,⟨e,h⟩=>⟨e,wp_kd (k ()) p _ c.2 (d.trans (DK.update c.1)) h⟩
 |.alloc o k,p,s,c,d,h=>wp_kd (k _) p _ (c _) (d.trans DK.push) h
 |.loadIfAlive _ k,p,s,c,d,h=>wp_kd (k _) p s (c _) d h
 |.point _ k,p,s,c,d,h=>wp_kd (k ()) p s c d h
 |.fresh k,p,s,c,d,h=>wp_kd (k _) p {s with toks:=s.toks+1} (c _) d h
 |.ask k,p,s,c,d,h=>wp_kd (k _) p s (c _) d h
 |.choose src n k,p,s,c,d,⟨e,h⟩=>⟨e,wp_kd (k _) p {s with drawn:=s.drawn.bump src} (c _) d h⟩
 |.handled _ k,p,s,c,d,h=>wp_kd (k _) p s (c _) d h
 |.genState _ k,p,s,c,d,⟨st,e,h⟩=>⟨st,e,wp_kd (k _) p s (c _) d h⟩
 |.stack k,p,s,c,d,h=>wp_kd (k _) p s (c _) d h
 |.thread k,p,s,c,d,h=>wp_kd (k _) p s (c _) d h
 |.register _ _,_,_,c,_,_=>c.elim
 |.os _ _ _,_,_,c,_,_=>c.elim
 |.call _ _ _ _ _,_,_,c,_,_=>c.elim
 |.newGen _ _,_,_,c,_,_=>c.elim
 |.resume _ _ _ _,_,_,c,_,_=>c.elim
 |.yield _ _ _ _,_,_,c,_,_=>c.elim
 |.fork _ _,_,_,c,_,_=>c.elim
 |.await _ _ _ _ _,_,_,c,_,_=>c.elim
theorem wpAny_kd{α:Type}{M:Model}{A:Around}{t:Sem α}{Q:α->Shared->Prop}{E:Value->Shared->Prop}{s:Shared}(c:KD0 t)(h:wpAny M A t Q E s):wpAny M A t (fun a s'=>Q a s'/\DK s.heap s'.heap) E s:=
 fun Γ p hΓ=>wp_kd t p s c (DK.refl _) (h Γ p hΓ)
theorem kd_bind{α β:Type}{f:α->Sem β}(hf:∀a,KD0 (f a)):∀{m:Sem α},KD0 m->KD0 (m.bind f)
 |.pure a,_=>hf a
 |.raise _,_=>trivial
 |.unsupported _,_=>trivial
 |.finish _,_=>trivial
 |.rule _ k,c=>kd_bind (m:=k ()) hf c
 |.at _ k,c=>kd_bind (m:=k ()) hf c
 |.load _ _ k,c=>fun o=>kd_bind hf (c o)
 |.update _ _ _ k,c=>⟨c.1,kd_bind (m:=k ()) hf c.2⟩
 |.alloc _ k,c=>fun o=>kd_bind hf (c o)
 |.loadIfAlive _ k,c=>fun o=>kd_bind hf (c o)
 |.point _ k,c=>kd_bind (m:=k ()) hf c
 |.fresh k,c=>fun o=>kd_bind hf (c o)
 |.ask k,c=>fun o=>kd_bind hf (c o)
 |.choose _ _ k,c=>fun o=>kd_bind hf (c o)
 |.handled _ k,c=>fun o=>kd_bind hf (c o)
 |.genState _ k,c=>fun o=>kd_bind hf (c o)
 |.stack k,c=>fun o=>kd_bind hf (c o)
 |.thread k,c=>fun o=>kd_bind hf (c o)
 |.register _ _,c=>c.elim
 |.os _ _ _,c=>c.elim
 |.call _ _ _ _ _,c=>c.elim
 |.newGen _ _,c=>c.elim
 |.resume _ _ _ _,c=>c.elim
 |.yield _ _ _ _,c=>c.elim
 |.fork _ _,c=>c.elim
 |.await _ _ _ _ _,c=>c.elim
theorem kd_then{α β:Type}{m:Sem α}{f:α->Sem β}(c:KD0 m)(hf:∀a,KD0 (f a)):KD0 (m>>=f):=kd_bind hf c
theorem kd_pure{α:Type}{a:α}:KD0 (pure a:Sem α):=trivial
theorem kd_load{a:Addr}:KD0 (load a):=fun _=>trivial
theorem kd_update{a:Addr}{f:Obj->Obj}(h:∀o,(f o).dict=o.dict/\(f o).isFreed=o.isFreed):KD0 (update a f):=⟨h,trivial⟩
theorem kd_uns{α:Type}{w:String}:KD0 (unsupported w:Sem α):=trivial
theorem kd_stack:KD0 stack:=fun _=>trivial
theorem kd_field{v:Value}{i:Nat}:KD0 (field v i):=by
 unfold field
 refine kd_then ?_ fun vs=>?_
 . unfold fieldsOf
   split
   . refine kd_then kd_load fun o=>?_
     split
     . exact kd_pure
     . exact kd_uns
   . exact kd_uns
 . split
   . exact kd_pure
   . exact kd_uns
theorem mapFields_keeps{f:Array Value->Array Value}(o:Obj):(o.mapFields f).dict=o.dict/\(o.mapFields f).isFreed=o.isFreed:=by
 obtain⟨c,d,dt,sl⟩:=o
 cases dt<;>exact⟨rfl,rfl⟩
theorem kd_setField{v x:Value}{i:Nat}:KD0 (setField v i x):=by
 unfold setField
 split
 . unfold updateField
   refine kd_then kd_load fun o=>?_
   split
   . split
     . exact kd_update mapFields_keeps
     . exact kd_uns
   . exact kd_uns
 . exact kd_uns
theorem kd_setFlight{e:Value}{f:Option Addr}:KD0 (setFlight e f):=by
 unfold setFlight
 refine kd_then kd_field fun tb=>?_
 split
 . exact kd_setField
 . exact kd_pure
theorem kd_asIs{ty:String}{d:Data}:KD0 (newObjAsIs (.type ty) d):=fun _=>trivial
theorem kd_newFields{ty:String}{vs:List Value}:KD0 (newFields ty vs):=by
 unfold newFields newObj
 dsimp only
 split
 . exact trivial
 . exact kd_asIs
theorem kd_ready:∀(l:List Env),KD0 (readyFrames l)
 |[]=>trivial
 |env::outer=>by
  unfold readyFrames
  split
  . refine kd_then kd_load fun o=>?_
    split
    . exact kd_pure
    . refine kd_then ?_ fun b=>kd_then ?_ fun back=>kd_then (kd_update fun o=>by obtain⟨c,d,dt,sl⟩:=o;cases dt<;>exact⟨rfl,rfl⟩) fun _=>kd_ready outer
      . unfold behindIsImport
        split
        . exact kd_pure
        . split
          . exact kd_pure
          . exact kd_then kd_field fun _=>kd_pure
      . unfold keptBack
        split
        . split
          . exact kd_pure
          . unfold underTheClaimsCaller
            exact kd_then (kd_then kd_stack fun _=>kd_pure) fun _=>kd_pure
        . exact kd_pure
  . exact kd_uns
theorem kd_frameOf{env:Env}:KD0 (PySem.frameOf env):=by
 unfold PySem.frameOf frameEnvs
 refine kd_then (kd_then kd_stack fun _=>kd_pure) fun l=>kd_then ?_ fun r=>?_
 . unfold frameObject
   split
   . exact kd_pure
   . exact kd_then (kd_ready _) fun _=>kd_pure
 . split
   . exact kd_pure
   . exact kd_uns
theorem kd_note{e:Value}{env:Env}:KD0 (noteFrame e env):=by
 unfold noteFrame
 split
 . refine kd_then kd_field fun head=>?_
   have fin:KD0 (do setField e 1 (<-EntryCells.newEntry head (<-PySem.frameOf env) .none (rawInt ‹Addr›) .none (<-entryPlaceOf ‹Addr› (head !=.none)))):=by
    refine kd_then kd_frameOf fun a=>kd_then ?_ fun pl=>kd_then kd_newFields fun b=>kd_setField
    unfold entryPlaceOf
    refine kd_then kd_stack fun acts=>?_
    split<;>exact trivial
   split
   . refine kd_then kd_field fun x=>?_
     split
     . exact kd_pure
     . exact kd_then kd_setField fun _=>fin
   . exact fin
 . exact kd_uns
theorem kd_leaving{e:Value}{env:Env}:KD0 (leaving env e):=kd_then kd_note fun _=>kd_setFlight
end Y
namespace Y
open PySem PySem.Spec PyProof.Rows L2
variable[Tabs]
def ground(l:List Addr)(h:Heap):Heap:={h with objs:=h.objs.mapIdx fun i o=>if i∈l then{o with data:=.freed}else o}
theorem ground_out{l:List Addr}{h:Heap}{b:Addr}(hb:b∈l):(ground l h).get? b=none:=by
 unfold ground Heap.get?
 simp only[Array.getElem?_mapIdx]
 cases h.objs[b]? with
 |none=>rfl
 |some o=>simp[hb]
theorem ground_in{l:List Addr}{h:Heap}{b:Addr}(hb:b∉l):(ground l h).get? b=h.get? b:=by
 unfold ground Heap.get?
 simp only[Array.getElem?_mapIdx]
 cases h.objs[b]? with
 |none=>rfl
 |some o=>simp[hb]
theorem ground_stays{l:List Addr}{h:Heap}:(ground l h).StaysIn h:=fun b o e=>by
 by_cases hb:b∈l
 . rw[ground_out hb]at e;cases e
 . rw[ground_in hb]at e;exact e
theorem frames_ground{h base:Heap}:∀{l:List Env} {fs:List Addr},h.FunFrames base l->(∀b∈frs l,b∈fs)->h.FunFrames (ground fs h) l
 |[],_,_,_=>trivial
 |env::rest,fs,x,m=>by
  obtain⟨hk,⟨L,o,hf,hn,ho,hd⟩,hr⟩:=x
  refine⟨hk,⟨L,o,hf,ground_out (m L ?_),ho,hd⟩,frames_ground hr fun b hb=>m b ?_⟩
  . unfold frs;rw[List.filterMap_cons,hf];exact mem_cons_self
  . unfold frs at hb⊢;rw[List.filterMap_cons,hf];exact mem_cons_of_mem _ hb
structure Fly(P:Program)(w:World)(outer:List Env)(H:Hp)(s:Shared)(H':Hp)(a:Addr)(cls:Value)(dct:Option Addr)(s':Shared):Prop where
 os:s'.os=s.os
 bare:AllBare s'.gens
 un:Un (frs outer) [] H H' s.heap s'.heap
 hok:HOk P w H' s'.heap
 dt:∃oe,s'.heap.get? a=some oe/\oe.dict=dct
 fl:∃B a0,Heap.FlyingW B outer a cls a0 s'.heap/\(∀b,H' b≠none->B.get? b≠none)/\(∀b o,s.heap.get? b=some o->b∉frs outer->B.get? b≠none)
def CX1(P:Program)(w:World):CXT:=fun outer H s E e s'=>∃a cls dct H',e=.ref a/\Fly P w outer H s H' a cls dct s'/\E cls dct H'
theorem ObjOk.obj{P:Program}{w:World}{H:Hp}{h:Heap}{a:Addr}{o:HO}(x:ObjOk P w H h a o):∃u,h.get? a=some u:=by
 cases o with
 |lst xs=>obtain⟨_,_,_,_,e⟩:=x;exact⟨_,e⟩
 |tup xs=>obtain⟨_,_,_,ob,e,_⟩:=x;exact⟨_,e⟩
 |dK kvs=>obtain⟨_,_,_,_,o,_,_,e,_⟩:=x;exact⟨_,e⟩
 |dT kvs=>obtain⟨_,_,_,_,o,_,_,e,_⟩:=x;exact⟨_,e⟩
 |set S n=>obtain⟨o,_,_,_,e,_⟩:=x;exact⟨_,e⟩
 |ins C dx fs=>obtain⟨_,_,_,e,_⟩:=x;exact⟨_,e⟩
 |own y=>exact x
 |xd fs=>obtain⟨_,⟨_,_,_,e,_⟩,_⟩:=x;exact⟨_,e⟩
 |rng lo hi=>obtain⟨_,_,_,e⟩:=x;exact⟨_,e⟩
 |frz ob u=>obtain⟨e,_⟩:=x;exact⟨_,e⟩
 |tbl ps=>exact⟨_,(show h.get? a=some _ from x)⟩
 |met f y=>exact⟨_,(show h.get? a=some _ from x)⟩
 |ext φ=>obtain⟨_,e,_⟩:=x;exact e
theorem HOk.kept'{P:Program}{w:World}{H:Hp}{h h':Heap}(x:HOk P w H h)(k:∀b u,H b≠none->h.get? b=some u->h'.get? b=some u):HOk P w H h':=fun a o e=>
 (x a o e).stay (fun b u hb q=>k b u (by
  rcases hb with rfl|hb
  . rw[e];simp
  . rw[hb];simp) q) (fun _ q=>q) fun _ _ q=>q
section
variable{P:Program}{w:World}{K:PySem.W.Frag}{mg:Str->Option Value}{base:Heap}{N:List Str}{qual:Str}{scope:Scope}{f:Addr}{cd:Value}{A:Around}{outer:List Env}{s0:Shared}{H0:Hp}{Ex:XK}
theorem xe_gen{pins:List (Addr×Obj)}{σ:L2.St}{H:Hp}{s:Shared}{e:Addr}{oe:Obj}{vs:Array Value}{a0:Value}
 (I:Inv (cxOf (CX1 P w) P w K mg base N qual scope f cd A outer s0 H0 Ex) pins σ H s)(he:s.heap.get? e=some oe)(hH:H e=none)(hs0:s0.heap.get? e=none)(hd:oe.data=.fields vs)(h1:vs[1]? =some .none)(h0:vs[0]? =some a0)(hE:Ex oe.cls oe.dict H):
 (cxOf (CX1 P w) P w K mg base N qual scope f cd A outer s0 H0 Ex).xe (.ref e) s:=by
 have hst:=I.stack
 have hfree:=I.stkFree
 have hlt:∀b o,s0.heap.get? b=some o->b≠s0.heap.objs.size:=fun b o q=>Nat.ne_of_lt (lt_size q)
 have hmem:∀b,b∈frs (envOfC qual scope s0.heap.objs.size f cd::outer)->b=s0.heap.objs.size\/b∈frs outer:=fun b hb=>by
  unfold frs at hb⊢
  rw[List.filterMap_cons]at hb
  exact mem_cons.mp hb
 refine wpAny_mono (wpAny_kd kd_leaving (wpAny_leaving_firstW (M:=model P w) (E:=fun _ _=>False) (Q:=fun _ s'=>∃h',s'={s with heap:=h'}/\Heap.LeftW (ground (e::frs (envOfC qual scope s0.heap.objs.size f cd::outer)) s.heap) (envOfC qual scope s0.heap.objs.size f cd::outer) e oe.cls a0 s.heap h')
  I.ok.frames (frames_ground hst fun b hb=>mem_cons_of_mem _ hb) rfl he ground_stays (ground_out mem_cons_self) hd h1 h0 fun h' hL=>⟨h',rfl,hL⟩)) (fun _ s' ⟨⟨h2,e2,hfl⟩,dk⟩=>?_) fun _ _ z=>z.elim
 subst e2
 obtain⟨stay,⟨_,_,frm⟩,tr,hup⟩:=hfl
 have keep:∀b o,s.heap.get? b=some o->b≠e->b∉frs (envOfC qual scope s0.heap.objs.size f cd::outer)->h2.get? b=some o:=fun b o q ne nb=>stay b o (by rw[ground_in fun hm=>(mem_cons.mp hm).elim ne nb];exact q)
 have ne0:∀b o,s0.heap.get? b=some o->b≠e:=fun b o q z=>by rw[z,hs0]at q;cases q
 refine⟨e,oe.cls,oe.dict,H,rfl,⟨I.os,I.bare,⟨fun b o q n nf ne=>?_,fun b o q n nf ne=>?_,fun b o q n ne=>I.base.free b o q n ne,fun b o q ne=>?_,I.base.tups,I.base.frzs,I.base.tbls⟩,?_,dk e oe he,⟨_,_,⟨stay,ground_out mem_cons_self,frm,tr⟩,fun b hb=>?_,fun b o q nb=>?_⟩⟩,hE⟩
 . exact keep b o (I.base.keep b o q n nf ne) (ne0 b o q) fun hm=>(hmem b hm).elim (hlt b o q) nf
 . obtain⟨sl,q2⟩:=I.base.slot b o q n nf ne
   obtain⟨_,o3,q3,nfd⟩:=hst.mem (b:=b) (by
    show b∈(envOfC qual scope s0.heap.objs.size f cd::outer).filterMap (·.frame)
    rw[List.filterMap_cons]
    exact mem_cons_of_mem _ nf)
   rw[q2]at q3
   cases q3
   obtain⟨sl2,q4⟩:=hup b _ q2 nfd
   exact⟨sl2,q4⟩
 . obtain⟨o',q2⟩:=I.base.there b o q ne
   by_cases hm:b∈frs (envOfC qual scope s0.heap.objs.size f cd::outer)
   . obtain⟨_,o3,q3,nfd⟩:=hst.mem (b:=b) hm
     obtain⟨sl2,q4⟩:=hup b _ q3 nfd
     exact⟨_,q4⟩
   . exact⟨_,keep b o' q2 (ne0 b o q) hm⟩
 . exact HOk.kept' I.hok fun b u hb q=>keep b u q (fun z=>hb (by rw[z];exact hH)) fun hm=>hb (hfree b hm)
 . cases q:H b with
   |none=>exact absurd q hb
   |some o=>
    obtain⟨u,q2⟩:=ObjOk.obj (I.hok b o q)
    rw[ground_in (l:=e::frs (envOfC qual scope s0.heap.objs.size f cd::outer)) fun hm=>(mem_cons.mp hm).elim (fun z=>hb (by rw[z];exact hH)) fun hm=>hb (hfree b hm),q2]
    simp
 . obtain⟨o',q2⟩:=I.base.there b o q (by intro z;cases z)
   rw[ground_in fun hm=>(mem_cons.mp hm).elim (ne0 b o q) fun hm=>(hmem b hm).elim (hlt b o q) nb,q2]
   simp
theorem xe_made{pins:List (Addr×Obj)}{σ:L2.St}{H:Hp}{s:Shared}{h':Heap}{e:Addr}{cls:Value}{args:List Value}
 (I:Inv (cxOf (CX1 P w) P w K mg base N qual scope f cd A outer s0 H0 Ex) pins σ H s)(hx:Heap.MadeExcOf s.heap h' e cls args)(hE:Ex cls none H):
 (cxOf (CX1 P w) P w K mg base N qual scope f cd A outer s0 H0 Ex).xe (.ref e) {s with heap:=h'}:=by
 obtain⟨t,he,_,_⟩:=hx.there
 have I':Inv (cxOf (CX1 P w) P w K mg base N qual scope f cd A outer s0 H0 Ex) pins σ H {s with heap:=h'}:=I.kept (t':=s.toks) fun b o q=>hx.keeps b o q
 refine xe_gen I' he ?_ ?_ rfl rfl rfl hE
 . cases q:H e with
   |none=>rfl
   |some o=>obtain⟨u,q2⟩:=ObjOk.obj (I.hok e o q);rw[hx.new]at q2;cases q2
 . cases q:s0.heap.get? e with
   |none=>rfl
   |some o=>obtain⟨u,q2⟩:=I.base.there e o q (by intro z;cases z);rw[hx.new]at q2;cases q2
end
def XE(X:Cx)(Ex:XK):Prop:=∀(pins:List (Addr×Obj)) (σ:L2.St) (H:Hp) (s:Shared) (h':Heap) (e:Addr) (cls:Value) (args:List Value),Inv X pins σ H s->Heap.MadeExcOf s.heap h' e cls args->Ex cls none H->X.xe (.ref e) {s with heap:=h'}
structure ExcK(K:PySem.W.Frag)(C:Addr)(bm bmB:List Value)(newId:String):Prop where
 obj:∃(nm q:Str) (N:Addr) (bs:List Value) (hdct:Bool) (sn:List Str) (sub:List Value) (ab:Bool) (col:Option Bool) (dd:Option Addr) (k0 k1 k2 k3 k5:Option Value),
  K.lookup C=some (excClassObj nm q C N bs bm hdct sn sub ab col dd k0 k1 k2 k3 k5 newId)/\PySem.W.nsOkIn K N=true/\PySem.W.nsIn K N "__init__"=some none
 tail:PySem.W.tailIn K bmB bm=true
def ExcO(K:PySem.W.Frag)(C:Addr)(bm:List Value):Prop:=∃(nm q:Str) (N:Addr) (bs:List Value) (hdct:Bool) (sn:List Str) (sub:List Value) (ab:Bool) (col:Option Bool) (dd:Option Addr) (k0 k1 k2 k3 k5:Option Value) (nid:String),
 K.lookup C=some (excClassObj nm q C N bs bm hdct sn sub ab col dd k0 k1 k2 k3 k5 nid)
section
variable{X:Cx}{Ex:XK}{x:Str}{C:Addr}{bm bmB:List Value}{B newId initId:String}{e0:Expr}{t:TA}{np cpos pos:Pos}
theorem ps_raise1(hx:XE X Ex)(hc:X.calm=true)(hg:Gl X x)(hm:X.mg x=some (.ref C))(c:ExcK X.K C bm bmB newId)(Fb:ExcBaseFacts B newId initId bmB)(ha:PA X [e0] t)
 (hst:starEach [e0] X.env=[(false,eval e0 X.env)]:=by rfl)(hd:(x==("__debug__":Str))=false:=by decide):
 PS X (.Raise (some (.Call (.Name x np) [e0] [] cpos)) none pos) (fun _ σ H=>t σ H fun vs H1=>vs.length<=1/\Ex (.ref C) none H1):=by
 intro pins s σ H D I h
 obtain⟨nm,q,N,bs,hdct,sn,sub,ab,col,dd,k0,k1,k2,k3,k5,lk,ok,ni⟩:=c.obj
 have kin:=I.mod.kin
 have T0:=PySem.W.tail_of_in kin c.tail
 have hN:X.base.Ns N (X.base.nsMap N):=.of_isNs (PySem.W.isNs_of_in kin ok)
 refine wpAny_Raise_call_subT (C:=C) (nm:=nm) (q:=q) (N:=N) (bs:=bs) (bm:=bm) (hdct:=hdct) (sn:=sn) (sub:=sub) (ab:=ab) (col:=col) (dd:=dd) (k0:=k0) (k1:=k1) (k2:=k2) (k3:=k3) (k5:=k5)
  Fb (mN:=X.base.nsMap N) (T0.hasType Fb.hasBase) (I.ok.hd hc) (by rw[hst];rfl) (PySem.W.nsMap_none_of_in kin ok ni) (ld_glob I hg hm ⟨rfl,?_⟩ hd)
 have h1:=ha cpos pins s σ H _ I h
 rw[hst]at h1⊢
 refine Calls.evalArgs_plain (thn h1 fun us s1 ⟨vs,H1,I1,r,z,q1⟩=>⟨rfl,?_,I1.bk _ _ (kin _ _ lk),hN.keeps I1.bk,T0.keeps I1.bk,fun h' e hmade=>hx pins σ H1 s1 h' e _ _ I1 hmade q1⟩)
 have:=r.length
 exact Nat.le_trans (by show us.length<=1;omega) (by decide)
end
section
variable{X:Cx}{F:Fn}{ρ:Rho}{Q:EndD}{rest:List Stmt}{Ex:XK}{x:Str}{C:Addr}{bm bmB:List Value}{B newId initId:String}{e0:Expr}{m1:Bool}{d:D}{np cpos pos:Pos}
theorem sd_raise1(hx:XE X Ex)(hm:X.mg x=some (.ref C))(c:ExcK X.K C bm bmB newId)(Fb:ExcBaseFacts B newId initId bmB)(he:E X m1 (view true false ρ) e0 d)(hE:∀H,Same F.H H->Ex (.ref C) none H)
 (hc:X.calm=true:=by rfl)(hg:Gl X x:=by rfl)(hst:starEach [e0] X.env=[(false,eval e0 X.env)]:=by rfl)(hd:(x==("__debug__":Str))=false:=by decide):
 SD X F (.Raise (some (.Call (.Name x np) [e0] [] cpos)) none pos::rest) ρ Q:=
 sd_seq (N:=fun _=>False) (PS.mono (ps_raise1 hx hc hg hm c Fb (pa_cons he pa_nil (by rw[hst];rfl)) hst hd) fun Q' σ H ⟨hv,hρ,A,hl,S,f⟩=>
  ⟨_,vz_open S true false,S.env hl true false,fun v H1 s1 i1=>⟨by simp,hE H1 (S.same.trans s1)⟩⟩) fun _ n=>n.elim
end
structure XD where
 c:Addr
 n:Option Int:=none
def XD.E(x:XD)(E:XK)(H:Hp):Prop:=match x.n with
 |none=>∀H',Same H H'->E (.ref x.c) none H'
 |some n=>∀H' dx,Same H H'->H dx=none->H' dx=some (.xd [("at",.int n)])->E (.ref x.c) (some dx) H'
section
variable{P:Program}{w:World}{outer:List Env}{H H':Hp}{s s':Shared}{a:Addr}{cls a0:Value}{dct:Option Addr}{B h5:Heap}
structure FlyB(P:Program)(w:World)(outer:List Env)(H:Hp)(s:Shared)(H':Hp)(a:Addr)(cls:Value)(dct:Option Addr)(B:Heap)(a0:Value)(s':Shared):Prop where
 os:s'.os=s.os
 bare:AllBare s'.gens
 un:Un (frs outer) [] H H' s.heap s'.heap
 hok:HOk P w H' s'.heap
 dt:∃oe,s'.heap.get? a=some oe/\oe.dict=dct
 fl:Heap.FlyingW B outer a cls a0 s'.heap
 hB:∀b,H' b≠none->B.get? b≠none
 sB:∀b o,s.heap.get? b=some o->b∉frs outer->B.get? b≠none
theorem Fly.b(f:Fly P w outer H s H' a cls dct s'):∃B a0,FlyB P w outer H s H' a cls dct B a0 s':=
 let⟨B,a0,x,y,z⟩:=f.fl
 ⟨B,a0,f.os,f.bare,f.un,f.hok,f.dt,x,y,z⟩
theorem FlyB.on(f:FlyB P w outer H s H' a cls dct B a0 s')(x:Heap.FlyingW B outer a cls a0 h5)(u:s'.heap.UpToSlots h5)(dk:DK s'.heap h5):FlyB P w outer H s H' a cls dct B a0 {s' with heap:=h5}:=by
 have same:∀b o,s'.heap.get? b=some o->B.get? b≠none->h5.get? b=some o:=fun b o e n=>by
  cases q:B.get? b with
  |none=>exact absurd q n
  |some o2=>
   have:=f.fl.1 b o2 q
   rw[e]at this
   cases this
   exact x.1 b o q
 have fr:∀b o,b∈frs outer->s'.heap.get? b=some o->∃sl,h5.get? b=some {o with slots:=sl}:=fun b o hb e=>by
  obtain⟨_,o3,q3,nf⟩:=f.fl.2.2.1.mem (b:=b) hb
  rw[e]at q3
  cases q3
  exact u b o e nf
 refine⟨f.os,f.bare,⟨fun b o e n nb ne=>same b o (f.un.keep b o e n nb ne) (f.sB b o e nb),fun b o e n hb ne=>?_,f.un.free,fun b o e ne=>?_,f.un.tups,f.un.frzs,f.un.tbls⟩,HOk.kept' f.hok fun b u hb q=>same b u q (f.hB b hb),let⟨o1,e1,d1⟩:=f.dt;let⟨o2,e2,d2⟩:=dk a o1 e1;⟨o2,e2,d2.trans d1⟩,x,f.hB,f.sB⟩
 . obtain⟨sl,e1⟩:=f.un.slot b o e n hb ne
   obtain⟨sl2,e2⟩:=fr b _ hb e1
   exact⟨sl2,e2⟩
 . obtain⟨o1,e1⟩:=f.un.there b o e ne
   by_cases hb:b∈frs outer
   . obtain⟨sl2,e2⟩:=fr b _ hb e1
     exact⟨_,e2⟩
   . exact⟨_,same b o1 e1 (f.sB b o e hb)⟩
end
def handX(X:Cx)(a:Addr)(ps:List (Addr×Obj)):Cx:={X with A:=X.A.mark (some (.ref a)),calm:=false,pn:=X.pn++ps}
def PinOk(X:Cx)(H:Hp)(s:Shared)(p:Addr×Obj):Prop:=s.heap.get? p.1=some p.2/\H p.1=none/\p.1≠X.env.locals/\p.1∉X.fs/\ ∀v,p.2.data≠ .cell v
section
variable{X:Cx}{pins:List (Addr×Obj)}{σ:L2.St}{H H':Hp}{s s':Shared}{a:Addr}{cls a0:Value}{dct:Option Addr}{B:Heap}{oe:Obj}{ps:List (Addr×Obj)}
theorem FlyB.inv(I:Inv X pins σ H s)(f:FlyB X.prog X.w X.stack H s H' a cls dct B a0 s'):Inv X pins σ H' s':=I.call' f.os f.un f.hok f.bare fun b z=>nomatch z
theorem hand_ok(o:X.Ok):(handX X a ps).Ok:=⟨o.mod,o.kind,o.glob,o.blt,o.above,o.inj,o.has,o.cab,fun z=>Bool.noConfusion (show false=true from z),o.frames,o.stk,o.exf,o.bs,o.bsz,o.noex,o.exfs,o.funs,o.frf⟩
theorem Inv.hand(I:Inv X pins σ H s)(h:∀p∈ps,PinOk X H s p):Inv (handX X a ps) pins σ H s:=
 ⟨hand_ok I.ok,I.os,I.bare,I.base,I.loc,I.cell,I.free,I.freeC,fun p hp=>by
  have hp:p∈(X.pn++ps)++pins:=hp
  rw[List.append_assoc,mem_append]at hp
  rcases hp with hp|hp
  . exact I.pin p (List.mem_append_left _ hp)
  . rcases mem_append.mp hp with hp|hp
    . exact h p hp
    . exact I.pin p (mem_append_right _ hp),I.hok,I.len⟩
theorem Inv.unhand(ok:X.Ok)(I:Inv (handX X a ps) pins σ H s):Inv X pins σ H s:=
 ⟨ok,I.os,I.bare,I.base,I.loc,I.cell,I.free,I.freeC,fun p hp=>I.pin p (by
  show p∈(X.pn++ps)++pins
  rcases mem_append.mp hp with hp|hp<;>simp[hp]),I.hok,I.len⟩
theorem FlyB.pin(I:Inv X pins σ H s)(hstk:X.stack=X.env::X.outer)(hfr:X.env.frame=some X.env.locals)(f:FlyB X.prog X.w X.stack H s H' a cls dct B a0 s'):∃oe,PinOk X H' s' (a,oe)/\oe.cls=cls/\oe.dict=dct/\ ∃vs,oe.data=.fields vs:=by
 obtain⟨oe,vs,e,hc,hd,_⟩:=f.fl.first
 have nf:a∉frs X.stack:=fun hm=>by
  obtain⟨_,o3,q3,nfd⟩:=f.fl.2.2.1.mem (b:=a) hm
  rw[e]at q3
  cases q3
  exact nfd vs hd
 have mem:∀b,b=X.env.locals\/b∈X.fs->b∈frs X.stack:=fun b hb=>by
  rw[hstk]
  unfold frs
  rw[List.filterMap_cons,hfr]
  rcases hb with rfl|hb
  . exact mem_cons_self
  . exact mem_cons_of_mem _ hb
 have dte:oe.dict=dct:=by
  obtain⟨o1,e1,d1⟩:=f.dt
  rw[e]at e1
  cases e1
  exact d1
 refine⟨oe,⟨e,?_,fun z=>nf (mem a (.inl z)),fun z=>nf (mem a (.inr z)),fun v z=>by rw[hd]at z;cases z⟩,hc,dte,vs,hd⟩
 cases q:H' a with
 |none=>rfl
 |some u=>exact absurd f.fl.2.1 (f.hB a (by rw[q];simp))
theorem Inv.unname{m:Str->Option Value}{h':Heap}{n:Str}{j t':Nat}{v:Option Value}(I:Inv X pins σ H s)(hN:X.N.Nodup)(hj:X.N[j]? =some n)(hk:X.env.kindOf n=some .local)(hn:s.heap.Ns X.env.locals m)(hl:∀(i:Nat) (x:Str) (v:V),X.N[i]? =some x->σ[i]? =some (some v)->Vis X.env.scope x->∃u,RelV v u/\Look X.env s.heap m x u)
 (hn':h'.Ns X.env.locals fun x=>if x=n then v else m x)(hs:Heap.SameBut X.env.locals s.heap h'):Inv X pins (σ.set j none) H {s with heap:=h',toks:=t'}:=by
 have neL:∀b o,X.s₀.heap.get? b=some o->b≠X.env.locals:=fun b o e=>Nat.ne_of_lt (Nat.lt_of_lt_of_le (lt_size e) I.ok.above)
 refine⟨I.ok,I.os,I.bare,⟨fun b o e n hb hx=>?_,fun b o e n hb hx=>?_,I.base.free,fun b o e hx=>?_,I.base.tups,I.base.frzs,I.base.tbls⟩,⟨_,hn',fun i y v' e1 e2 e3=>?_⟩,fun y c e=>?_,I.free,I.freeC,fun p hp=>?_,HOk.kept' I.hok fun b u hb q=>?_,by rw[List.length_set];exact I.len⟩
 . exact(hs.2 b (neL b o e)).trans (I.base.keep b o e n hb hx)
 . obtain⟨sl,e1⟩:=I.base.slot b o e n hb hx
   exact⟨sl,(hs.2 b (neL b o e)).trans e1⟩
 . obtain⟨o1,e1⟩:=I.base.there b o e hx
   exact⟨o1,(hs.2 b (neL b o e)).trans e1⟩
 . have hij:i≠j:=fun z=>by
    subst z
    rw[List.getElem?_set]at e2
    simp at e2
   rw[List.getElem?_set_ne (Ne.symm hij)]at e2
   obtain⟨u,r,q⟩:=hl i y v' e1 e2 e3
   refine⟨u,r,?_⟩
   have ny:y≠n:=fun z=>hij (nodup_ix hN e1 (z▸hj))
   rcases q with⟨k,e⟩|⟨k,c,e,z⟩
   . exact .inl ⟨k,by show(if y=n then v else m y)=_;rw[if_neg ny];exact e⟩
   . exact .inr ⟨k,c,e,z.sameBut hs (I.cne y c e)⟩
 . obtain⟨w',z⟩:=I.cell y c e
   exact⟨w',z.sameBut hs (I.cne y c e)⟩
 . obtain⟨e,n',ne,nf,d⟩:=I.pin p hp
   exact⟨(hs.2 p.1 ne).trans e,n',ne,nf,d⟩
 . exact(hs.2 b fun z=>hb (by rw[z];exact I.free)).trans q
def offH(H:Hp)(dx:Addr):Hp:=fun b=>if b=dx then none else H b
theorem offH_ne{H:Hp}{dx b:Addr}(h:b≠dx):offH H dx b=H b:=if_neg h
theorem offH_at{H:Hp}{dx:Addr}:offH H dx dx=none:=if_pos rfl
theorem offH_none{H:Hp}{dx b:Addr}(h:H b=none):offH H dx b=none:=by
 unfold offH
 split
 . rfl
 . exact h
theorem Inv.forget{dx:Addr}{fs:List (Str×V)}(I:Inv X pins σ H s)(hd:H dx=some (.xd fs)):Inv X pins σ (offH H dx) s:=by
 have keep:∀{b:Addr} {o:HO},H b=some o->(∀fs,o≠ .xd fs)->offH H dx b=some o:=fun{b o} e n=>by
  rw[offH_ne fun z=>by rw[z,hd]at e;exact n fs (Option.some.inj e).symm]
  exact e
 refine⟨I.ok,I.os,I.bare,⟨I.base.keep,I.base.slot,fun b o e n x=>offH_none (I.base.free b o e n x),I.base.there,fun b xs e=>keep (I.base.tups b xs e) (by intro _ z;cases z),fun b o u e=>keep (I.base.frzs b o u e) (by intro _ z;cases z),fun b ps e=>let⟨more,q⟩:=I.base.tbls b ps e;⟨more,keep q (by intro _ z;cases z)⟩⟩,I.loc,I.cell,offH_none I.free,fun x c e=>offH_none (I.freeC x c e),fun p hp=>?_,fun b o e=>?_,I.len⟩
 . obtain⟨h1,h2,h3⟩:=I.pin p hp
   exact⟨h1,offH_none h2,h3⟩
 . have e':H b=some o:=by
    unfold offH at e
    split at e
    . cases e
    . exact e
   exact(I.hok b o e').stay (fun _ _ _ q=>q) (fun c q=>keep q (by intro _ z;cases z)) fun c xs q=>keep q (by intro _ z;cases z)
theorem Inv.pinD{dx:Addr}{n:Int}(I:Inv X pins σ H s)(hd:H dx=some (.xd [("at",.int n)]))(hst:∀b∈X.fs,H b=none):∃od,PinOk X (offH H dx) s (dx,od)/\ ∃t,PySem.W.lookIn "at" od=some (some (.int n t)):=by
 obtain⟨mA,⟨o,es,ep,e,d,kk,uu,f⟩,r⟩:=(show ObjOk X.prog X.w H s.heap dx (.xd [("at",.int n)])from I.hok dx _ hd)
 refine⟨o,⟨e,offH_at,fun z=>?_,fun z=>?_,fun v z=>by rw[d]at z;cases z⟩,?_⟩
 . have:=I.free
   rw[<-z,hd]at this
   cases this
 . rw[hst dx z]at hd
   cases hd
 . have ra:=r "at"
   have ra:RelO (some (.int n)) (mA "at"):=ra
   cases q:mA "at" with
   |none=>rw[q]at ra;cases ra
   |some u=>
    rw[q]at ra
    obtain⟨t,rfl⟩:=(show∃t,u=Value.int n t from ra)
    refine⟨t,?_⟩
    have f1:=f "at"
    rw[q]at f1
    unfold PySem.W.lookIn
    rw[d]
    dsimp only
    unfold nsFind findBy at f1
    rw[<-Array.find?_toList]at f1
    cases g:es.toList.find? (fun x=>x.key.isStr "at")with
    |none=>rw[g]at f1;cases f1
    |some en=>
     rw[g]at f1
     have f2:some en.val=some (Value.int n t):=f1
     show some (some en.val)=some (some (Value.int n t))
     rw[f2]
end
theorem exc_parent{M:Model}{A:Around}{E:Value->Shared->Prop}{Q:Bool->Shared->Prop}{h:Heap}{g:Array GenState}{dr:Drawn}{t:Nat}{os:OsState}{a C C' N N':Addr}{oe:Obj}{nm q nm' q':Str}{bs bm bs' bm':List Value}{hd hd':Bool}{sn sn':List Str}{sub sub':List Value}{ab ab':Bool}{col col':Option Bool}{dd dd':Option Addr}{k0 k1 k2 k3 k5 j0 j1 j2 j3 j5:Option Value}{nid nid':String}
 (hC:h.get? C=some (excClassObj nm q C N bs bm hd sn sub ab col dd k0 k1 k2 k3 k5 nid))(he:h.get? a=some oe)(hc:oe.cls=.ref C)
 (hC':h.get? C'=some (excClassObj nm' q' C' N' bs' bm' hd' sn' sub' ab' col' dd' j0 j1 j2 j3 j5 nid'))(hb:bm'.contains (.type "BaseException")=true)(hin:(Value.ref C::bm).contains (.ref C')=true)
 (h1:Q true ⟨h,g,dr,t,os⟩):wpAny M A (excMatches (.ref a) (.ref C')) Q E ⟨h,g,dr,t,os⟩:=by
 have hB:(Value.ref C'::bm').contains (.type "BaseException")=true:=by rw[List.contains_cons,hb,Bool.or_true]
 have f:=tc_notTuple
 unfold excMatches
 repeat (first|(with_reducible refine wpAny_loadPart_at he ?_;rw[hc])|with_reducible refine wpAny_loadPart_at hC' ?_|with_reducible refine wpAny_loadPart_at hC ?_|(with_reducible refine wpAny_isSubtype_exc hC' ?_;rw[hB])|(with_reducible refine wpAny_isSubtype_exc hC ?_;rw[hin])|wp_step)
 exact h1
section
variable{X:Cx}{k:Nat}{f:Addr}{fd:FuncData}{ps:List Str}{sp:Sp}{Ex:XK}{x:Str}{p pos:Pos}{e:Expr}{es:List Expr}{t:TA}{pins:List (Addr×Obj)}{σ:L2.St}{H:Hp}{s:Shared}{Q:VK}{Eb:Value->Shared->Prop}
theorem wp_callX(hno:∀e s,¬X.xe e s)(F:FnOk X.prog X.w X.K X.mg X.base (CX1 X.prog X.w) k f fd ps sp)(hr:Room k X.A)(hg:Gl X x)(hm:X.mg x=some (.ref f))(hk:keepIn X.K (.ref f)=true)(hb:Binds X.K fd ps [])(ha:PA X (e::es) t)
 (I:Inv X pins σ H s)(h:t σ H fun vs H1=>sp (vs++[]) H1 Q Ex)(hE:∀H1 s1 e s',Inv X pins σ H1 s1->CX1 X.prog X.w X.stack H1 s1 Ex e s'->Eb e s')
 (hdb:(x==("__debug__":Str))=false:=by decide)(he:starEach (e::es) X.env=(false,eval e X.env)::starEach es X.env:=by rfl)(hpl:(backTo pos (starEach es X.env)).any (·.1)=false:=by rfl):
 wpAny (model X.prog X.w) X.A (eval (.Call (.Name x p) (e::es) [] pos) X.env) (EP X pins σ Q) Eb s:=by
 refine wpAny_Call_Name_kw (ld_glob I hg hm ?_ hdb)
 refine PySem.W.callWith_K (h₀:=X.base) I.ok.mod.kin hk (wpAny_mono (ha pos pins s σ H _ I h) (fun us s1 ⟨vs,H1,I1,r,q⟩=>⟨I1.kIn,?_⟩) fun e s z=>(hno e s z).elim) he hpl
 have hd:Vals ([]:List V) []:=.nil
 have r2:Vals (vs++[]) (us++[]):=r.append hd
 have hl:(us++[]).length=ps.length:=by rw[<-r2.length];exact F.len _ _ _ _ q
 refine wpAny_call (codeAny_mono (F.run X.A X.stack s1 H1 ⟨us,[]⟩ (us++[]) (vs++[]) Q Ex hr I1.env0 (hb s1 us I1.kIn hl) r2 q) fun r s' hq=>?_)
 cases r with
 |error e=>exact hE H1 s1 e s' I1 hq
 |ok fl=>
  cases fl with
  |ret u=>exact I1.after hq
  |next=>exact False.elim hq
  |brk=>exact False.elim hq
  |cont=>exact False.elim hq
end
section
variable{X:Cx}{pins:List (Addr×Obj)}{σ:L2.St}{H H':Hp}{s s':Shared}{a C C':Addr}{dct:Option Addr}{n cn:Str}{j:Nat}{b0:Stmt}{suite:List Stmt}{hp cp:Pos}{bm bm':List Value}{Qf:Flow->Shared->Prop}{Dx:Ends}
theorem wp_catch(hno:∀e s,¬X.xe e s)(I:Inv X pins σ H s)(fly:Fly X.prog X.w X.stack H s H' a (.ref C) dct s')(hstk:X.stack=X.env::X.outer)(hfr:X.env.frame=some X.env.locals)
 (c:ExcO X.K C bm)(c':ExcO X.K C' bm')(hb:bm'.contains (.type "BaseException")=true)(hin:(Value.ref C::bm).contains (.ref C')=true)(hg:Gl X cn)(hm:X.mg cn=some (.ref C'))(hd:(cn==("__debug__":Str))=false)
 (hN:X.N.Nodup)(hj:X.N[j]? =some n)(hk:X.env.kindOf n=some .local)
 (hs:∀(oe:Obj) (s6:Shared),Inv X pins σ H' s6->PinOk X H' s6 (a,oe)->oe.cls=.ref C->oe.dict=dct->(∃vs,oe.data=.fields vs)->∃ps H6 ts,Inv X pins σ H6 s6/\(∀p∈ps,PinOk X H6 s6 p)/\PSs (handX X a ps) (b0::suite) ts/\ts {nx:=fun σ2 H2=>∀s2,Inv X pins (σ2.set j none) H2 s2->Qf .next s2,rt:=fun _ _=>False} (σ.set j (some (.ref a))) H6):
 wpAny (model X.prog X.w) X.A (noteFrame (.ref a) X.env) (fun _ s2=>wpAny (model X.prog X.w) X.A (setFlight (.ref a) none) (fun _ s3=>wpAny (model X.prog X.w) X.A (handleBy (.ref a) X.env [.ExceptHandler (some (.Name cn cp)) (some n) (b0::suite) hp]) Qf X.xe s3) X.xe s2) X.xe s':=by
 obtain⟨B,a0,fb⟩:=fly.b
 have hfs:X.A.frames=some (X.env::X.outer):=by rw[<-hstk];exact I.ok.frames
 have fl0:=fb.fl
 rw[hstk]at fl0
 refine wpAny_mono (wpAny_kd kd_note (wpAny_looks_onW (M:=model X.prog X.w) (E:=X.xe) (Q:=fun _ t=>∃h4,t={s' with heap:=h4}/\Heap.HeldW B (X.env::X.outer) a (.ref C) a0 X.env.locals h4/\s'.heap.UpToSlots h4) hfs hfr fl0 fun h4 held up4=>⟨h4,rfl,held,up4⟩)) (fun _ t ⟨⟨h4,e4,held,up4⟩,dk4⟩=>?_) fun _ _ z=>z
 subst e4
 refine wpAny_mono (wpAny_kd kd_setFlight (wpAny_landsW (M:=model X.prog X.w) (E:=X.xe) (s:={s' with heap:=h4}) (Q:=fun _ t=>∃h5,t={s' with heap:=h5}/\Heap.FlyingW B (X.env::X.outer) a (.ref C) a0 h5/\h4.UpToSlots h5) held fun h5 fl5 up5=>⟨h5,rfl,fl5,up5⟩)) (fun _ t ⟨⟨h5,e5,fl5,up5⟩,dk5⟩=>?_) fun _ _ z=>z
 subst e5
 rw[<-hstk]at fl5
 have fb5:=fb.on fl5 (up4.trans up5) (dk4.trans dk5)
 have I5:=fb5.inv I
 obtain⟨oe,pin,hcls,_,hfld⟩:=fb5.pin I hstk hfr
 have J5:=Inv.hand (a:=a) (ps:=[(a,oe)]) I5 fun p hp=>by rw[List.mem_singleton.mp hp];exact pin
 obtain⟨nm,q,N,bs,hdct,sn,sub,ab,col,dd,k0,k1,k2,k3,k5,nid,lk⟩:=c
 obtain⟨nm',q',N',bs',hdct',sn',sub',ab',col',dd',j0,j1,j2,j3,j5,nid',lk'⟩:=c'
 refine wpAny_handleBy_cons (codeAny_handlers_test (ld_glob (X:=handX X a [(a,oe)]) J5 hg hm ?_ hd)) (by intro z;cases z)
 refine exc_parent (I5.kIn _ _ lk) pin.1 hcls (I5.kIn _ _ lk') hb hin ?_
 refine codeAny_handlers_suite_as ?_
 refine wpAny_mono (wpAny_kd kd_setFlight (lands_againW (M:=model X.prog X.w) (E:=X.xe) (s:={s' with heap:=h5}) (Q:=fun _ t=>∃h6,t={s' with heap:=h6}/\Heap.FlyingW B X.stack a (.ref C) a0 h6/\h5.UpToSlots h6) fl5 fun h6 fl6 up6=>⟨h6,rfl,fl6,up6⟩)) (fun _ t ⟨⟨h6,e6,fl6,up6⟩,dk6⟩=>?_) fun e s z=>(hno e s z).elim
 subst e6
 have fb6:=fb5.on fl6 up6 dk6
 have I6:=fb6.inv I
 obtain⟨oe6,pin6,hcls6,hdct6,hfld6⟩:=fb6.pin I hstk hfr
 obtain⟨ps,H6,ts,I6',pins6,h1,h2⟩:=hs oe6 _ I6 pin6 hcls6 hdct6 hfld6
 have J6:=Inv.hand (a:=a) (ps:=ps) I6' pins6
 refine store_ok (X:=handX X a ps) J6 hN hj (.inl hk) (v:=.ref a) rfl (fun s7 J7=>?_) (.inr hk)
 refine wpAny_mono (h1 pins s7 _ _ _ J7 h2) (fun fl s8 h8=>?_) fun e s z=>(hno e s z).elim
 cases fl with
 |next=>
  obtain⟨σ8,H8,J8,q8⟩:=h8
  have I8:=Inv.unhand I.ok J8
  obtain⟨m,hn,hl⟩:=id I8.loc
  exact wpAny_nameGoes_keeps hk hn (by rw[I.ok.kind];rfl) fun h9 v hn9 hs9=>q8 _ (Inv.unname I8 hN hj hk hn hl hn9 hs9)
 |ret v=>obtain⟨_,_,_,_,_,z⟩:=h8;exact z.elim
 |brk=>obtain⟨_,_,_,z⟩:=h8;exact z.elim
 |cont=>obtain⟨_,_,_,z⟩:=h8;exact z.elim
end
end Y
namespace Y
open PySem PySem.Spec PyProof.Rows L2
open PySem.W (Frag InstAt findIn findObj looks_findIn looks_find looks_mroIn mroIn KitX kia_one kitOne)
structure ExcG(K:Frag)(C:Addr):Prop where
 ga:findIn K (.ref C) "__getattribute__"=some (some (.builtin "BaseException.__getattribute__"))
 gt:findIn K (.ref C) "__getattr__"=some none
 be:mroIn K C (.type "BaseException")=some true
 ob:mroIn K C (.type "object")=some true
 cl:findIn K (.ref C) "__class__"=some (some (.builtin "object.__class__"))
 cs:(PySem.W.clsIn K C).isSome=true
 me:PySem.W.kitCls K (.ref C) (.ref C)=some true
 gn:PySem.W.specialIn K (.builtin "object.__class__") "__get__"=some (some (.builtin "getset_descriptor.__get__"))
 tk:PySem.W.takesIn K (.builtin "object.__class__")=some true
section
variable{prog:Program}{w:World}{A:Around}{E:Value->Shared->Prop}{s:Shared}{K:Frag}{x C:Addr}{ox:Obj}{od:Option Obj}{name:Str}
theorem exc_check{M:Model}{nameV:Value}{Q:Unit->Shared->Prop}(X:K.In s.heap)(I:InstAt s.heap x ox C od)(G:ExcG K C)(h:Q () s):wpAny M A (checkBuiltinCall "BaseException.__getattribute__" ⟨[.ref x,nameV],[]⟩) Q E s:=by
 obtain⟨hh,g,d,t,os⟩:=s
 have L0:=I.type (M:=M)
 have L1:=looks_mroIn (M:=M) X G.be
 have hk:builtinKind "BaseException.__getattribute__"=some .slot:=by decide+kernel
 have hsplit:splitId "BaseException.__getattribute__"=some ("BaseException","__getattribute__"):=by decide+kernel
 have ha:=F.args_bexc_ga (.ref x) nameV
 simp only[checkBuiltinCall,hk,hsplit]
 unfold isInstance
 repeat (first|lk|wp_step)
 exact h
theorem exc_run{tk:Tok}{fill expr:Bool}{Q:Value->Shared->Prop}(X:K.In s.heap)(I:InstAt s.heap x ox C od)(G:ExcG K C)
 (h:∀A',wpAny (model prog w) A' (Builtin.«object.__getattribute__» ⟨[.ref x,.str name tk],[]⟩) (fun fin s'=>match fin with|.done (.ret v)=>wpAny (model prog w) A (handedOut v) Q E s'|_=>False) (fun _ _=>False) s):
 wpAny (model prog w) A (getAttrBy (.ref x) (.str name tk) fill expr) Q E s:=by
 obtain⟨hh,g,d,t,os⟩:=s
 have L0:=I.type (M:=model prog w)
 have L1:=looks_findIn (M:=model prog w) X G.ga
 have L2:=looks_findIn (M:=model prog w) X G.gt
 have fb:=F.excAttr_ValueError.ga.bind (.ref x)
 unfold getAttrBy
 refine wpAny_holding (wpAny_bind (L0.at (wpAny_bind (L1.at ?_))))
 have hx2:(onTheHeap (Value.ref C)&&Value.builtin "BaseException.__getattribute__"==Value.builtin "object.__getattribute__")=false:=by
  rw[show(Value.builtin "BaseException.__getattribute__"==Value.builtin "object.__getattribute__")=false by decide+kernel,Bool.and_false]
 have hx0:(expr&&onTheHeap (Value.builtin "BaseException.__getattribute__"))=false:=by cases expr<;>rfl
 simp only[hx2,Bool.false_eq_true,if_false]
 unfold getAttrByItsOwn hookBefore callGetattribute boundAndCalled
 simp only[Bool.and_false,Bool.false_eq_true,if_false,onTheHeap,if_true]
 refine wpAny_bind (L2.at (wpAny_bind (wpAny_attempt (wpAny_holding ?_))))
 rw[fb]
 refine wpAny_bind (wpAny_pure (wpAny_call ?_))
 refine codeAny_call_builtin F.excAttr_ValueError.ga.plain F.entry_bexc_ga (exc_check X I G ?_)
 refine wpAny_mono (h _) (fun fin s' z=>?_) fun _ _ z=>z.elim
 rcases fin with(_|_|_|_)|_<;>first|exact z|exact z.elim
theorem exc_entry{tk:Tok}{g a:Value}{Q:Fin->Shared->Prop}(X:K.In s.heap)(I:InstAt s.heap x ox C od)(hf:findObj K C od name=some (.bind g a))(h:wpAny (model prog w) A (call g [a,.ref x,.ref C]) (fun v s'=>Q (.done (.ret v)) s') E s):
 wpAny (model prog w) A (Builtin.«object.__getattribute__» ⟨[.ref x,.str name tk],[]⟩) Q E s:=by
 obtain⟨hh,gg,d,t,os⟩:=s
 have L0:=I.type (M:=model prog w)
 have L1:=looks_find (M:=model prog w) X I hf
 unfold Builtin.«object.__getattribute__»
 refine wpAny_bind (wpAny_pure (wpAny_bind (wpAny_pure (wpAny_bind (L0.at (wpAny_bind (L1.at ?_)))))))
 exact wpAny_bind (wpAny_holding (wpAny_mono h (fun v s' z=>wpAny_pure z) fun _ _ z=>z))
theorem exc_class{Q:Option Value->Shared->Prop}(X:K.In s.heap)(I:InstAt s.heap x ox C od)(G:ExcG K C)(h:Q (some (.ref C)) {s with toks:=s.toks+1}):wpAny (model prog w) A (getAttr? (.ref x) "__class__") Q E s:=by
 have hf:findObj K C od "__class__"=some (.bind (.builtin "getset_descriptor.__get__") (.builtin "object.__class__")):=by
  obtain⟨cd,hc⟩:=Option.isSome_iff_exists.mp G.cs
  unfold findObj
  rw[hc,Option.bind_some,G.cl,Option.bind_some]
  simp[G.gn,G.tk]
 unfold getAttr? getAttrBy?
 refine wpAny_bind (wpAny_mkText (wpAny_bind (wpAny_attempt ?_)))
 refine exc_run (s:={s with toks:=s.toks+1}) X I G fun A'=>exc_entry (s:={s with toks:=s.toks+1}) X I hf ?_
 exact wpAny_call (PySem.W.class_get (s:={s with toks:=s.toks+1}) (ox:=ox) (od:=od) X I G.ob (PySem.W.handed_on rfl (wpAny_pure h)))
theorem kitx_exc(G:ExcG K C):KitX K (.ref x) (.ref C) (fun h=>InstAt h x ox C od) where
 ty:=fun _ _ _ I=>I.type
 it:=fun _ _ X _=>(PySem.W.kit_cls X G.me).2.1
 ne:=fun h tp dd its n sl X htp=>by
  obtain⟨cd,hc⟩:=Option.isSome_iff_exists.mp G.cs
  refine Bool.eq_false_iff.mpr fun q=>?_
  cases Value.ref.inj (beq_iff_eq.mp q)
  unfold PySem.W.clsIn at hc
  split at hc
  . cases(X _ _ ‹_›).symm.trans htp
  . cases hc
 ca:=fun X I k=>exc_class X I G k
end
variable[Tabs]
def tXW(K:PySem.W.Frag)(i:Nat)(a:Addr)(m:Bool)(ρ:List (Option D))(d:D):TE:=fun σ H Q=>σ[i]? =some (some (.ref a))/\tE K m ρ d σ H Q
def XW(X:Cx)(i:Nat)(a:Addr)(m:Bool)(ρ:List (Option D))(e:Expr)(d:D):Prop:=PE X e (tXW X.K i a m ρ d)
def tXWA(K:PySem.W.Frag)(i:Nat)(a:Addr)(ρ:List (Option D))(ds:List D):TA:=fun σ H Q=>σ[i]? =some (some (.ref a))/\tEA K ρ ds σ H Q
def XWA(X:Cx)(i:Nat)(a:Addr)(ρ:List (Option D))(es:List Expr)(ds:List D):Prop:=PA X es (tXWA X.K i a ρ ds)
section
variable{X:Cx}{i:Nat}{a C:Addr}{oe:Obj}{od:Option Obj}{m m1 m2:Bool}{ρ:List (Option D)}{e b:Expr}{es:List Expr}{d:D}{ds es':List D}{x:Str}{p p2 pn pos:Pos}{bv:Bool}
theorem xwa_nil:XWA X i a ρ [] []:=PA.mono ea_nil fun σ H Q q=>q.2
theorem xwa_cons(ha:XW X i a m1 ρ e d)(hr:XWA X i a ρ es ds)(hs:starEach (e::es) X.env=(false,eval e X.env)::starEach es X.env:=by rfl):XWA X i a ρ (e::es) (d::ds):=
 PA.mono (pa_cons ha hr hs) fun σ H Q ⟨e,Z,oz,en,k⟩=>⟨e,Z,oz,en,fun v H1 s1 i1=>⟨e,Z,oz.same s1,en.same s1,fun vs H2 s2 i2=>k _ _ (s1.trans s2) (ins_cons.mpr ⟨v,vs,rfl,(i1.plain oz).same s2,i2⟩)⟩⟩
structure ExcP(X:Cx)(a C:Addr)(oe:Obj)(od:Option Obj):Prop where
 pin:(a,oe)∈X.pn
 cls:oe.cls=.ref C
 no:PySem.W.notCls oe=true
 dct:match oe.dict,od with
  |some dx,some o=>(dx,o)∈X.pn
  |none,none=>True
  |_,_=>False
 g:ExcG X.K C
theorem ExcP.inst{pins:List (Addr×Obj)}{σ:St}{H:Hp}{s:Shared}(p:ExcP X a C oe od)(I:Inv X pins σ H s):InstAt s.heap a oe C od:=by
 refine⟨(I.pin _ (List.mem_append_left _ p.pin)).1,p.cls,p.no,?_⟩
 have h:=p.dct
 split at h
 . rename_i e
   simp only[e]
   exact(I.pin _ (List.mem_append_left _ h)).1
 . rename_i e
   simp only[e]
 . exact h.elim
theorem call_isiX(p:ExcP X a C oe od):CallR X (.builtin "isinstance") (fun xs H Q=>∃v c,xs=[.ref a,v]/\(∀u,RelV v u->u=c)/\kitOne X.K (.ref C) c=some bv/\Q (.bl bv) H):=by
 intro pins s σ H xs us Q I r ⟨v,c,e,hc,ho,q⟩
 subst e
 obtain⟨u,w',rfl,ru,rw'⟩:=vals2 r
 cases ru
 rw[hc _ rw']
 exact kia_one (kitx_exc p.g) I.kIn (p.inst I) ho (by intro z;cases z) fun tk=>⟨.bl bv,H,I.tok tk,rfl,q⟩
theorem tXW_name{y:Str}(hN:X.N[i]? =some y)(hv:Vis X.env.scope y)(hd:(y==("__debug__":Str))=false)(hcd:(y==("__classdict__":Str))=false):
 PE X (.Name y p) (fun σ H Q=>σ[i]? =some (some (.ref a))/\Q (.ref a) H):=PE.mono (pe_var hN hv hd hcd) fun σ H Q ⟨e,k⟩=>⟨_,e,k⟩
theorem xw_isi{y cn:Str}{D':Addr}(hp:ExcP X a C oe od)(ho:kitOne X.K (.ref C) (.ref D')=some bv)(hm2:X.mg cn=some (.ref D'))(hm:X.mg "isinstance"=none)(hN:X.N[i]? =some y:=by rfl)(hg:Gl X "isinstance":=by rfl)(hg2:Gl X cn:=by rfl)
 (hv:Vis X.env.scope y:=by first|exact Or.inl rfl|exact Or.inr (Or.inl rfl)|exact Or.inr (Or.inr rfl))(hd:(y==("__debug__":Str))=false:=by decide)(hcd:(y==("__classdict__":Str))=false:=by decide)(hd2:(cn==("__debug__":Str))=false:=by decide)
 (hs:starEach [.Name y p,.Name cn p2] X.env=[(false,eval (.Name y p) X.env),(false,eval (.Name cn p2) X.env)]:=by rfl)(hs2:starEach [.Name cn p2] X.env=[(false,eval (.Name cn p2) X.env)]:=by rfl):
 XW X i a m ρ (.Call (.Name "isinstance" pn) [.Name y p,.Name cn p2] [] pos) (.bl bv):=
 PE.mono (pe_callB (call_isiX hp) hg hm boot_isinstance (pa_cons (tXW_name (a:=a) hN hv hd hcd) (pa_cons (pe_glob (v:=.ref D') hg2 hm2 rfl hd2) pa_nil (by rw[hs2];rfl)) (by rw[hs,hs2])) (by decide) (by decide) (by rw[hs,hs2]) (by rw[hs2];rfl)) fun σ H Q ⟨e,Z,oz,en,k⟩=>
  ⟨e,.ref D',.ref D',rfl,fun u r=>r,ho,k _ H (Same.refl H) (in_bl.mpr rfl)⟩
theorem xw_isiT{y cn:Str}{T:String}(hp:ExcP X a C oe od)(ho:kitOne X.K (.ref C) (.type T)=some bv)(hb:bootBuiltins cn=some (.type T))(hm2:X.mg cn=none)(hm:X.mg "isinstance"=none)(hN:X.N[i]? =some y:=by rfl)(hg:Gl X "isinstance":=by rfl)(hg2:Gl X cn:=by rfl)
 (hv:Vis X.env.scope y:=by first|exact Or.inl rfl|exact Or.inr (Or.inl rfl)|exact Or.inr (Or.inr rfl))(hd:(y==("__debug__":Str))=false:=by decide)(hcd:(y==("__classdict__":Str))=false:=by decide)(hd2:(cn==("__debug__":Str))=false:=by decide)(hn:cn≠"__name__":=by decide)
 (hs:starEach [.Name y p,.Name cn p2] X.env=[(false,eval (.Name y p) X.env),(false,eval (.Name cn p2) X.env)]:=by rfl)(hs2:starEach [.Name cn p2] X.env=[(false,eval (.Name cn p2) X.env)]:=by rfl):
 XW X i a m ρ (.Call (.Name "isinstance" pn) [.Name y p,.Name cn p2] [] pos) (.bl bv):=
 PE.mono (pe_callB (call_isiX hp) hg hm boot_isinstance (pa_cons (tXW_name (a:=a) hN hv hd hcd) (pa_cons (pe_bltn (v:=.ty T) hg2 hm2 hb rfl hn hd2) pa_nil (by rw[hs2];rfl)) (by rw[hs,hs2])) (by decide) (by decide) (by rw[hs,hs2]) (by rw[hs2];rfl)) fun σ H Q ⟨e,Z,oz,en,k⟩=>
  ⟨e,.ty T,.type T,rfl,fun u r=>r,ho,k _ H (Same.refl H) (in_bl.mpr rfl)⟩
theorem xw_tup{x1}(h:XWA X i a ρ es ds)(f:flats ds=true:=by rfl)(hz:ds.length<=1000:=by exact of_decide_eq_true rfl):XW X i a m ρ (.Tuple es x1 pos) (.tup ds):=
 PE.mono (pe_tup h) fun σ H Q ⟨e,Z,oz,en,k⟩=>⟨e,Z,oz,en,fun vs H1 s1 i1=>⟨by rw[<-i1.length];exact Nat.le_trans hz (Nat.le_of_lt (small1000 (Nat.le_refl _))),fun p hp=>
  k (.ref p) _ (s1.trans (same_new hp)) (In.outflat f (in_tup.mpr ⟨p,vs,rfl,upd_same,i1.same (same_new hp)⟩))⟩⟩
end
section
variable{X:Cx}{F:Fn}{ρ:Rho}{Q:EndD}{rest:List Stmt}{e:Expr}{d:D}{pos p:Pos}{i j:Nat}{x:Str}{a:Addr}
theorem rf_at{K:PySem.W.Frag}{H:Hp}{σ hv:St}{hρ:Rho}{A:Nat->List Addr}{v:V}(hi:ρ[i]? =some (some (.rf v)))(hl:σ.length=ρ.length)(S:StIn K F H (σ++hv) (ρ++hρ) A):σ[i]? =some (some v):=by
 have il:i<ρ.length:=(List.getElem?_eq_some_iff.mp hi).1
 obtain⟨u,e1,e2⟩:=S.at' i (.rf v) (by rw[getElem?_append_left il];exact hi)
 rw[getElem?_append_left (by omega)]at e1
 rw[e1,show u=v from e2]
theorem sd_setW(j:Nat)(he:XW X i a true (view true false ρ) e d)(hr:SD X F rest (ρ.set j (some (.pl true d))) Q)(hN:X.N.Nodup)(hi:ρ[i]? =some (some (.rf (.ref a))):=by rfl)(hj:X.N[j]? =some x:=by rfl)
 (hx:Loc X.env.scope x:=by first|exact Or.inl rfl|exact Or.inr rfl)(hρ:j<ρ.length:=by exact of_decide_eq_true rfl)(hs:swapsWith e (some (.Name x p)) pos.line X.env=pure false:=by rfl)(hf:X.fn x=true\/X.env.scope.names.lookup x=some .local:=by first|exact .inl rfl|exact .inr rfl):
 SD X F (.Assign [.Name x p] e pos::rest) ρ Q:=
 sd_then (PS.mono (ps_set hN hj hx he hs hf) fun Q' σ H z0=>el33 z0 fun hv hρ' A hl S f=>⟨rf_at hi hl S,_,vz_open S true false,S.env hl true false,fun v H1 s1 i1=>f.nx _ H1 (put_pl hl S hρ s1 (In.up (zn_open S true) i1))⟩) hr
end
end Y
namespace Y
open PySem PySem.Spec PyProof.Rows L2
variable[Tabs]
abbrev OD:=Except XD D
def tEX(K:PySem.W.Frag)(m:Bool)(ρ:List (Option D))(o:OD)(σ:L2.St)(H:Hp)(Q:VK)(Ex:XK):Prop:=∃Z:Zone,Z.Open H/\EnvIn K H Z σ ρ/\match o with
 |.ok d=>∀v H',Same H H'->In K H' (out m Z H) d v->Q v H'
 |.error c=>c.E Ex H
def XF(X:Cx)(pins:List (Addr×Obj))(σ:L2.St)(Ex:XK)(e:Value)(s':Shared):Prop:=∃H1 s1,Inv X pins σ H1 s1/\CX1 X.prog X.w X.stack H1 s1 Ex e s'
def EX(X:Cx)(m:Bool)(ρ:List (Option D))(e:Expr)(o:OD):Prop:=∀(pins:List (Addr×Obj)) (s:Shared) (σ:L2.St) (H:Hp) (Q:VK) (Ex:XK),Inv X pins σ H s->tEX X.K m ρ o σ H Q Ex->wpAny (model X.prog X.w) X.A (eval e X.env) (EP X pins σ Q) (XF X pins σ Ex) s
section
variable{X:Cx}{F:Fn}{ρ:Rho}{Q:EndD}{rest suite:List Stmt}{b0:Stmt}{e:Expr}{o:OD}{pos p p1 hp cp:Pos}{k j:Nat}{x n cn:Str}{C C':Addr}{bm bm':List Value}
theorem StIn.un{K:PySem.W.Frag}{H:Hp}{σ hv:L2.St}{r hρ:Rho}{A:Nat->List Addr}(S:StIn K F H (σ++hv) (r++hρ) A)(hl:σ.length=r.length)(hj:j<r.length):StIn K F H (σ.set j none++hv) (r.set j none++hρ) A:=by
 refine⟨S.same,S.opn,S.nd,S.one,S.new,S.lst,fun i sl e=>?_⟩
 rw[<-set_app hj]at e
 rw[<-set_app (by omega)]
 by_cases q:j=i
 . subst q
   rw[List.getElem?_set]at e
   simp at e
 . rw[List.getElem?_set_ne q]at e⊢
   exact S.at' i sl e
theorem StIn.rf{K:PySem.W.Frag}{H H1:Hp}{σ hv:L2.St}{r hρ:Rho}{A:Nat->List Addr}{v:V}(S:StIn K F H (σ++hv) (r++hρ) A)(hl:σ.length=r.length)(hj:j<r.length)(s:Same H H1):StIn K F H1 (σ.set j (some v)++hv) (r.set j (some (.rf v))++hρ) (putA A j []):=by
 rw[<-set_app (by omega), <-set_app hj]
 exact S.put (by rw[List.length_append];omega) (by rw[List.length_append];omega) s List.nodup_nil (fun a ha=>by simp at ha) rfl
structure Caught(X:Cx)(C C':Addr)(cn n:Str)(j:Nat):Prop where
 c:∃bm,ExcO X.K C bm/\(Value.ref C::bm).contains (.ref C')=true
 c':∃bm',ExcO X.K C' bm'/\bm'.contains (.type "BaseException")=true
 g:ExcG X.K C
 hm:X.mg cn=some (.ref C')
def CatchS(X:Cx)(F:Fn)(st:List Stmt)(ρ:Rho)(j:Nat)(c:XD)(N:Rho->Prop):Prop:=∀a ps oe od,ExcP (handX X a ps) a c.c oe od->(∀n,c.n=some n->∃o t,od=some o/\PySem.W.lookIn "at" o=some (some (.int n t)))->
 SD (handX X a ps) F st (ρ.set j (some (.rf (.ref a)))) {nx:=fun r=>j<r.length/\N (r.set j none),rt:=fun _=>False}
def ExAt(H:Hp)(o:OD):XK:=fun cls dct H'=>Same H H'/\ ∃c,o=.error c/\cls=.ref c.c/\match c.n with
 |none=>dct=none
 |some n=>∃dx,dct=some dx/\H dx=none/\H' dx=some (.xd [("at",.int n)])
theorem exAt{H:Hp}{c:XD}(h:o=.error c):c.E (ExAt H o) H:=by
 unfold XD.E
 split
 . rename_i q
   exact fun H' s'=>⟨s',c,h,rfl,by rw[q]⟩
 . rename_i n q
   exact fun H' dx s' h1 h2=>⟨s',c,h,rfl,by rw[q];exact⟨dx,rfl,h1,h2⟩⟩
theorem same_off{H H':Hp}{dx:Addr}{fs:List (Str×V)}(s:Same H H')(h1:H dx=none)(h2:H' dx=some (.xd fs)):Same H (offH H' dx):=by
 have ne:∀{b:Addr} {o:HO},H b=some o->b≠dx:=fun{b o} e z=>by rw[z,h1]at e;cases e
 have ne2:∀{b:Addr} {o:HO},H' b=some o->(∀fs,o≠ .xd fs)->b≠dx:=fun{b o} e n z=>by rw[z,h2]at e;exact n fs (Option.some.inj e).symm
 refine⟨fun b o e n=>by rw[offH_ne (ne e)];exact s.get b o e n,fun b ps e=>by rw[offH_ne (ne e)];exact s.tbl b ps e,fun t P hP=>?_⟩
 obtain⟨ps,e,tr,k⟩:=s.tabs t P hP
 refine⟨ps,by rw[offH_ne (ne2 e (by intro _ z;cases z))];exact e,tr,fun pos cv q=>?_⟩
 obtain⟨c,rfl,hc⟩:=k pos cv q
 exact⟨c,rfl,by rw[offH_ne (ne2 hc (by intro _ z;cases z))];exact hc⟩
theorem try_catch{pins:List (Addr×Obj)}{σ hv:L2.St}{hρ:Rho}{A:Nat->List Addr}{H:Hp}{D:Ends}{e1:Value}{s1:Shared}(h1:XF X pins σ (ExAt H o) e1 s1)(hno:∀e s,¬X.xe e s)(hl:σ.length=ρ.length)(S:StIn X.K F H (σ++hv) (ρ++hρ) A)
 (f:Fits X.K F hv hρ {Q with nx:=fun r=>SD X F rest r Q} D)(herr:∀c,o=.error c->Caught X c.c C' cn n j/\CatchS X F (b0::suite) ρ j c fun r=>SD X F rest r Q)
 (hN:X.N.Nodup)(hstk:X.stack=X.env::X.outer)(hfr:X.env.frame=some X.env.locals)(hj:X.N[j]? =some n)(hjn:X.env.kindOf n=some .local)(hρj:j<ρ.length)(hg:Gl X cn)(hd:(cn==("__debug__":Str))=false):
 wpAny (model X.prog X.w) X.A (noteFrame e1 X.env) (fun _ s2=>wpAny (model X.prog X.w) X.A (setFlight e1 none) (fun _ s3=>wpAny (model X.prog X.w) X.A (handleBy e1 X.env [.ExceptHandler (some (.Name cn cp)) (some n) (b0::suite) hp]) (L2.SP X pins D) X.xe s3) X.xe s2) X.xe s1:=by
 obtain⟨H1,s2,I2,a,cls,dct,H',rfl,fly,sm,c,ho,rfl,hn⟩:=h1
 obtain⟨cg,hsuite⟩:=herr c ho
 obtain⟨bm,c1,c2⟩:=cg.c
 obtain⟨bm',c3,c4⟩:=cg.c'
 refine wp_catch hno I2 fly hstk hfr c1 c3 c4 c2 hg cg.hm hd hN hj hjn fun oe s6 I6 pin g1 g2 ⟨vs,g3⟩=>?_
 have fin:∀{ps:List (Addr×Obj)} {H6:Hp} {od:Option Obj},Same H H6->ExcP (handX X a ps) a c.c oe od->(∀n,c.n=some n->∃o t,od=some o/\PySem.W.lookIn "at" o=some (some (.int n t)))->
  ∃ts,PSs (handX X a ps) (b0::suite) ts/\ts {nx:=fun σ2 H2=>∀s2,Inv X pins (σ2.set j none) H2 s2->L2.SP X pins D .next s2,rt:=fun _ _=>False} (σ.set j (some (.ref a))) H6:=fun{ps H6 od} sm6 ex ha=>
  ⟨_,hsuite a ps oe od ex ha,hv,hρ,_,by simp[hl],S.rf hl hρj sm6,⟨f.hl,fun σ2 H2 ⟨r,A2,hl2,S2,hjr,sd⟩ s3 I3=>⟨_,H2,I3,f.nx _ H2 ⟨_,A2,by simp[hl2],S2.un hl2 hjr,sd⟩⟩,fun _ _ ⟨_,_,_,_,z⟩=>z.elim,fun _ _ ⟨_,_,_,_,z⟩=>z.elim,fun _ _ _ _ _ z=>z.elim,fun _ _ _ _ _ _ _ _ z=>z.elim,fun _ _ _ _ _ _ _ _ _ _ _ _ _ z=>z.elim,fun _ _ _ _ _ _ _ z=>z.elim⟩⟩
 have hnc:PySem.W.notCls oe=true:=by unfold PySem.W.notCls;rw[g3]
 cases hc:c.n with
 |none=>
  rw[hc]at hn
  have hn:dct=none:=hn
  subst hn
  obtain⟨ts,k1,k2⟩:=fin (ps:=[(a,oe)]) (od:=none) sm ⟨by simp[handX],g1,hnc,by rw[g2];trivial,cg.g⟩ fun n e=>by rw[hc]at e;cases e
  exact⟨[(a,oe)],H',ts,I6,fun p hp=>by rw[List.mem_singleton.mp hp];exact pin,k1,k2⟩
 |some m=>
  rw[hc]at hn
  obtain⟨dx,e2,hd1,hd2⟩:=hn
  subst e2
  obtain⟨od,pd,t,hlk⟩:=Inv.pinD I6 hd2 fun b hb=>I6.stkFree b (by
   rw[hstk]
   unfold frs
   rw[List.filterMap_cons,hfr]
   exact mem_cons_of_mem _ hb)
  obtain⟨ts,k1,k2⟩:=fin (ps:=[(a,oe),(dx,od)]) (od:=some od) (same_off sm hd1 hd2) ⟨by simp[handX],g1,hnc,by rw[g2];simp[handX],cg.g⟩ fun n e=>⟨od,t,rfl,by rw[hc]at e;cases e;exact hlk⟩
  refine⟨[(a,oe),(dx,od)],offH H' dx,ts,Inv.forget I6 hd2,fun p hp=>?_,k1,k2⟩
  rcases mem_cons.mp hp with rfl|hp
  . exact⟨pin.1,offH_none pin.2.1,pin.2.2⟩
  . rw[List.mem_singleton.mp hp];exact pd
theorem sd_tryExpr{m1:Bool}(j:Nat)(he:EX X m1 (view true false ρ) e o)(hno:∀e s,¬X.xe e s)(hok:∀d,o=.ok d->SD X F rest ρ Q)
 (herr:∀c,o=.error c->Caught X c.c C' cn n j/\CatchS X F (b0::suite) ρ j c fun r=>SD X F rest r Q)
 (hN:X.N.Nodup)(hstk:X.stack=X.env::X.outer:=by rfl)(hfr:X.env.frame=some X.env.locals:=by rfl)(hj:X.N[j]? =some n:=by rfl)(hjn:X.env.kindOf n=some .local:=by rfl)
 (hρj:j<ρ.length:=by exact of_decide_eq_true rfl)(hg:Gl X cn:=by rfl)(hd:(cn==("__debug__":Str))=false:=by decide)(hs:swapsWith e none p1.line X.env=pure false:=by rfl):
 SD X F (.Try [.Expr e p1] [.ExceptHandler (some (.Name cn cp)) (some n) (b0::suite) hp] [] [] pos::rest) ρ Q:=by
 refine sd_seq (N:=fun r=>SD X F rest r Q) ?_ fun _ h=>h
 intro pins s σ H D I ⟨hv,hρ',A,hl,S,f⟩
 refine wpAny_Try_except (wpAny_mono (Q:=fun fl s1=>fl=.next/\L2.SP X pins D .next s1) (E:=XF X pins σ (ExAt H o)) (wpAny_execs_cons (thn (Q:=fun fl s1=>fl=.next/\L2.SP X pins D .next s1) (wpAny_Expr_any (wpAny_mono (he pins s σ H (fun v H'=>D.nx σ H') (ExAt H o) I ?_)
  (fun v s1 ⟨y,H1,I1,r1,q1⟩=>⟨rfl,σ,H1,I1,q1⟩) fun _ _ z=>z) I.quiet hs) fun fl s1 ⟨e1,q⟩=>?_)) (fun fl s1 ⟨e1,q⟩=>?_) fun e1 s1 h1=>try_catch h1 hno hl S f herr hN hstk hfr hj hjn hρj hg hd)
 . refine⟨_,vz_open S true false,S.env hl true false,?_⟩
   cases ho:o with
   |ok d=>exact fun v H' s1 i1=>f.nx _ H' ⟨ρ,A,hl,S.grow s1,hok d ho⟩
   |error c=>exact exAt (o:=.error c) rfl
 . subst e1
   exact wpAny_execs_nil ⟨rfl,q⟩
 . subst e1
   exact wpAny_execs_nil q
end
end Y
namespace Y
open PySem PySem.Spec PyProof.Rows L2
open PySem.W (Frag findIn mroIn kitOne)
abbrev valB:List Value:=[.type "ValueError",.type "Exception",.type "BaseException",.type "object"]
def excGB(K:Frag)(C:Addr):Bool:=
 findIn K (.ref C) "__getattribute__"==some (some (.builtin "BaseException.__getattribute__"))&&findIn K (.ref C) "__getattr__"==some none&&mroIn K C (.type "BaseException")==some true&&mroIn K C (.type "object")==some true&&
 findIn K (.ref C) "__class__"==some (some (.builtin "object.__class__"))&&(PySem.W.clsIn K C).isSome&&PySem.W.kitCls K (.ref C) (.ref C)==some true&&
 PySem.W.specialIn K (.builtin "object.__class__") "__get__"==some (some (.builtin "getset_descriptor.__get__"))&&PySem.W.takesIn K (.builtin "object.__class__")==some true
theorem ExcG.of{K:Frag}{C:Addr}(h:excGB K C=true):ExcG K C:=by
 unfold excGB at h
 simp only[Bool.and_eq_true,beq_iff_eq]at h
 obtain⟨⟨⟨⟨⟨⟨⟨⟨h1,h2⟩,h3⟩,h4⟩,h5⟩,h6⟩,h7⟩,h8⟩,h9⟩:=h
 exact⟨h1,h2,h3,h4,h5,h6,h7,h8,h9⟩
def kitTab(b q n t x d:Addr):List (Addr×Addr×Bool):=[(q,b,true),(q,q,true),(q,n,false),(q,t,false),(q,x,false),(q,d,false),(n,b,true),(n,q,false),(n,n,true),(n,t,false),(n,x,false),(n,d,false),
 (t,b,true),(t,q,false),(t,n,false),(t,t,true),(t,x,false),(t,d,false),(x,b,true),(x,q,false),(x,n,false),(x,t,false),(x,x,true),(x,d,false),(d,b,true),(d,q,false),(d,n,false),(d,t,false),(d,x,false),(d,d,true)]
structure Errs(K:Frag)(mg:Str->Option Value)(b q n t x d:Addr):Prop where
 gb:mg "BesideError"=some (.ref b)
 gq:mg "NoQuestion"=some (.ref q)
 gn:mg "NoWay"=some (.ref n)
 gt:mg "Twice"=some (.ref t)
 gx:mg "NoText"=some (.ref x)
 gd:mg "NoDeed"=some (.ref d)
 ob:ExcO K b valB
 oq:ExcO K q (.ref b::valB)
 kn:ExcK K n (.ref b::valB) valB "ValueError.__new__"
 kt:ExcK K t (.ref b::valB) valB "ValueError.__new__"
 kx:ExcK K x (.ref b::valB) valB "ValueError.__new__"
 kd:ExcK K d (.ref b::valB) valB "ValueError.__new__"
 g:∀c∈[q,n,t,x,d],ExcG K c
 is:∀p∈kitTab b q n t x d,kitOne K (.ref p.1) (.ref p.2.1)=some p.2.2
 isV:∀c∈[q,n,t,x,d],kitOne K (.ref c) (.type "ValueError")=some true
theorem ExcK.o{K:Frag}{C:Addr}{bm bmB:List Value}{nid:String}(h:ExcK K C bm bmB nid):ExcO K C bm:=by
 obtain⟨nm,q,N,bs,hdct,sn,sub,ab,col,dd,k0,k1,k2,k3,k5,e,_⟩:=h.obj
 exact⟨nm,q,N,bs,hdct,sn,sub,ab,col,dd,k0,k1,k2,k3,k5,nid,e⟩
theorem exc_mk{K:Frag}{C N:Addr}{bm bmB bs sub:List Value}{nid:String}{nm q:Str}{hdct ab:Bool}{sn:List Str}{col:Option Bool}{dd:Option Addr}{k0 k1 k2 k3 k5:Option Value}
 (h:K.lookup C=some (excClassObj nm q C N bs bm hdct sn sub ab col dd k0 k1 k2 k3 k5 nid))(h1:PySem.W.nsOkIn K N=true)(h2:PySem.W.nsIn K N "__init__"=some none)(h3:PySem.W.tailIn K bmB bm=true):ExcK K C bm bmB nid:=
 ⟨⟨nm,q,N,bs,hdct,sn,sub,ab,col,dd,k0,k1,k2,k3,k5,h,h1,h2⟩,h3⟩
theorem exo_mk{K:Frag}{C N:Addr}{bm bs sub:List Value}{nid:String}{nm q:Str}{hdct ab:Bool}{sn:List Str}{col:Option Bool}{dd:Option Addr}{k0 k1 k2 k3 k5:Option Value}
 (h:K.lookup C=some (excClassObj nm q C N bs bm hdct sn sub ab col dd k0 k1 k2 k3 k5 nid)):ExcO K C bm:=
 ⟨nm,q,N,bs,hdct,sn,sub,ab,col,dd,k0,k1,k2,k3,k5,nid,h⟩
theorem errs_mk{K:Frag}{mg:Str->Option Value}{b q n t x d:Addr}(gb:mg "BesideError"=some (.ref b))(gq:mg "NoQuestion"=some (.ref q))(gn:mg "NoWay"=some (.ref n))(gt:mg "Twice"=some (.ref t))(gx:mg "NoText"=some (.ref x))(gd:mg "NoDeed"=some (.ref d))
 (ob:ExcO K b valB)(oq:ExcO K q (.ref b::valB))(kn:ExcK K n (.ref b::valB) valB "ValueError.__new__")(kt:ExcK K t (.ref b::valB) valB "ValueError.__new__")(kx:ExcK K x (.ref b::valB) valB "ValueError.__new__")(kd:ExcK K d (.ref b::valB) valB "ValueError.__new__")
 (h1:[q,n,t,x,d].all (excGB K)=true)(h2:((kitTab b q n t x d).all fun p=>kitOne K (.ref p.1) (.ref p.2.1)==some p.2.2)=true)(h3:([q,n,t,x,d].all fun c=>kitOne K (.ref c) (.type "ValueError")==some true)=true):Errs K mg b q n t x d:=
 ⟨gb,gq,gn,gt,gx,gd,ob,oq,kn,kt,kx,kd,fun c hc=>.of (List.all_eq_true.mp h1 c hc),fun p hp=>beq_iff_eq.mp (List.all_eq_true.mp h2 p hp),fun c hc=>beq_iff_eq.mp (List.all_eq_true.mp h3 c hc)⟩
end Y
namespace Y
open PySem
namespace Tb
def blk(m:Nat)(h:Int):Nat->Nat×Nat
 |0=>(SetTable.bits h% (m+1),SetTable.bits h)
 |k+1=>SetTable.leap m (blk m h k).1 (blk m h k).2
def adv(m:Nat)(p:SetTable.Probe):SetTable.Probe:=if p.more>0 then{p with j:=p.j+1,more:=p.more-1}else
 {p with j:=(SetTable.leap m p.i p.perturb).1,more:=SetTable.runEnd m (SetTable.leap m p.i p.perturb).1-(SetTable.leap m p.i p.perturb).1,i:=(SetTable.leap m p.i p.perturb).1,perturb:=(SetTable.leap m p.i p.perturb).2}
def top(m i q:Nat):SetTable.Probe:={j:=i,more:=SetTable.runEnd m i-i,i:=i,perturb:=q,dummy:=none}
def sq(m:Nat)(h:Int):Nat->SetTable.Probe
 |0=>top m (SetTable.bits h% (m+1)) (SetTable.bits h)
 |n+1=>adv m (sq m h n)
def js(m:Nat)(h:Int)(n:Nat):Nat:=(sq m h n).j
def bs(m:Nat)(h:Int):Nat->Nat
 |0=>0
 |k+1=>bs m h k+(SetTable.runEnd m (blk m h k).1-(blk m h k).1)+1
def Mk(m:Nat):Prop:=m=7\/m=31\/m=127
end Tb
end Y
namespace Y
open PySem
namespace Tb
def Up(xs:List Nat):Prop:=xs.Pairwise (· < ·)
theorem gap{xs:List Nat}{m:Nat}(hl:xs.length<=m):∃j,j<=m/\j∉xs:=by
 cases q:(List.range (m+1)).find? fun j=>decide (j∉xs)with
 |some j=>
  have a:=List.mem_of_find?_eq_some q
  have b:=List.find?_some q
  exact⟨j,by have:=List.mem_range.mp a;omega,by simpa using b⟩
 |none=>
  rw[List.find?_eq_none]at q
  have sub:∀j∈List.range (m+1),j∈xs:=fun j hj=>by simpa using q j hj
  have:=(List.nodup_range (n:=m+1)).length_le_of_subset sub
  simp at this
  omega
end Tb
end Y
namespace Y
open PySem
namespace Tb
end Tb
end Y
namespace Y
open PySem
namespace Tb
end Tb
end Y
namespace Y
open PySem PyProof.Rows Builtin Builtin.Str StrLaws
abbrev cl(z:Str):List Nat:=z.cps.toList
def mkS(l:List Nat):Str:=⟨l.toArray⟩
theorem mkS_cl(z:Str):mkS (cl z)=z:=by simp[cl,mkS]
theorem cl_inj{a b:Str}(h:cl a=cl b):a=b:=by rw[<-mkS_cl a, <-mkS_cl b,h]
theorem cl_len(z:Str):(cl z).length=z.length:=by simp[cl,Str.length]
theorem cl_append(a b:Str):cl (a++b)=cl a++cl b:=by simp[cl,Str.cps_append]
theorem cl_eq_nil{z:Str}:cl z=[]↔z="":=⟨fun h=>cl_inj (by rw[h];rfl),fun h=>by subst h;rfl⟩
def cutAt(c:Nat):List Nat->List (List Nat)
 |[]=>[[]]
 |k::r=>if k=c then[]::cutAt c r else(k::(cutAt c r).headD [])::(cutAt c r).tail
theorem cutAt_ne(c:Nat):∀l,cutAt c l≠[]
 |[]=>by simp[cutAt]
 |k::r=>by unfold cutAt;split<;>simp
theorem cutAt_free{c:Nat}:∀{l:List Nat},c∉l->cutAt c l=[l]
 |[],_=>rfl
 |k::r,h=>by
  have h1:¬k=c:=fun e=>h (by simp[e])
  have h2:c∉r:=fun e=>h (by simp[e])
  simp[cutAt,h1,cutAt_free h2]
theorem cutAt_app{c:Nat}:∀{a:List Nat} (b:List Nat),c∉a->cutAt c (a++c::b)=a::cutAt c b
 |[],b,_=>by simp[cutAt]
 |k::r,b,h=>by
  have h1:¬k=c:=fun e=>h (by simp[e])
  have h2:c∉r:=fun e=>h (by simp[e])
  simp[cutAt,h1,cutAt_app b h2]
theorem cutAt_join{c:Nat}:∀{ps:List Str},ps≠[]->(∀p∈ps,c∉cl p)->cutAt c (cl (Str.join ⟨#[c]⟩ ps))=ps.map cl
 |[],h,_=>absurd rfl h
 |[p],_,h=>by
  show cutAt c (cl p)=_
  rw[cutAt_free (h p (by simp))];rfl
 |p::q::r,_,h=>by
  show cutAt c (cl (p++⟨#[c]⟩++Str.join ⟨#[c]⟩ (q::r)))=_
  rw[cl_append,cl_append]
  have e:cl p++cl (⟨#[c]⟩:Str)++cl (Str.join ⟨#[c]⟩ (q::r))=cl p++c::cl (Str.join ⟨#[c]⟩ (q::r)):=by simp[cl]
  rw[e,cutAt_app _ (h p (by simp)),cutAt_join (by simp) fun x hx=>h x (by simp[hx])]
  rfl
theorem split_ne(x y:Str):Txt.split x y≠[]:=by
 unfold Txt.split
 split
 . simp
 . split
   . simp
   . rw[partsBetween_eq]
     obtain⟨p,r,e⟩:=partsFrom_ne x y.length 0 (occurrences x y 0 x.length (x.length+1))
     rw[e];simp
theorem split_cut(x:Str)(c:Nat):(Txt.split x ⟨#[c]⟩).map cl=cutAt c (cl x):=by
 rw[<-cutAt_join (split_ne x _) (split_free x c),join_split]
def wgo(sp:Nat->Bool):List Nat->List Nat->List (List Nat)
 |[],cur=>if cur=[]then[]else[cur]
 |k::r,cur=>if sp k then(if cur=[]then wgo sp r []else cur::wgo sp r [])else wgo sp r (cur++[k])
def wordsC(sp:Nat->Bool)(l:List Nat):List (List Nat):=wgo sp l []
def curOf(x:Str)(cur:Nat):Option Nat->List Nat
 |none=>[]
 |some b=>((cl x).drop b).take (cur-b)
theorem sub_cl(x:Str)(i j:Nat):cl (strSub x i j)=((cl x).drop i).take (j-i):=strSub_toList x i j
theorem sw_words(x:Str)(limit:Nat)(hl:x.length<limit):∀(m cur:Nat) (words:Array (Nat×Nat)) (start:Option Nat),cur+m=x.length->SwOk x.length cur (none,words,start)->(∀b,start=some b->b<cur)->
 (swEnd x (forIn (List.range' cur m) ((none,words,start):SwSt) (swBody x limit)).run).map (fun p=>cl (strSub x p.1 p.2))=words.toList.map (fun p=>cl (strSub x p.1 p.2))++wgo Unicode.isSpace ((cl x).drop cur) (curOf x cur start)
 |0,cur,words,start,hm,h,hb=>by
  have hc:cur=x.length:=by omega
  subst hc
  have hd:(cl x).drop x.length=[]:=by rw[<-cl_len];simp
  rw[hd]
  simp only[List.range'_zero,List.forIn_nil]
  show(swEnd x (none,words,start)).map _=_
  unfold swEnd
  cases start with
  |none=>simp[wgo,curOf]
  |some b=>
   have hlt:=hb b rfl
   have hne:((cl x).drop b).take (x.length-b)≠[]:=by
    intro e
    have:=congrArg List.length e
    simp[cl]at this
    have h2:x.cps.size=x.length:=rfl
    omega
   simp[wgo,curOf,hne,sub_cl]
 |m+1,cur,words,start,hm,h,hb=>by
  rw[List.range'_succ,List.forIn_cons]
  obtain⟨h1,h2,h3⟩:=id h
  have hcur:cur<x.length:=by omega
  have hsz:¬((words.size==limit)=true):=fun full=>by
   have few:=len_le_wsum words.toList
   rw[Array.length_toList,eq_of_beq full]at few
   cases start<;>dsimp only at h3<;>omega
  have hx:cur<(cl x).length:=by rw[cl_len];exact hcur
  have hget:x.cps.getD cur 0=(cl x)[cur]:=by
   have:cur<x.cps.size:=hcur
   simp[cl,Array.getD,this]
  have hdrop:(cl x).drop cur=(cl x)[cur]::(cl x).drop (cur+1):=List.drop_eq_getElem_cons hx
  have hopt:(cl x)[cur]? =some (cl x)[cur]:=List.getElem?_eq_getElem hx
  revert hget hdrop hopt
  generalize(cl x)[cur]=k
  intro hget hdrop hopt
  unfold swBody
  simp only[hsz,if_false]
  rw[hget,hdrop]
  cases start with
  |none=>
   cases hsp:Unicode.isSpace k
   . have key:=sw_words x limit hl m (cur+1) words (some cur) (by omega) ⟨rfl,h2,Nat.le_succ cur,h3⟩ (fun b e=>by cases e;omega)
     refine key.trans ?_
     congr 1
     have e1:curOf x (cur+1) (some cur)=[k]:=by
      simp only[curOf]
      rw[hdrop]
      simp[show cur+1-cur=1 by omega]
     rw[e1]
     simp[wgo,hsp,curOf]
   . have key:=sw_words x limit hl m (cur+1) words none (by omega) ⟨rfl,h2,Nat.le_succ_of_le h3⟩ (fun b e=>by cases e)
     refine key.trans ?_
     congr 1
     simp[wgo,hsp,curOf]
  |some b=>
   have hlt:=hb b rfl
   have hne:((cl x).drop b).take (cur-b)≠[]:=by
    intro e
    have:=congrArg List.length e
    rw[length_take,length_drop,cl_len]at this
    simp only[List.length_nil]at this
    omega
   cases hsp:Unicode.isSpace k
   . have key:=sw_words x limit hl m (cur+1) words (some b) (by omega) ⟨rfl,h2,Nat.le_succ_of_le h3.1,h3.2⟩ (fun b' e=>by cases e;omega)
     refine key.trans ?_
     congr 1
     have e1:curOf x (cur+1) (some b)=curOf x cur (some b)++[k]:=by
      simp only[curOf]
      rw[show cur+1-b=(cur-b)+1 by omega,take_add_one]
      congr 1
      rw[List.getElem?_drop,show b+(cur-b)=cur by omega,hopt]
      rfl
     rw[e1]
     simp[wgo,hsp]
   . have ok:SwOk x.length (cur+1) (none,words.push (b,cur),none):=by
      have step:=sw_run x limit hl 1 cur (none,words,some b) (by omega) h
      simpa[swBody,hsz,hget,hsp]using step
     have key:=sw_words x limit hl m (cur+1) (words.push (b,cur)) none (by omega) ok (fun b e=>by cases e)
     refine key.trans ?_
     rw[Array.toList_push,map_append,List.append_assoc]
     congr 1
     simp only[curOf]
     simp[wgo,hsp,hne,sub_cl]
theorem words_eq(x:Str):(Txt.words x).map cl=wordsC Unicode.isSpace (cl x):=by
 have key:=sw_words x (x.length+1) (Nat.lt_succ_self _) x.length 0 #[] none (by omega) ⟨rfl,by simp,by simp[wsum]⟩ (fun b e=>by cases e)
 rw[<-sw_eq]at key
 simp only[List.drop_zero,curOf]at key
 unfold Txt.words
 split
 . rename_i he
   have he':spaceWords x (x.length+1)=[(0,x.length)]:=by simpa using he
   rw[he']at key
   simp only[map_cons,map_nil]at key
   rw[sub_whole]at key
   simpa[wordsC]using key
 . show(((spaceWords x (x.length+1)).map fun p=>strSub x p.1 p.2)).map cl=_
   rw[map_map]
   simpa[wordsC,Function.comp_def]using key
end Y
namespace Y
open PySem PyProof.Rows Builtin Builtin.Str StrLaws
def W36:Str:="abcdefghijklmnopqrstuvwxyz0123456789"
def sgB(c:Nat):Bool:=decide (c∈cl W36)
def pSign(c:Nat):Nat:=if sgB c then c else 32
theorem W36_low:∀c∈cl W36,lo1 c=c/\Unicode.isSpace c=false/\c<128/\c≠10/\c≠32:=by decide+kernel
theorem sg_mem{c:Nat}(h:sgB c=true):c∈cl W36:=by simpa[sgB]using h
theorem sg_space{c:Nat}(h:sgB c=true):Unicode.isSpace c=false:=(W36_low c (sg_mem h)).2.1
theorem sg_low{c:Nat}(h:sgB c=true):lo1 c=c:=(W36_low c (sg_mem h)).1
theorem sp32:Unicode.isSpace 32=true:=by decide+kernel
theorem p_space(c:Nat):Unicode.isSpace (pSign c)= !sgB c:=by
 unfold pSign
 cases h:sgB c
 . simp[sp32]
 . simp[sg_space h]
def wordsIn(l:List Nat):List (List Nat):=wordsC Unicode.isSpace ((l.map lo1).map pSign)
def wopt(cur:List Nat):List (List Nat):=if cur=[]then[]else[cur]
def ropt(row:List (List Nat)):List (List (List Nat)):=if row=[]then[]else[row]
def rowsL(l:List Nat):List (List (List Nat)):=((cutAt 10 l).map wordsIn).filter fun r=> !decide (r=[])
def scan:List Nat->List (List Nat)->List Nat->List (List (List Nat))
 |[],row,cur=>ropt (row++wopt cur)
 |c::cs,row,cur=>if c=10 then ropt (row++wopt cur)++scan cs [] []else if sgB (lo1 c)then scan cs row (cur++[lo1 c])else scan cs (row++wopt cur) []
theorem wgo_cons(sp:Nat->Bool)(k:Nat)(r cur:List Nat):wgo sp (k::r) cur=if sp k then wopt cur++wgo sp r []else wgo sp r (cur++[k]):=by
 unfold wopt
 rw[wgo]
 split
 . split<;>simp
 . rfl
theorem wgo_nil(sp:Nat->Bool)(cur:List Nat):wgo sp [] cur=wopt cur:=rfl
theorem filt_ropt(row:List (List Nat))(t:List (List (List Nat))):((row::t).filter fun r=> !decide (r=[]))=ropt row++t.filter fun r=> !decide (r=[]):=by
 unfold ropt
 by_cases h:row=[]
 . simp[h]
 . simp[h]
theorem scan_cut:∀(l:List Nat) (row:List (List Nat)) (cur:List Nat),
 scan l row cur=ropt (row++wgo Unicode.isSpace ((((cutAt 10 l).headD []).map lo1).map pSign) cur)++(((cutAt 10 l).tail).map wordsIn).filter fun r=> !decide (r=[])
 |[],row,cur=>by simp[scan,cutAt,wgo_nil]
 |c::cs,row,cur=>by
  have ih:=scan_cut cs
  by_cases hc:c=10
  . subst hc
    have e:cutAt 10 (10::cs)=[]::cutAt 10 cs:=by simp[cutAt]
    rw[e]
    simp only[scan,if_true,List.headD_cons,List.tail_cons,map_nil,wgo_nil]
    congr 1
    rw[ih [] []]
    obtain⟨h,t,e2⟩:∃h t,cutAt 10 cs=h::t:=by
     cases q:cutAt 10 cs with
     |nil=>exact absurd q (cutAt_ne 10 cs)
     |cons h t=>exact⟨h,t,rfl⟩
    rw[e2]
    simp only[List.headD_cons,List.tail_cons,map_cons,List.nil_append]
    rw[filt_ropt]
    rfl
  . have e:cutAt 10 (c::cs)=(c::(cutAt 10 cs).headD [])::(cutAt 10 cs).tail:=by simp[cutAt,hc]
    rw[e]
    simp only[scan,hc,if_false,List.headD_cons,List.tail_cons,map_cons]
    rw[wgo_cons,p_space]
    cases hs:sgB (lo1 c)
    . simp only[Bool.not_false,if_true,Bool.false_eq_true,if_false]
      rw[ih,List.append_assoc]
    . simp only[Bool.not_true,if_true]
      rw[ih]
      have:pSign (lo1 c)=lo1 c:=by simp[pSign,hs]
      rw[this]
      simp
theorem rows_scan(l:List Nat):rowsL l=scan l [] []:=by
 rw[scan_cut]
 unfold rowsL
 obtain⟨h,t,e2⟩:∃h t,cutAt 10 l=h::t:=by
  cases q:cutAt 10 l with
  |nil=>exact absurd q (cutAt_ne 10 l)
  |cons h t=>exact⟨h,t,rfl⟩
 rw[e2]
 simp only[map_cons,List.headD_cons,List.tail_cons,List.nil_append]
 rw[filt_ropt]
 rfl
def wordsInS(part:Str):List Str:=Txt.words (Txt.join "" ((cl (Txt.lower part)).map fun c=>if sgB c then(⟨#[c]⟩:Str)else" "))
def rowsOfS(z:Str):List (List Str):=((Txt.split z "\n").map wordsInS).filter fun r=> !decide (r=[])
theorem join0:∀(l:List Nat),cl (Str.join "" (l.map fun c=>(⟨#[c]⟩:Str)))=l
 |[]=>rfl
 |[c]=>rfl
 |c::d::r=>by
  show cl ((⟨#[c]⟩:Str)++""++Str.join "" ((d::r).map fun c=>(⟨#[c]⟩:Str)))=_
  rw[cl_append,cl_append,join0 (d::r)]
  rfl
theorem joinP(l:List Nat):cl (Txt.join "" (l.map fun c=>if sgB c then(⟨#[c]⟩:Str)else" "))=l.map pSign:=by
 have e:(l.map fun c=>if sgB c then(⟨#[c]⟩:Str)else" ")=(l.map pSign).map fun c=>(⟨#[c]⟩:Str):=by
  rw[map_map]
  apply map_congr_left
  intro c _
  simp only[Function.comp,pSign]
  split<;>rfl
 show cl (glued "" _)=_
 rw[glued_eq_join,e,join0]
theorem wordsInS_eq{z:Str}(h:∀c∈cl z,c<128):(wordsInS z).map cl=wordsIn (cl z):=by
 unfold wordsInS
 rw[words_eq,joinP,lower_ascii h]
 simp[wordsIn,cl]
theorem cutAt_sub{c:Nat}:∀{l p:List Nat} {k:Nat},p∈cutAt c l->k∈p->k∈l
 |[],p,k,hp,hk=>by
  simp[cutAt]at hp
  subst hp
  exact hk
 |a::r,p,k,hp,hk=>by
  unfold cutAt at hp
  split at hp
  . rcases mem_cons.mp hp with rfl|hp
    . simp at hk
    . exact mem_cons_of_mem _ (cutAt_sub hp hk)
  . rcases mem_cons.mp hp with rfl|hp
    . rcases mem_cons.mp hk with rfl|hk
      . exact mem_cons_self
      . refine mem_cons_of_mem _ (cutAt_sub (c:=c) (p:=(cutAt c r).headD []) ?_ hk)
        cases q:cutAt c r with
        |nil=>exact absurd q (cutAt_ne c r)
        |cons h t=>simp
    . exact mem_cons_of_mem _ (cutAt_sub (List.mem_of_mem_tail hp) hk)
theorem map_map_cl(rows:List (List Str))(ls:List (List (List Nat)))(h:rows.map (·.map cl)=ls):rows=ls.map (·.map mkS):=by
 subst h
 rw[map_map]
 conv=>lhs;rw[<-List.map_id rows]
 apply map_congr_left
 intro r _
 simp only[Function.comp,map_map,_root_.id]
 conv=>lhs;rw[<-List.map_id r]
 apply map_congr_left
 intro x _
 simp only[Function.comp,mkS_cl,_root_.id]
theorem rowsOfS_eq{z:Str}(h:∀c∈cl z,c<128):(rowsOfS z).map (·.map cl)=scan (cl z) [] []:=by
 rw[<-rows_scan]
 unfold rowsOfS rowsL
 rw[<-split_cut]
 have hp:∀p∈Txt.split z "\n",∀c∈cl p,c<128:=fun p hp c hc=>by
  have:cl p∈cutAt 10 (cl z):=by
   rw[<-split_cut]
   exact List.mem_map_of_mem hp
  exact h c (cutAt_sub this hc)
 have e:((Txt.split z "\n").map wordsInS).map (·.map cl)=((Txt.split z ⟨#[10]⟩).map cl).map wordsIn:=by
  rw[map_map,map_map]
  apply map_congr_left
  intro p hq
  exact wordsInS_eq (hp p hq)
 rw[<-e]
 generalize(Txt.split z "\n").map wordsInS=rs
 rw[filter_map]
 congr 1
 apply List.filter_congr
 intro r _
 simp
end Y
namespace Y
open PySem PyProof.Rows Builtin Builtin.Str StrLaws
def joinL(sep:List Nat):List (List Nat)->List Nat
 |[]=>[]
 |[x]=>x
 |x::y::r=>x++sep++joinL sep (y::r)
theorem joinL_cons2(sep x y:List Nat)(r:List (List Nat)):joinL sep (x::y::r)=x++sep++joinL sep (y::r):=rfl
theorem cl_join(sep:Str):∀(ps:List Str),cl (Str.join sep ps)=joinL (cl sep) (ps.map cl)
 |[]=>rfl
 |[p]=>rfl
 |p::q::r=>by
  show cl (p++sep++Str.join sep (q::r))=_
  rw[cl_append,cl_append,cl_join sep (q::r)]
  rfl
theorem cl_tjoin(sep:Str)(ps:List Str):cl (Txt.join sep ps)=joinL (cl sep) (ps.map cl):=by
 show cl (glued sep ps)=_
 rw[glued_eq_join,cl_join]
structure IsW(w:List Nat):Prop where
 ne:w≠[]
 sg:∀c∈w,sgB (lo1 c)=true
 nl:∀c∈w,c≠10
def Part(p:List Nat):Prop:=p≠[]/\ ∀c∈p,sgB (lo1 c)=false/\c≠10
def Quiet(p:List Nat):Prop:=∀c∈p,sgB (lo1 c)=false
theorem scan_word:∀(w rest:List Nat) (row:List (List Nat)) (cur:List Nat),(∀c∈w,sgB (lo1 c)=true)->(∀c∈w,c≠10)->scan (w++rest) row cur=scan rest row (cur++w.map lo1)
 |[],rest,row,cur,_,_=>by simp
 |c::w,rest,row,cur,h1,h2=>by
  have e1:=h1 c (by simp)
  have e2:=h2 c (by simp)
  rw[cons_append,scan]
  rw[if_neg e2,if_pos e1,scan_word w rest row _ (fun k hk=>h1 k (by simp[hk])) (fun k hk=>h2 k (by simp[hk]))]
  simp
theorem scan_still:∀(p rest:List Nat) (row:List (List Nat)),(∀c∈p,sgB (lo1 c)=false/\c≠10)->scan (p++rest) row []=scan rest row []
 |[],rest,row,_=>rfl
 |c::p,rest,row,h=>by
  obtain⟨e1,e2⟩:=h c (by simp)
  rw[cons_append,scan,if_neg e2,if_neg (by rw[e1];simp)]
  have:wopt []=[]:=rfl
  rw[this,append_nil]
  exact scan_still p rest row fun k hk=>h k (by simp[hk])
theorem scan_part{p:List Nat}(hp:Part p)(rest:List Nat)(row:List (List Nat))(cur:List Nat):scan (p++rest) row cur=scan rest (row++wopt cur) []:=by
 obtain⟨h0,h⟩:=hp
 cases p with
 |nil=>exact absurd rfl h0
 |cons c p=>
  obtain⟨e1,e2⟩:=h c (by simp)
  rw[cons_append,scan,if_neg e2,if_neg (by rw[e1];simp)]
  exact scan_still p rest _ fun k hk=>h k (by simp[hk])
theorem scan_quiet0:∀(p rest:List Nat),Quiet p->scan (p++rest) [] []=scan rest [] []
 |[],rest,_=>rfl
 |c::p,rest,h=>by
  have e1:=h c (by simp)
  have ih:=scan_quiet0 p rest fun k hk=>h k (by simp[hk])
  rw[cons_append,scan]
  by_cases hc:c=10
  . rw[if_pos hc,ih];rfl
  . rw[if_neg hc,if_neg (by rw[e1];simp)];exact ih
theorem scan_rowsep:∀(p rest:List Nat) (row:List (List Nat)) (cur:List Nat),Quiet p->10∈p->scan (p++rest) row cur=ropt (row++wopt cur)++scan rest [] []
 |[],rest,row,cur,_,h=>by simp at h
 |c::p,rest,row,cur,h,h10=>by
  have e1:=h c (by simp)
  rw[cons_append,scan]
  by_cases hc:c=10
  . rw[if_pos hc,scan_quiet0 p rest fun k hk=>h k (by simp[hk])]
  . rw[if_neg hc,if_neg (by rw[e1];simp)]
    have h2:10∈p:=by
     rcases mem_cons.mp h10 with z|z
     . exact absurd z.symm hc
     . exact z
    rw[scan_rowsep p rest _ _ (fun k hk=>h k (by simp[hk])) h2]
    simp[wopt]
theorem scan_end:∀(p:List Nat) (row:List (List Nat)) (cur:List Nat),Quiet p->scan p row cur=ropt (row++wopt cur)
 |[],row,cur,_=>rfl
 |c::p,row,cur,h=>by
  have e1:=h c (by simp)
  rw[scan]
  by_cases hc:c=10
  . rw[if_pos hc]
    have:=scan_end p [] [] fun k hk=>h k (by simp[hk])
    rw[this];simp[wopt,ropt]
  . rw[if_neg hc,if_neg (by rw[e1];simp),scan_end p _ _ fun k hk=>h k (by simp[hk])]
    simp[wopt]
theorem wopt_ne{w:List Nat}(h:w≠[]):wopt w=[w]:=by simp[wopt,h]
theorem scan_row{p:List Nat}(hp:Part p):∀(ws:List (List Nat)) (w:List Nat) (rest:List Nat) (row:List (List Nat)),(∀x∈ws,IsW x)->IsW w->
 scan (joinL p (ws++[w])++rest) row []=scan rest (row++ws.map (·.map lo1)) (w.map lo1)
 |[],w,rest,row,_,hw=>by
  show scan (w++rest) row []=_
  rw[scan_word w rest row [] hw.sg hw.nl]
  simp
 |x::ws,w,rest,row,h,hw=>by
  have hx:=h x (by simp)
  have e:joinL p (x::ws++[w])=x++p++joinL p (ws++[w]):=by
   cases ws with
   |nil=>rfl
   |cons y r=>rfl
  rw[e,List.append_assoc,List.append_assoc,scan_word x _ row [] hx.sg hx.nl,scan_part hp,scan_row hp ws w rest _ (fun y hy=>h y (by simp[hy])) hw]
  simp only[List.nil_append]
  rw[wopt_ne (by intro z;exact hx.ne (by simpa using z))]
  simp
theorem snoc_of{α:Type}{l:List α}(h:l≠[]):∃i x,l=i++[x]:=⟨l.dropLast,l.getLast h,(List.dropLast_concat_getLast h).symm⟩
theorem scan_rows{p q:List Nat}(hp:Part p)(hq:Quiet q)(h10:10∈q):∀(rows:List (List (List Nat))) (post:List Nat),(∀r∈rows,r≠[]/\ ∀x∈r,IsW x)->Quiet post->
 scan (joinL q (rows.map (joinL p))++post) [] []=rows.map (·.map (·.map lo1))
 |[],post,_,hpost=>by
  show scan ([]++post) [] []=_
  rw[List.nil_append,scan_end post [] [] hpost];rfl
 |[r],post,h,hpost=>by
  obtain⟨hne,hw⟩:=h r (by simp)
  obtain⟨i,x,rfl⟩:=snoc_of hne
  show scan (joinL p (i++[x])++post) [] []=_
  have hx:=hw x (by simp)
  rw[scan_row hp i x post [] (fun y hy=>hw y (by simp[hy])) hx,scan_end post _ _ hpost,wopt_ne (by intro z;exact hx.ne (by simpa using z))]
  simp[ropt]
 |r::r2::rs,post,h,hpost=>by
  obtain⟨hne,hw⟩:=h r (by simp)
  obtain⟨i,x,rfl⟩:=snoc_of hne
  have hx:=hw x (by simp)
  have e:joinL q ((((i++[x])::r2::rs)).map (joinL p))=joinL p (i++[x])++q++joinL q ((r2::rs).map (joinL p)):=rfl
  rw[e,List.append_assoc,List.append_assoc,scan_row hp i x _ [] (fun y hy=>hw y (by simp[hy])) hx,scan_rowsep q _ _ _ hq h10,wopt_ne (by intro z;exact hx.ne (by simpa using z)),scan_rows hp hq h10 (r2::rs) post (fun y hy=>h y (by simp[hy])) hpost]
  simp[ropt]
theorem flatMap_joinL(g:Nat->List Nat)(sep:List Nat):∀(ps:List (List Nat)),(joinL sep ps).flatMap g=joinL (sep.flatMap g) (ps.map (·.flatMap g))
 |[]=>rfl
 |[p]=>rfl
 |p::q::r=>by
  rw[joinL_cons2,List.flatMap_append,List.flatMap_append,flatMap_joinL g sep (q::r)]
  rfl
theorem map_joinL(g:Nat->Nat)(sep:List Nat):∀(ps:List (List Nat)),(joinL sep ps).map g=joinL (sep.map g) (ps.map (·.map g))
 |[]=>rfl
 |[p]=>rfl
 |p::q::r=>by
  rw[joinL_cons2,map_append,map_append,map_joinL g sep (q::r)]
  rfl
def isW(z:Str):Prop:=z≠""/\ ∀c∈cl z,sgB c=true
theorem isW.w{z:Str}(h:isW z):IsW (cl z):=⟨fun e=>h.1 (cl_eq_nil.mp e),fun c hc=>by rw[sg_low (h.2 c hc)];exact h.2 c hc,fun c hc=>(W36_low c (sg_mem (h.2 c hc))).2.2.2.1⟩
theorem isW.low{z:Str}(h:isW z):(cl z).map lo1=cl z:=by
 conv=>rhs;rw[<-List.map_id (cl z)]
 exact map_congr_left fun c hc=>sg_low (h.2 c hc)
theorem up_low:∀c∈cl W36,lo1 (up1 c)=c/\up1 c≠10/\up1 c<128:=by decide+kernel
theorem isW.up{z:Str}(h:isW z):IsW ((cl z).map up1)/\((cl z).map up1).map lo1=cl z:=by
 refine⟨⟨fun e=>h.1 (cl_eq_nil.mp (by simpa using e)),fun c hc=>?_,fun c hc=>?_⟩,?_⟩
 . obtain⟨k,hk,rfl⟩:=mem_map.mp hc
   rw[(up_low k (sg_mem (h.2 k hk))).1];exact h.2 k hk
 . obtain⟨k,hk,rfl⟩:=mem_map.mp hc
   exact(up_low k (sg_mem (h.2 k hk))).2.1
 . rw[map_map]
   conv=>rhs;rw[<-List.map_id (cl z)]
   exact map_congr_left fun c hc=>(up_low c (sg_mem (h.2 c hc))).1
def GoodRows(rows:List (List Str)):Prop:=∀r∈rows,r≠[]/\ ∀x∈r,isW x
theorem ascii_join{sep:List Nat}(hs:∀c∈sep,c<128):∀{ps:List (List Nat)},(∀p∈ps,∀c∈p,c<128)->∀c∈joinL sep ps,c<128
 |[],_,c,hc=>by simp[joinL]at hc
 |[p],h,c,hc=>h p (by simp) c hc
 |p::q::r,h,c,hc=>by
  rw[joinL_cons2,mem_append,mem_append]at hc
  rcases hc with(hc|hc)|hc
  . exact h p (by simp) c hc
  . exact hs c hc
  . exact ascii_join hs (fun x hx=>h x (by simp[hx])) c hc
theorem rows_back{rows:List (List Str)}{z:Str}(ha:∀c∈cl z,c<128)(h:scan (cl z) [] []=rows.map (·.map cl)):rowsOfS z=rows:=by
 have e:=rowsOfS_eq ha
 rw[h]at e
 have e1:=map_map_cl _ _ e
 have e2:=map_map_cl rows _ rfl
 rw[e1, <-e2]
theorem w_ascii{z:Str}(h:isW z):∀c∈cl z,c<128:=fun c hc=>(W36_low c (sg_mem (h.2 c hc))).2.2.1
end Y
namespace Y
open PySem PyProof.Rows Builtin Builtin.Str StrLaws
end Y
namespace Y
open PySem PySem.Spec PyProof.Rows L2
variable[Tabs]
def cellAt(ns:List Int)(k:Nat):Int:=ns.getD k 0
def gCellAt(ds:List D)(d:D):Prop:=∃(ns:List Int) (k:Nat),ns.length<=1000/\ds=[.lst (ns.map D.int),.int k]/\d=.int (cellAt ns k)
def part(c k m:Int):Int:=(c%99991+17)*(48271+7919*k)%65537*(k+3)%8191%m
theorem part_nn(c k:Int){m:Int}(h:0<m):0<=part c k m:=Int.emod_nonneg _ (by omega)
theorem part_lt(c k:Int){m:Int}(h:0<m):part c k m<m:=Int.emod_lt_of_pos _ h
def gPart(ds:List D)(d:D):Prop:=∃c k m:Int,0<m/\ds=[.int c,.int k,.int m]/\d=.int (part c k m)
def strsD(ws:List Str):D:=.lst (ws.map D.str)
def rowsD(rows:List (List Str)):D:=.lst (rows.map strsD)
theorem strs_get{ws:List Str}{n:Nat}(h:n<ws.length):(ws.map D.str)[n]? =some (.str (ws.getD n "")):=by simp[h]
def plD(p:Nat×Nat):D:=.tup [.int p.1,.int p.2]
def plsD(ps:List (Nat×Nat)):D:=.lst (ps.map plD)
def tot(rows:List (List Str)):Nat:=(rows.map List.length).sum
def allPn(rows:List (List Str))(n:Nat):List (Nat×Nat):=(List.range n).flatMap fun r=>(List.range (rows.getD r []).length).map fun a=>(r,a)
def allP(rows:List (List Str)):List (Nat×Nat):=allPn rows rows.length
theorem allPn_succ(rows:List (List Str))(n:Nat):allPn rows (n+1)=allPn rows n++(List.range (rows.getD n []).length).map fun a=>(n,a):=by
 unfold allPn
 rw[range_succ,List.flatMap_append]
 simp
theorem allPn_len(rows:List (List Str)):∀n,n<=rows.length->(allPn rows n).length=((rows.take n).map List.length).sum
 |0,_=>by simp[allPn]
 |n+1,h=>by
  have hn:n<rows.length:=by omega
  have e:rows.take (n+1)=rows.take n++[rows.getD n []]:=by
   rw[take_add_one];simp[hn]
  rw[allPn_succ,List.length_append,allPn_len rows n (by omega),length_map,length_range,e,map_append,List.sum_append]
  simp
theorem sum_take_le:∀(l:List (List Str)) (n:Nat),((l.take n).map List.length).sum<=(l.map List.length).sum
 |[],n=>by simp
 |a::l,0=>by simp
 |a::l,n+1=>by
  have:=sum_take_le l n
  simp at this⊢
  omega
theorem tot_take(rows:List (List Str))(n:Nat)(h:n<=rows.length):(allPn rows n).length<=tot rows:=by
 rw[allPn_len rows n h];exact sum_take_le rows n
theorem tot_row{rows:List (List Str)}{n:Nat}{row:List Str}(h:rows[n]? =some row)(m:Nat)(hm:m<=row.length):(allPn rows n).length+m<=tot rows:=by
 have hn:n<rows.length:=(List.getElem?_eq_some_iff.mp h).1
 have h1:=tot_take rows (n+1) (by omega)
 rw[allPn_succ,List.length_append]at h1
 simp[h]at h1
 omega
def gAll(ds:List D)(d:D):Prop:=∃rows,tot rows<=900/\ds=[rowsD rows]/\d=plsD (allP rows)
def endAt(rows:List (List Str))(p:Nat×Nat):List Str:=(rows.getD p.1 []).drop p.2
def gEnd(ds:List D)(d:D):Prop:=∃(rows:List (List Str)) (p:Nat×Nat),p.1<rows.length/\ds=[rowsD rows,plD p]/\d=strsD (endAt rows p)
theorem rangeD0_get{n i:Nat}{d:D}(h:(rangeD 0 n)[i]? =some d):i<n/\d=.int (i:Nat):=by
 obtain⟨h1,h2⟩:=rangeD_get h
 exact⟨h1,by rw[h2,Int.zero_add]⟩
theorem flat_range{lo:Int}{n:Nat}:∀d∈rangeD lo n,d.flat=true:=fun d hd=>by obtain⟨i,_,rfl⟩:=mem_map.mp hd;rfl
theorem told_strs:Told strsD:=told_list told_str
theorem deps_le{n:Nat}:∀{ds:List D},(∀d∈ds,d.dep<=n)->deps ds<=n
 |[],_=>by simp[deps]
 |d::ds,h=>by
  have h1:=h d mem_cons_self
  have h2:deps ds<=n:=deps_le fun e he=>h e (mem_cons_of_mem _ he)
  simp[deps];omega
theorem dep_lst{n:Nat}{ds:List D}(h:∀d∈ds,d.dep<=n):(D.lst ds).dep<=n+1:=by
 have:=deps_le h
 simp[D.dep];omega
theorem dep_strs(ws:List Str):(strsD ws).dep<=1:=dep_lst fun d hd=>by obtain⟨i,_,rfl⟩:=mem_map.mp hd;simp[D.dep]
theorem dep_rows(ws:List (List Str)):(rowsD ws).dep<=2:=dep_lst fun d hd=>by obtain⟨i,_,rfl⟩:=mem_map.mp hd;exact dep_strs i
theorem roomD{k n:Nat}{A:Around}{d:D}(r:Room k A)(h:d.dep<=n)(hn:n<=200:=by decide):A.units+d.dep<cLine:=by have:=r.un;omega
def asciiS(z:Str):Prop:=∀c∈cl z,c<128
theorem inW36(c:Nat):(!(Builtin.Str.occurrences W36 ⟨#[c]⟩ 0 W36.length 1).isEmpty)=sgB c:=StrLaws.found_one W36 c
def gWordsIn(ds:List D)(d:D):Prop:=∃z:Str,z.length<=2000/\asciiS z/\ds=[.str z]/\d=strsD (wordsInS z)
def gRowsOf(ds:List D)(d:D):Prop:=∃z:Str,z.length<=2000/\asciiS z/\ds=[.str z]/\d=rowsD (rowsOfS z)
theorem cutAt_len(c:Nat):∀l:List Nat,(cutAt c l).length<=l.length+1
 |[]=>by simp[cutAt]
 |k::r=>by
  have ih:=cutAt_len c r
  unfold cutAt
  split
  . simp;omega
  . have:=cutAt_ne c r
    cases q:cutAt c r with
    |nil=>exact absurd q this
    |cons h t=>rw[q]at ih;simp at ih⊢;omega
theorem cutAt_part_len(c:Nat):∀(l:List Nat) (p:List Nat),p∈cutAt c l->p.length<=l.length
 |[],p,hp=>by simp[cutAt]at hp;subst hp;simp
 |k::r,p,hp=>by
  unfold cutAt at hp
  split at hp
  . rcases mem_cons.mp hp with rfl|hp
    . simp
    . have:=cutAt_part_len c r p hp;simp;omega
  . rcases mem_cons.mp hp with rfl|hp
    . have:((cutAt c r).headD []).length<=r.length:=by
       cases q:cutAt c r with
       |nil=>simp
       |cons h t=>exact cutAt_part_len c r _ (by rw[q];simp)
      rw[length_cons,length_cons];omega
    . have:=cutAt_part_len c r p (List.mem_of_mem_tail hp);simp;omega
theorem split_nl{z p:Str}(h:p∈Txt.split z "\n"):cl p∈cutAt 10 (cl z):=by
 rw[<-split_cut]
 exact List.mem_map_of_mem (f:=cl) h
theorem split_nl_len(z:Str):(Txt.split z "\n").length<=z.length+1:=by
 have:=cutAt_len 10 (cl z)
 rw[<-split_cut,length_map,cl_len]at this
 exact this
theorem words_len(z:Str):(Builtin.Str.spaceWords z (z.length+1)).length<=z.length+1:=Nat.le_trans (StrLaws.len_le_wsum _) (StrLaws.sw_weight z).1
theorem parts_len(z y:Str):(Builtin.Str.partsBetween z (Builtin.Str.occurrences z y 0 z.length (z.length+1)) y.length).length<=z.length+2:=by
 have h:=StrLaws.occ_length_le_len z y 0 z.length (z.length+1)
 unfold Builtin.Str.partsBetween
 simp
 omega
theorem lower_len{z:Str}(h:asciiS z):(Txt.lower z).length=z.length:=by
 rw[PyProof.Rows.lower_ascii h]
 show(z.cps.map _).size=z.cps.size
 simp
theorem big5000:5000<=sizeLine:=by decide
theorem smallN{n:Nat}(h:n<=5000):n<=sizeLine:=Nat.le_trans h big5000
theorem smallL1{a b:Nat}(h:a<=b)(hb:b<=5000):a<=sizeLine:=Nat.le_trans h (Nat.le_trans hb big5000)
theorem sum_ones{α:Type}(f:α->Nat):∀(l:List α),(∀c,f c=1)->(l.map f).sum=l.length
 |[],_=>rfl
 |a::l,h=>by simp[h a,sum_ones f l h];omega
theorem T.castB{X:Cx}{ρ:List (Option D)}{e:Expr}{b b':Bool}(h:T X ρ e b)(q:b=b'):T X ρ e b':=q▸h
theorem cl_slice_to(x:Str){j:Int}(h0:0<=j)(h1:j<=(cl x).length):cl (Txt.slice x none (some j))=(cl x).take j.toNat:=by
 have e:Txt.slice x none (some j)=_:=StrLaws.sliceText_to (x:=x) (j:=j) ⟨h0,h1⟩
 rw[e]
 simp[cl]
theorem tjoin_le(sep:Str)(zs:List Str):(Txt.join sep zs).length<=(zs.map (·.length)).sum+zs.length*sep.length:=by
 show(Builtin.Str.glued sep zs).length<=_
 rw[StrLaws.glued_eq_join]
 exact StrLaws.join_length_le sep zs
def unS:D->Str
 |.str x=>x
 |_=>""
theorem map_unS(ws:List Str):(ws.map D.str).map unS=ws:=by
 rw[map_map]
 conv=>rhs;rw[<-List.map_id ws]
 rfl
theorem len_le_tot:∀{rows:List (List Str)},(∀r∈rows,0<r.length)->rows.length<=tot rows
 |[],_=>by simp[tot]
 |r::l,h=>by
  have h1:=len_le_tot fun x hx=>h x (mem_cons_of_mem _ hx)
  have h2:=h r (by simp)
  unfold tot at h1⊢
  simp only[map_cons,List.sum_cons,length_cons];omega
theorem upper_len{z:Str}(h:asciiS z):(Txt.upper z).length=z.length:=by
 rw[PyProof.Rows.upper_ascii h]
 show(z.cps.map _).size=z.cps.size
 simp
def sizeB(one:Int):Int:=1+part one 0 14
def atB(one other:Int):Int:=part other 1 (sizeB one)
theorem sizeB_pos(one:Int):1<=sizeB one:=by have:=part_nn one 0 (show(0:Int)<14 by decide);unfold sizeB;omega
theorem sizeB_le(one:Int):sizeB one<=14:=by have:=part_lt one 0 (show(0:Int)<14 by decide);unfold sizeB;omega
end Y
namespace Y
open PySem PySem.Spec PyProof.Rows L2 PySem.SeqAt AutoSeq1 MeetsSeq MeetsSeq2 MeetsSeq3
def RoAt(op:CmpOp)(A:Around)(s:Shared)(y x:Value)(b:Bool):Prop:=
 ∀(prog:Program) (w:World) (E:Value->Shared->Prop) (Q:Value->Shared->Prop),Q (.bool b) s->wpAny (model prog w) A (richCompare op y x) Q E s
def walkB(e r:Nat->Bool)(z:Bool):List Nat->Bool
 |[]=>z
 |j::js=>if e j then walkB e r z js else r j
theorem loopLt(l b:Addr)(its its2:Array Value)(n n2:Nat)(dd dd2:Option Addr)(sl sl2:Array (Option Value))(e r:Nat->Bool)(k:Nat):
 ∀i:Nat,min its.size its2.size-i=k->Meets (Builtin.«list.__eq__.loop» ⟨[.ref l,.ref b,rawInt i,rawInt 0],[]⟩)
  (fun A R s=>s.heap.get? l=some {cls:=.type "list",dict:=dd,data:=.seq its n,slots:=sl}/\s.heap.get? b=some {cls:=.type "list",dict:=dd2,data:=.seq its2 n2,slots:=sl2}/\
   (∀j (h1:j<its.size) (h2:j<its2.size),EqAt A.in1 s its[j] its2[j] (e j))/\(∀j (h1:j<its.size) (h2:j<its2.size),e j=false->RoAt .Lt A.in1 s its[j] its2[j] (r j))/\
   R (.ok (.ret (.bool (walkB e r (decide (its.size<its2.size)) ((List.range (min its.size its2.size)).drop i))))) s):=by
 induction k with
 |zero=>
  intro i hk prog w A R s hyp
  obtain⟨hp,g,d,tk,os⟩:=s
  obtain⟨hl,hb,he,ho,fin⟩:=hyp
  wp_walk using wpAny_loadPart' hl,wpAny_loadPart' hb
  have hd:(List.range (min its.size its2.size)).drop i=[]:=by simp;omega
  rw[hd]at fin
  by_cases h1:i<its.size
  . have e1:its[((i:Nat):Int).toNat]? =some its[i]:=by simp[h1]
    have e2:its2[((i:Nat):Int).toNat]? =none:=by simp;omega
    rw[e1,e2]
    wp_walk using wpAny_loadPart' hl,wpAny_loadPart' hb
    exact fin
  . have e1:its[((i:Nat):Int).toNat]? =none:=by simp;omega
    rw[e1]
    cases e2:its2[((i:Nat):Int).toNat]?
    . wp_walk using wpAny_loadPart' hl,wpAny_loadPart' hb
      exact fin
    . wp_walk using wpAny_loadPart' hl,wpAny_loadPart' hb
      exact fin
 |succ k ih=>
  intro i hk prog w A R s hyp
  obtain⟨hp,g,d,tk,os⟩:=s
  obtain⟨hl,hb,he,ho,fin⟩:=hyp
  wp_walk using wpAny_loadPart' hl,wpAny_loadPart' hb
  have h1:i<its.size:=by omega
  have h2:i<its2.size:=by omega
  have e1:its[((i:Nat):Int).toNat]? =some its[i]:=by simp[h1]
  have e2:its2[((i:Nat):Int).toNat]? =some its2[i]:=by simp[h2]
  have hm:i<min its.size its2.size:=by omega
  have hd:(List.range (min its.size its2.size)).drop i=i::(List.range (min its.size its2.size)).drop (i+1):=by simp[List.drop_eq_getElem_cons,hm]
  have hc:((i:Int)+1)=((i+1:Nat):Int):=by push_cast;rfl
  rw[hd]at fin
  rw[e1,e2]
  refine wpAny_bind (he i h1 h2 prog w _ _ ?_)
  cases hq:e i with
  |true=>
   have fin':R (.ok (.ret (.bool (walkB e r (decide (its.size<its2.size)) ((List.range (min its.size its2.size)).drop (i+1)))))) ⟨hp,g,d,tk,os⟩:=by simpa[walkB,hq]using fin
   wp_walk
   rw[hc]
   exact⟨plainId_quiet plain_eq_loop _,codeAny_builtin entry_eq_loop (by
    rw[Around.under_plainId plain_eq_loop _]
    exact ih (i+1) (by omega) prog w A R _ ⟨hl,hb,he,ho,fin'⟩)⟩
  |false=>
   have fin':R (.ok (.ret (.bool (r i)))) ⟨hp,g,d,tk,os⟩:=by simpa[walkB,hq]using fin
   wp_walk using wpAny_loadPart' hl,wpAny_loadPart' hb
   rw[e1,e2]
   refine wpAny_bind (ho i h1 h2 hq prog w _ _ ?_)
   wp_walk
   exact fin'
theorem listLt(l b:Addr)(its its2:Array Value)(n n2:Nat)(dd dd2:Option Addr)(sl sl2:Array (Option Value))(e r:Nat->Bool):
 Meets (Builtin.«list.__lt__» ⟨[.ref l,.ref b],[]⟩)
  (fun A R s=>s.heap.get? l=some {cls:=.type "list",dict:=dd,data:=.seq its n,slots:=sl}/\s.heap.get? b=some {cls:=.type "list",dict:=dd2,data:=.seq its2 n2,slots:=sl2}/\
   (∀j (h1:j<its.size) (h2:j<its2.size),EqAt A.in1 s its[j] its2[j] (e j))/\(∀j (h1:j<its.size) (h2:j<its2.size),e j=false->RoAt .Lt A.in1 s its[j] its2[j] (r j))/\
   R (.ok (.ret (.bool (walkB e r (decide (its.size<its2.size)) (List.range (min its.size its2.size)))))) s):=by
 intro prog w A R s hyp
 obtain⟨hp,g,d,tk,os⟩:=s
 obtain⟨hl,hb,he,ho,fin⟩:=hyp
 have f3:=AutoSeq1.sub_list_list
 wp_walk using wpAny_loadPart' hl,wpAny_loadPart' hb
 all_goals exact⟨plainId_quiet plain_eq_loop _,codeAny_builtin entry_eq_loop (by
  rw[Around.under_plainId plain_eq_loop _]
  exact loopLt l b its its2 n n2 dd dd2 sl sl2 e r _ 0 rfl prog w A R _ ⟨hl,hb,he,ho,by simpa using fin⟩)⟩
theorem roListLt{A:Around}{s:Shared}{l b:Addr}{its its2:Array Value}{e r:Nat->Bool}(hl:s.heap.IsList l its)(hb:s.heap.IsList b its2)(hu:A.units<cLine)
 (he:∀j (h1:j<its.size) (h2:j<its2.size),EqAt A.in1 s its[j] its2[j] (e j))(ho:∀j (h1:j<its.size) (h2:j<its2.size),e j=false->RoAt .Lt A.in1 s its[j] its2[j] (r j)):
 RoAt .Lt A s (.ref l) (.ref b) (walkB e r (decide (its.size<its2.size)) (List.range (min its.size its2.size))):=fun prog w E Q h=>by
 obtain⟨⟨cls,dd,data,sl⟩,g1,hc,n,hd⟩:=id hl
 obtain⟨⟨cls2,dd2,data2,sl2⟩,g2,hc2,n2,hd2⟩:=id hb
 simp only at hc hd hc2 hd2
 subst hc hd hc2 hd2
 exact richCompare_meets_room (op:=.Lt) ⟨_,g1,rfl⟩ ⟨_,g2,rfl⟩ F.slot_list_lt F.entry_list_lt (F.args_list_lt_2 _ _) (listLt l b its its2 n n2 dd dd2 sl sl2 e r)
  ⟨g1,g2,he,ho,(fun x=>nomatch x),h⟩ hu
theorem tupleLt(l b:Addr)(its its2:Array Value)(n n2:Nat)(dd dd2:Option Addr)(sl sl2:Array (Option Value))(e r:Nat->Bool):
 Meets (Builtin.«tuple.__lt__» ⟨[.ref l,.ref b],[]⟩)
  (fun A R s=>s.heap.get? l=some {cls:=.type "tuple",dict:=dd,data:=.seq its n,slots:=sl}/\s.heap.get? b=some {cls:=.type "tuple",dict:=dd2,data:=.seq its2 n2,slots:=sl2}/\
   (∀j (h1:j<its.size) (h2:j<its2.size),EqAt A.in1 s its[j] its2[j] (e j))/\(∀j (h1:j<its.size) (h2:j<its2.size),e j=false->RoAt .Lt A.in1 s its[j] its2[j] (r j))/\
   R (.ok (.ret (.bool (walkB e r (decide (its.size<its2.size)) (List.range (min its.size its2.size)))))) s):=
 .of_wp fun prog w A R s hyp=>by
  obtain⟨hp,g,d,tk,os⟩:=s
  obtain⟨hl,hb,he,ho,fin⟩:=hyp
  have f2:=AutoSeq1.sub_tuple_tuple
  have hZ:(its.toList.zip its2.toList).length=min its.size its2.size:=by simp
  wp_walk using wpAny_loadPart' hl,wpAny_loadPart' hb,wpAny_forIn_list _ (fun rest c s'=>c.1=none/\s'=⟨hp,g,d,tk,os⟩/\ ∃i,rest=(its.toList.zip its2.toList).drop i/\
   R (.ok (.ret (.bool (walkB e r (decide (its.size<its2.size)) ((List.range (min its.size its2.size)).drop i))))) ⟨hp,g,d,tk,os⟩) _
  case turn=>
   rintro⟨y,x⟩ rest c s' ⟨hc',rfl,i,hz,hR⟩
   have hlt:i<(its.toList.zip its2.toList).length:=by
    rcases Nat.lt_or_ge i (its.toList.zip its2.toList).length with q|q
    . exact q
    . rw[List.drop_of_length_le q]at hz;cases hz
   have hm:i<min its.size its2.size:=by omega
   have h1:i<its.size:=by omega
   have h2:i<its2.size:=by omega
   rw[List.drop_eq_getElem_cons hlt]at hz
   injection hz with hyx hrest
   have hy:y=its[i]:=by have t:=congrArg Prod.fst hyx;simpa using t
   have hx:x=its2[i]:=by have t:=congrArg Prod.snd hyx;simpa using t
   subst hy hx
   have hd:(List.range (min its.size its2.size)).drop i=i::(List.range (min its.size its2.size)).drop (i+1):=by simp[List.drop_eq_getElem_cons,hm]
   rw[hd]at hR
   refine wpAny_bind (he i h1 h2 prog w _ _ ?_)
   cases hq:e i with
   |true=>
    have fin':R (.ok (.ret (.bool (walkB e r (decide (its.size<its2.size)) ((List.range (min its.size its2.size)).drop (i+1)))))) ⟨hp,g,d,tk,os⟩:=by simpa[walkB,hq]using hR
    wp_walk
    exact⟨rfl,rfl,i+1,hrest,fin'⟩
   |false=>
    have fin':R (.ok (.ret (.bool (r i)))) ⟨hp,g,d,tk,os⟩:=by simpa[walkB,hq]using hR
    rw[if_pos (show(!false)=true from rfl)]
    refine wpAny_bind (wpAny_rule (wpAny_bind (ho i h1 h2 hq prog w _ _ ?_)))
    wp_walk
    exact⟨_,rfl,fin'⟩
  case fin=>
   rintro⟨c1,c2⟩ s' ⟨hc',rfl,i,hz,hR⟩
   simp only at hc'
   subst hc'
   have hge:min its.size its2.size<=i:=by
    rcases Nat.lt_or_ge i (its.toList.zip its2.toList).length with q|q
    . rw[List.drop_eq_getElem_cons q]at hz;cases hz
    . omega
   rw[List.drop_of_length_le (by simpa using hge)]at hR
   wp_walk
   exact⟨_,rfl,by simpa[Builtin.Tuple.tupleCompareSizes,walkB]using hR⟩
  case h=>
   exact⟨rfl,rfl,0,rfl,by simpa using fin⟩
theorem roTupLt{A:Around}{s:Shared}{l b:Addr}{its its2:Array Value}{e r:Nat->Bool}(hl:s.heap.IsTuple l its)(hb:s.heap.IsTuple b its2)(hu:A.units<cLine)
 (he:∀j (h1:j<its.size) (h2:j<its2.size),EqAt A.in1 s its[j] its2[j] (e j))(ho:∀j (h1:j<its.size) (h2:j<its2.size),e j=false->RoAt .Lt A.in1 s its[j] its2[j] (r j)):
 RoAt .Lt A s (.ref l) (.ref b) (walkB e r (decide (its.size<its2.size)) (List.range (min its.size its2.size))):=fun prog w E Q h=>by
 obtain⟨⟨cls,dd,data,sl⟩,g1,hc,n,hd⟩:=id hl
 obtain⟨⟨cls2,dd2,data2,sl2⟩,g2,hc2,n2,hd2⟩:=id hb
 simp only at hc hd hc2 hd2
 subst hc hd hc2 hd2
 exact richCompare_meets_room (op:=.Lt) ⟨_,g1,rfl⟩ ⟨_,g2,rfl⟩ F.slot_tuple_lt F.entry_tuple_lt (F.args_tuple_lt_2 _ _) (tupleLt l b its its2 n n2 dd dd2 sl sl2 e r)
  ⟨g1,g2,he,ho,(fun x=>nomatch x),h⟩ hu
end Y
namespace Y
open PySem PySem.Spec PyProof.Rows L2 PySem.SeqAt
variable[Tabs]
inductive Od where
  |lt
def Od.op:Od->CmpOp
 |.lt=>.Lt
def Od.sz:Od->Nat->Nat->Bool
 |.lt,m,n=>decide (m<n)
def Od.int:Od->Int->Int->Bool
 |.lt,m,n=>decide (m<n)
def Od.str:Od->Str->Str->Bool
 |.lt,a,b=>decide (cl a<cl b)
mutual
def dor(o:Od):D->D->Bool
 |.int a,.int b=>o.int a b
 |.str a,.str b=>o.str a b
 |.lst a,.lst b=>dors o a b
 |.tup a,.tup b=>dors o a b
 |_,_=>false
def dors(o:Od):List D->List D->Bool
 |[],bs=>o.sz 0 bs.length
 |a::as,[]=>o.sz (as.length+1) 0
 |a::as,b::bs=>if deq a b then dors o as bs else dor o a b
end
mutual
def cmpb:D->D->Bool
 |.int _,.int _=>true
 |.str _,.str _=>true
 |.lst a,.lst b=>cmpbs a b
 |.tup a,.tup b=>cmpbs a b
 |_,_=>false
def cmpbs:List D->List D->Bool
 |[],_=>true
 |_::_,[]=>true
 |a::as,b::bs=>cmpb a b&&cmpbs as bs
end
theorem Od.sz_succ(o:Od)(m n:Nat):o.sz (m+1) (n+1)=o.sz m n:=by cases o<;>simp[Od.sz]
theorem walk_map(e r:Nat->Bool)(z:Bool):∀l:List Nat,walkB e r z (l.map Nat.succ)=walkB (fun j=>e (j+1)) (fun j=>r (j+1)) z l
 |[]=>rfl
 |j::l=>by
  rw[map_cons,walkB,walkB,walk_map e r z l]
theorem walk_dors(o:Od):∀(ds es:List D),walkB (fun j=>deq (ds.getD j .non) (es.getD j .non)) (fun j=>dor o (ds.getD j .non) (es.getD j .non)) (o.sz ds.length es.length) (List.range (min ds.length es.length))=dors o ds es
 |[],es=>by simp[walkB,dors]
 |a::as,[]=>by simp[walkB,dors]
 |a::as,b::bs=>by
  have ih:=walk_dors o as bs
  have hm:min (a::as).length (b::bs).length=min as.length bs.length+1:=by simp<;>omega
  rw[hm,List.range_succ_eq_map,walkB,walk_map,dors]
  simp only[List.getD_cons_zero,List.getD_cons_succ,length_cons,Od.sz_succ]
  rw[ih]
theorem cmpbs_at:∀(ds es:List D),cmpbs ds es=true->∀j,j<ds.length->j<es.length->cmpb (ds.getD j .non) (es.getD j .non)=true
 |[],es,_,j,h,_=>by simp at h
 |a::as,[],_,j,_,h=>by simp at h
 |a::as,b::bs,hc,j,h1,h2=>by
  unfold cmpbs at hc
  rw[Bool.and_eq_true]at hc
  cases j with
  |zero=>exact hc.1
  |succ j=>exact cmpbs_at as bs hc.2 j (by simpa using h1) (by simpa using h2)
section
variable{X:Cx}{pins:List (Addr×Obj)}{σ:St}{H:Hp}{s:Shared}{Z Z':Zone}
theorem ro_int(o:Od){A:Around}(a b:Int)(t u:Tok):RoAt o.op A s (.int a t) (.int b u) (o.int a b):=fun prog w E Q h=>by
 cases o
 . exact PyProof.Rows.lt_int h
theorem ro_str(o:Od){A:Around}(a b:Str)(t u:Tok):RoAt o.op A s (.str a t) (.str b u) (o.str a b):=fun prog w E Q h=>by
 cases o
 . exact PyProof.Rows.lt_str h
theorem roL(o:Od){A:Around}{l b:Addr}{its its2:Array Value}{e r:Nat->Bool}(hl:s.heap.IsList l its)(hb:s.heap.IsList b its2)(hu:A.units<cLine)
 (he:∀j (h1:j<its.size) (h2:j<its2.size),EqAt A.in1 s its[j] its2[j] (e j))(ho:∀j (h1:j<its.size) (h2:j<its2.size),e j=false->RoAt o.op A.in1 s its[j] its2[j] (r j)):
 RoAt o.op A s (.ref l) (.ref b) (walkB e r (o.sz its.size its2.size) (List.range (min its.size its2.size))):=by
 cases o
 . exact roListLt hl hb hu he ho
theorem roT(o:Od){A:Around}{l b:Addr}{its its2:Array Value}{e r:Nat->Bool}(hl:s.heap.IsTuple l its)(hb:s.heap.IsTuple b its2)(hu:A.units<cLine)
 (he:∀j (h1:j<its.size) (h2:j<its2.size),EqAt A.in1 s its[j] its2[j] (e j))(ho:∀j (h1:j<its.size) (h2:j<its2.size),e j=false->RoAt o.op A.in1 s its[j] its2[j] (r j)):
 RoAt o.op A s (.ref l) (.ref b) (walkB e r (o.sz its.size its2.size) (List.range (min its.size its2.size))):=by
 cases o
 . exact roTupLt hl hb hu he ho
theorem roAt_D(o:Od)(I:Inv X pins σ H s):∀(n:Nat) {A:Around} {d d':D} {v v':V} {u u':Value},In X.K H Z d v->In X.K H Z' d' v'->RelV v u->RelV v' u'->cmpb d d'=true->d.dep<=n->A.units+n<cLine->RoAt o.op A s u u' (dor o d d'):=by
 intro n
 induction n with
 |zero=>
  intro A d d' v v' u u' i i' r r' hc hd hu
  cases d with
  |non=>cases d'<;>simp[cmpb]at hc
  |bl x=>cases d'<;>simp[cmpb]at hc
  |dct x=>cases d'<;>simp[cmpb]at hc
  |ktup x=>cases d'<;>simp[cmpb]at hc
  |agg s x=>cases d'<;>simp[cmpb]at hc
  |lst ds=>unfold D.dep at hd;omega
  |tup ds=>unfold D.dep at hd;omega
  |int x=>
   cases d'<;>simp[cmpb]at hc
   cases in_int.mp i
   cases in_int.mp i'
   obtain⟨t,rfl⟩:=r
   obtain⟨t',rfl⟩:=r'
   simp only[dor]
   exact ro_int o _ _ _ _
  |str x=>
   cases d'<;>simp[cmpb]at hc
   cases in_str.mp i
   cases in_str.mp i'
   obtain⟨t,rfl⟩:=r
   obtain⟨t',rfl⟩:=r'
   simp only[dor]
   exact ro_str o _ _ _ _
 |succ n ih=>
  intro A d d' v v' u u' i i' r r' hc hd hu
  have hu0:A.units<cLine:=by omega
  have hu1:A.in1.units+n<cLine:=by show A.units+1+n<cLine;omega
  have both:∀{ds es:List D} {xs ys:List V} {its its2:List Value},deps ds<=n->cmpbs ds es=true->Ins X.K H Z ds xs->Ins X.K H Z' es ys->Vals xs its->Vals ys its2->∀j (h1:j<its.toArray.size) (h2:j<its2.toArray.size),
   EqAt A.in1 s its.toArray[j] its2.toArray[j] (deq (ds.getD j .non) (es.getD j .non))/\RoAt o.op A.in1 s its.toArray[j] its2.toArray[j] (dor o (ds.getD j .non) (es.getD j .non)):=fun{ds es xs ys its its2} hdn hcs jx jy rx ry j h1 h2=>by
   have z1:=jx.length;have z2:=jy.length;have z3:=rx.length;have z4:=ry.length
   simp at h1 h2
   have k1:j<ds.length:=by omega
   have k2:j<es.length:=by omega
   obtain⟨x,ex,ix⟩:=jx.get (i:=j) (d:=ds[j]) (by simp[k1])
   obtain⟨y,ey,iy⟩:=jy.get (i:=j) (d:=es[j]) (by simp[k2])
   obtain⟨w1,f1,q1⟩:=rx.get ex
   obtain⟨w2,f2,q2⟩:=ry.get ey
   have g1:its.toArray[j]=w1:=by
    have t:=(List.getElem?_eq_some_iff.mp f1).2
    simpa using t
   have g2:its2.toArray[j]=w2:=by
    have t:=(List.getElem?_eq_some_iff.mp f2).2
    simpa using t
   have hcj:=cmpbs_at ds es hcs j k1 k2
   have e1:ds.getD j .non=ds[j]:=by simp[k1]
   have e2:es.getD j .non=es[j]:=by simp[k2]
   rw[e1,e2]at hcj⊢
   rw[g1,g2]
   have hdj:=Nat.le_trans (deps_mem (getElem_mem k1)) hdn
   exact⟨eqAt_D I n ix iy q1 q2 hdj hu1,ih ix iy q1 q2 hcj hdj hu1⟩
  cases d with
  |non=>cases d'<;>simp[cmpb]at hc
  |bl x=>cases d'<;>simp[cmpb]at hc
  |dct x=>cases d'<;>simp[cmpb]at hc
  |ktup x=>cases d'<;>simp[cmpb]at hc
  |agg s x=>cases d'<;>simp[cmpb]at hc
  |int x=>exact ih i i' r r' hc (by simp[D.dep]) (by omega)
  |str x=>exact ih i i' r r' hc (by simp[D.dep]) (by omega)
  |lst ds=>
   have hdn:deps ds<=n:=by unfold D.dep at hd;omega
   cases d' with
   |lst es=>
    have hcs:cmpbs ds es=true:=by simpa[cmpb]using hc
    obtain⟨a,xs,rfl,l,j⟩:=in_lst.mp i
    obtain⟨a',ys,rfl,l',j'⟩:=in_lst.mp i'
    cases r
    cases r'
    obtain⟨its,rx,pl,_⟩:=I.list l.sq
    obtain⟨its2,ry,pl2,_⟩:=I.list l'.sq
    have z1:=j.length;have z2:=j'.length;have z3:=rx.length;have z4:=ry.length
    have key:=roL o (e:=fun k=>deq (ds.getD k .non) (es.getD k .non)) (r:=fun k=>dor o (ds.getD k .non) (es.getD k .non)) pl.isList pl2.isList hu0 (fun k h1 h2=>(both hdn hcs j j' rx ry k h1 h2).1) (fun k h1 h2 _=>(both hdn hcs j j' rx ry k h1 h2).2)
    have e1:its.toArray.size=ds.length:=by simp;omega
    have e2:its2.toArray.size=es.length:=by simp;omega
    rw[e1,e2,walk_dors]at key
    simpa only[dor]using key
   |_=>simp[cmpb]at hc
  |tup ds=>
   have hdn:deps ds<=n:=by unfold D.dep at hd;omega
   cases d' with
   |tup es=>
    have hcs:cmpbs ds es=true:=by simpa[cmpb]using hc
    obtain⟨a,xs,rfl,l,j⟩:=in_tupS i
    obtain⟨a',ys,rfl,l',j'⟩:=in_tupS i'
    cases r
    cases r'
    obtain⟨its,rx,pl,_⟩:=I.tuple l
    obtain⟨its2,ry,pl2,_⟩:=I.tuple l'
    have z1:=j.length;have z2:=j'.length;have z3:=rx.length;have z4:=ry.length
    have key:=roT o (e:=fun k=>deq (ds.getD k .non) (es.getD k .non)) (r:=fun k=>dor o (ds.getD k .non) (es.getD k .non)) pl pl2 hu0 (fun k h1 h2=>(both hdn hcs j j' rx ry k h1 h2).1) (fun k h1 h2 _=>(both hdn hcs j j' rx ry k h1 h2).2)
    have e1:its.toArray.size=ds.length:=by simp;omega
    have e2:its2.toArray.size=es.length:=by simp;omega
    rw[e1,e2,walk_dors]at key
    simpa only[dor]using key
   |_=>simp[cmpb]at hc
end
end Y
namespace Y
open PySem PySem.Spec PyProof.Rows L2
structure SB(kd:SortKind)(a0:Array Keyed)(st:SortSt):Prop where
 pm:(arrOf st).Perm a0
 kd:kindOf st=kd
 ok:failedOf st=none
 pd:pendingOf st= #[]
section
variable{kd:SortKind}{a0:Array Keyed}{κ:PyProof.Rows.KeyKind}{st:SortSt}
theorem SB.sz(h:SB kd a0 st):(arrOf st).size=a0.size:=h.pm.size_eq
theorem SB.arr(h:SB kd a0 st){xs:Array Keyed}(p:xs.Perm (arrOf st)):SB kd a0 (setArr st xs):=⟨p.trans h.pm,h.kd,h.ok,h.pd⟩
abbrev ky(κ:PyProof.Rows.KeyKind)(st:SortSt)(i:Nat):κ.α:=KK κ (arrOf st) i
abbrev Up(κ:PyProof.Rows.KeyKind)(st:SortSt)(n:Nat):Prop:=SortedToK κ (arrOf st) n
abbrev Down(κ:PyProof.Rows.KeyKind)(st:SortSt)(n:Nat):Prop:=NonIncK κ (arrOf st) n
theorem up_more{xs:Array Keyed}{n:Nat}(h:SortedToK κ xs n)(h1:n=0\/κ.kle (KK κ xs (n-1)) (KK κ xs n)):SortedToK κ xs (n+1):=fun i j le lt=>by
 rcases Nat.lt_or_ge j n with a|a
 . exact h i j le a
 . obtain rfl:j=n:=by omega
   rcases Nat.lt_or_ge i j with b|b
   . rcases h1 with z|z
     . omega
     . exact KeyOrd.kle_trans (h i (j-1) (by omega) (by omega)) z
   . obtain rfl:i=j:=by omega
     exact KeyOrd.kle_refl _
theorem down_more{xs:Array Keyed}{n:Nat}(h:NonIncK κ xs n)(h1:n=0\/κ.kle (KK κ xs n) (KK κ xs (n-1))):NonIncK κ xs (n+1):=fun i j le lt=>by
 rcases Nat.lt_or_ge j n with a|a
 . exact h i j le a
 . obtain rfl:j=n:=by omega
   rcases Nat.lt_or_ge i j with b|b
   . rcases h1 with z|z
     . omega
     . exact KeyOrd.kle_trans z (h i (j-1) (by omega) (by omega))
   . obtain rfl:i=j:=by omega
     exact KeyOrd.kle_refl _
theorem up_one{xs:Array Keyed}:SortedToK κ xs 1:=fun i j le lt=>by
 obtain rfl:i=j:=by omega
 exact KeyOrd.kle_refl _
theorem nonInc_congr{xs ys:Array Keyed}{n:Nat}(h:NonIncK κ xs n)(e:∀k,KK κ ys k=KK κ xs k):NonIncK κ ys n:=fun i j le lt=>by
 rw[e,e];exact h i j le lt
variable{prog:Program}{w:World}{A:Around}{E:Value->Shared->Prop}{s:Shared}
def Asks(κ:PyProof.Rows.KeyKind)(kd:SortKind)(a0:Array Keyed)(prog:Program)(w:World)(A:Around)(E:Value->Shared->Prop)(s:Shared):Prop:=
 ∀(st:SortSt) (i j:Nat) (Q:Option Bool->SortSt->Prop),SB kd a0 st->i<a0.size->j<a0.size->Q (some (κ.blt (ky κ st i) (ky κ st j))) st->wpS (model prog w) A E s (ltAt' i j) Q st
theorem run_up(hA:Asks κ kd a0 prog w A E s){a n:Nat}{Q:AscSt->SortSt->Prop}(hn:n<=a0.size)(ha:1<=a)(han:a<=n)(hB:SB kd a0 st)(hs:Up κ st a)
 (fin:∀m,a<=m->m<=n->Up κ st m->(m=n\/κ.klt (ky κ st m) (ky κ st (m-1)))->Q (none,m) st):wpS (model prog w) A E s (ascLoop a n) Q st:=by
 unfold ascLoop
 refine wpS_forRange (I:=fun m c t=>(t=st/\c=(none,m))/\Up κ st m) (fun m c t g1 g2 ⟨⟨e1,e2⟩,up⟩=>?_) (fun c t ⟨⟨e1,e2⟩,up⟩=>?_) ⟨⟨rfl,rfl⟩,hs⟩
 . subst e1 e2
   dsimp only
   refine wpS_bind (hA t m (m-1) _ hB (by omega) (by omega) ?_)
   cases q:κ.blt (ky κ t m) (ky κ t (m-1))with
   |true=>dsimp only;rw[if_pos rfl];exact wpS_pure (fin m g1 (by omega) up (.inr q))
   |false=>dsimp only;rw[if_neg Bool.false_ne_true];exact wpS_pure ⟨⟨rfl,rfl⟩,up_more up (.inr q)⟩
 . subst e1 e2
   have e:max a n=n:=by omega
   rw[e]at up⊢
   exact fin n han (Nat.le_refl n) up (.inl rfl)
theorem run_back(hA:Asks κ kd a0 prog w A E s){m n:Nat}{Q:Option Nat->SortSt->Prop}(hn:n<=a0.size)(h1:1<=m)(hm:m<=n)(hB:SB kd a0 st)(hs:Down κ st m)
 (fin:∀k t,SB kd a0 t->1<=k->k<=n->Up κ t k->Q (some k) t):wpS (model prog w) A E s (tail3 m n) Q st:=by
 unfold tail3
 have hz:m<=(arrOf st).size:=by rw[hB.sz];omega
 have hB2:=hB.arr (mirror_perm (arrOf st) 0 m ((m-0)/2))
 have up:Up κ (setArr st (mirror (arrOf st) 0 m ((m-0)/2))) m:=fun i j le lt=>by
  have e:∀k,k<m->KK κ (mirror (arrOf st) 0 m ((m-0)/2)) k=KK κ (arrOf st) (0+m-1-k):=fun k hk=>by rw[KK_mirror hz,if_pos ⟨Nat.zero_le k,hk⟩]
  show κ.kle (KK κ (mirror (arrOf st) 0 m ((m-0)/2)) i) (KK κ (mirror (arrOf st) 0 m ((m-0)/2)) j)
  rw[e i (by omega),e j lt]
  exact hs _ _ (by omega) (by omega)
 exact wpS_bind (wpS_reverse (wpS_bind (run_up hA hn h1 hm hB2 up fun k a b c _=>wpS_pure (fin k _ hB2 (by omega) b c))))
theorem run_down(hA:Asks κ kd a0 prog w A E s){m n:Nat}{Q:DescSt->SortSt->Prop}(hn:n<=a0.size)(h1:1<=m)(hm:m<=n)(hB:SB kd a0 st)(hs:Down κ st m)
 (fin:∀k q t,SB kd a0 t->m<=k->k<=n->Down κ t k->q+1<=k->(∀i,k-(q+1)<=i->i<k->ky κ t i=ky κ t (k-1))->Q (none,k,q) t):wpS (model prog w) A E s (descLoop m n) Q st:=by
 unfold descLoop
 refine wpS_forRange (I:=fun k c t=>∃q,c=(none,k,q)/\SB kd a0 t/\Down κ t k/\q+1<=k/\ ∀i,k-(q+1)<=i->i<k->ky κ t i=ky κ t (k-1)) (fun k c t g1 g2 ⟨q,e,hb,dn,hq,same⟩=>?_) (fun c t ⟨q,e,hb,dn,hq,same⟩=>?_) ⟨0,rfl,hB,hs,by omega,fun i a b=>by rw[show i=m-1 by omega]⟩
 . subst e
   dsimp only
   have hz:k<=(arrOf t).size:=by rw[hb.sz];omega
   refine wpS_bind (hA t k (k-1) _ hb (by omega) (by omega) ?_)
   cases lo:κ.blt (ky κ t k) (ky κ t (k-1))with
   |true=>
    dsimp only
    rw[if_pos rfl]
    have dn2:Down κ t (k+1):=down_more dn (.inr (KeyOrd.kle_of_klt lo))
    by_cases q0:q>0
    . rw[if_pos q0]
      exact wpS_bind (wpS_reverse (wpS_pure ⟨0,rfl,hb.arr (mirror_perm _ _ _ _),nonInc_congr dn2 (KK_mirror_equal hz same),by omega,fun i a b=>by rw[show i=k+1-1 by omega]⟩))
    . rw[if_neg q0]
      exact wpS_pure ⟨0,rfl,hb,dn2,by omega,fun i a b=>by rw[show i=k+1-1 by omega]⟩
   |false=>
    dsimp only
    rw[if_neg Bool.false_ne_true]
    refine wpS_bind (hA t (k-1) k _ hb (by omega) (by omega) ?_)
    cases hi:κ.blt (ky κ t (k-1)) (ky κ t k)with
    |true=>dsimp only;rw[if_pos rfl];exact wpS_pure (fin k q t hb g1 (by omega) dn hq same)
    |false=>
     dsimp only
     rw[if_neg Bool.false_ne_true]
     have eq:ky κ t k=ky κ t (k-1):=KeyOrd.kle_antisymm hi lo
     refine wpS_pure ⟨q+1,rfl,hb,down_more dn (.inr (by show κ.kle (ky κ t k) (ky κ t (k-1));rw[eq];exact KeyOrd.kle_refl _)),by omega,fun i a b=>?_⟩
     have ek:k+1-1=k:=by omega
     rw[ek]
     rcases Nat.lt_or_ge i k with z|z
     . rw[same i (by omega) z,eq]
     . rw[show i=k by omega]
 . subst e
   have e:max m n=n:=by omega
   rw[e]at dn hq same⊢
   exact fin n q t hb hm (Nat.le_refl n) dn hq same
theorem run_desc(hA:Asks κ kd a0 prog w A E s){m n:Nat}{Q:Option Nat->SortSt->Prop}(hn:n<=a0.size)(hm:m+1<=n)(hB:SB kd a0 st)(hs:Down κ st (m+1))
 (fin:∀k t,SB kd a0 t->1<=k->k<=n->Up κ t k->Q (some k) t):wpS (model prog w) A E s (descPart m n) Q st:=by
 unfold descPart
 refine wpS_bind (wpS_lift (wpAny_rule ⟨rfl,wpS_bind (run_down hA hn (by omega) hm hB hs fun k q t hb a b dn hq same=>?_)⟩))
 dsimp only
 have hz:k<=(arrOf t).size:=by rw[hb.sz];omega
 by_cases q0:q>0
 . rw[if_pos q0]
   exact wpS_bind (wpS_reverse (run_back hA hn (by omega) b (hb.arr (mirror_perm _ _ _ _)) (nonInc_congr dn (KK_mirror_equal hz same)) fin))
 . rw[if_neg q0]
   exact run_back hA hn (by omega) b hb dn fin
theorem run_count(hA:Asks κ kd a0 prog w A E s){n:Nat}{Q:Option Nat->SortSt->Prop}(hn:n<=a0.size)(h1:1<=n)(hB:SB kd a0 st)
 (fin:∀k t,SB kd a0 t->1<=k->k<=n->Up κ t k->Q (some k) t):wpS (model prog w) A E s (countRun' 0 n) Q st:=by
 rw[countRun0_eq]
 refine wpS_bind (run_up hA hn (Nat.le_refl 1) h1 hB up_one fun m a b up why=>?_)
 dsimp only
 by_cases all:m=n
 . rw[if_pos (by simpa using all)]
   exact wpS_pure (fin m st hB a b up)
 . rw[if_neg (by simpa using all)]
   have lo:κ.klt (ky κ st m) (ky κ st (m-1)):=why.resolve_left all
   by_cases m1:m>1
   . rw[if_pos m1]
     refine wpS_bind (hA st 0 (m-1) _ hB (by omega) (by omega) ?_)
     cases rose:κ.blt (ky κ st 0) (ky κ st (m-1))with
     |true=>dsimp only;rw[if_pos rfl];exact wpS_pure (fin m st hB a b up)
     |false=>
      dsimp only
      rw[if_neg Bool.false_ne_true]
      have hz:m<=(arrOf st).size:=by rw[hB.sz];omega
      have same:∀i,0<=i->i<m->KK κ (arrOf st) i=KK κ (arrOf st) (m-1):=fun i _ im=>KeyOrd.kle_antisymm (up i (m-1) (by omega) (by omega)) (KeyOrd.kle_trans rose (up 0 i (by omega) im))
      have dn:Down κ st m:=fun i j le lt=>by rw[same i (by omega) (by omega),same j (by omega) lt];exact KeyOrd.kle_refl _
      exact wpS_bind (wpS_reverse (run_desc hA hn (by omega) (hB.arr (mirror_perm _ _ _ _)) (nonInc_congr (down_more dn (.inr (KeyOrd.kle_of_klt lo))) (KK_mirror_equal hz same)) fin))
   . rw[if_neg m1]
     obtain rfl:m=1:=by omega
     exact run_desc hA hn (by omega) hB (down_more (fun i j le lt=>by rw[show i=j by omega];exact KeyOrd.kle_refl _) (.inr (KeyOrd.kle_of_klt lo))) fin
theorem up_move{xs:Array Keyed}{k l:Nat}(hk:k<xs.size)(hl:l<=k)(up:SortedToK κ xs k)(below:∀i,i<l->κ.kle (KK κ xs i) (KK κ xs k))(above:∀i,l<=i->i<k->κ.klt (KK κ xs k) (KK κ xs i)):SortedToK κ (bubble xs k (k-l)) (k+1):=by
 have e:∀i,KK κ (bubble xs k (k-l)) i=if i=l then KK κ xs k else if l<i/\i<=k then KK κ xs (i-1)else KK κ xs i:=fun i=>by
  rw[KK_bubble hk (by omega),show k-(k-l)=l by omega]
 intro i j le lt
 rw[e,e]
 by_cases ji:j=l
 . rw[if_pos ji]
   by_cases ii:i=l
   . rw[if_pos ii];exact KeyOrd.kle_refl _
   . rw[if_neg ii,if_neg (by omega)];exact below i (by omega)
 . rw[if_neg ji]
   by_cases jl:l<j/\j<=k
   . rw[if_pos jl]
     by_cases ii:i=l
     . rw[if_pos ii];exact KeyOrd.kle_of_klt (above (j-1) (by omega) (by omega))
     . rw[if_neg ii]
       by_cases il:l<i/\i<=k
       . rw[if_pos il];exact up _ _ (by omega) (by omega)
       . rw[if_neg il];exact up _ _ (by omega) (by omega)
   . rw[if_neg jl,if_neg (by omega),if_neg (by omega)];exact up _ _ le (by omega)
theorem run_ins(hA:Asks κ kd a0 prog w A E s){n ok:Nat}{Q:Bool->SortSt->Prop}(hn:n<=a0.size)(hok:ok<=n)(hB:SB kd a0 st)(up0:Up κ st ok)(fin:∀t,SB kd a0 t->Up κ t n->Q true t):wpS (model prog w) A E s (binarySort' 0 n ok) Q st:=by
 rw[binarySort'_eq]
 simp only[Nat.zero_add]
 have seek:∀(t:SortSt) (k:Nat),SB kd a0 t->k<a0.size->Up κ t k->∀(R:Option Bool×Nat×Nat->SortSt->Prop),(∀l r,l<=k->(∀i,i<l->κ.kle (ky κ t i) (ky κ t k))->(∀i,l<=i->i<k->κ.klt (ky κ t k) (ky κ t i))->R (none,l,r) t)->
  wpS (model prog w) A E s (forIn [0:k] ((none,0,k):Option Bool×Nat×Nat) fun _ c=>if c.2.1≥c.2.2 then pure (ForInStep.done (none,c.2.1,c.2.2))else do
   let x<-ltAt' k ((c.2.1+c.2.2)/2)
   match x with
   |some less=>if less=true then pure (ForInStep.yield (none,c.2.1,(c.2.1+c.2.2)/2))else pure (ForInStep.yield (none,(c.2.1+c.2.2)/2+1,c.2.2))
   |_=>pure (ForInStep.done (some false,c.2.1,c.2.2))) R t:=by
  intro t k hb hk up R put
  refine wpS_forRange (I:=fun x c t'=>t'=t/\ ∃l r,c=(none,l,r)/\(l<=r/\r<=k/\r-l<=k-x)/\(∀i,i<l->κ.kle (ky κ t i) (ky κ t k))/\ ∀i,r<=i->i<k->κ.klt (ky κ t k) (ky κ t i)) ?turn ?over ⟨rfl,0,k,rfl,⟨by omega,by omega,by omega⟩,fun i z=>by omega,fun i z1 z2=>by omega⟩
  case turn=>
   rintro x c t' q1 q2 ⟨e1,l,r,e2,⟨b1,b2,b3⟩,below,above⟩
   subst e1 e2
   dsimp only
   by_cases over:l≥r
   . rw[if_pos over]
     obtain rfl:l=r:=by omega
     exact wpS_pure (put l l b2 below above)
   . rw[if_neg over]
     refine wpS_bind (hA t' k ((l+r)/2) _ hb hk (by omega) ?_)
     cases less:κ.blt (ky κ t' k) (ky κ t' ((l+r)/2))with
     |true=>
      dsimp only
      rw[if_pos rfl]
      exact wpS_pure ⟨rfl,l,(l+r)/2,rfl,⟨by omega,by omega,by omega⟩,below,fun i z1 z2=>KeyOrd.klt_of_klt_of_kle less (up _ _ z1 z2)⟩
     |false=>
      dsimp only
      rw[if_neg Bool.false_ne_true]
      exact wpS_pure ⟨rfl,(l+r)/2+1,r,rfl,⟨by omega,by omega,by omega⟩,fun i z=>KeyOrd.kle_trans (up i ((l+r)/2) (by omega) (by omega)) less,above⟩
  case over=>
   rintro c t' ⟨e1,l,r,e2,⟨b1,b2,b3⟩,below,above⟩
   subst e1 e2
   obtain rfl:l=r:=by omega
   exact put l l b2 below above
 refine wpS_bind (wpS_mono (wpS_forRange (I:=fun k c t=>c=(none,())/\SB kd a0 t/\Up κ t (min k n)) (Q:=fun c t=>c=(none,())/\SB kd a0 t/\Up κ t n) ?turn ?over ?start) ?last)
 case last=>
  rintro c t ⟨e,hb,up⟩
  subst e
  exact wpS_pure (fin t hb up)
 case start=>
  refine⟨rfl,hB,fun i j le lt=>?_⟩
  rcases Nat.eq_zero_or_pos ok with z|z
  . rw[show i=j by omega];exact KeyOrd.kle_refl _
  . exact up0 i j le (by omega)
 case over=>
  rintro c t ⟨e,hb,up⟩
  rw[show min (max (max ok 1) n) n=n by omega]at up
  exact⟨e,hb,up⟩
 case turn=>
  rintro k c t g1 g2 ⟨e,hb,up⟩
  subst e
  rw[show min k n=k by omega]at up
  refine wpS_bind (seek t k hb (by omega) up _ fun l r lk below above=>?_)
  show wpS _ _ _ _ (do moveDown' k l;pure (ForInStep.yield (none,()))) _ _
  rw[moveDown'_eq]
  refine wpS_bind (wpS_modify (wpS_pure ⟨rfl,hb.arr (bubble_perm _ _ _),?_⟩))
  rw[show min (k+1) n=k+1 by omega]
  exact up_move (by rw[hb.sz];omega) lk up below above
theorem run_sort(hA:Asks κ kd a0 prog w A E s){Q:Unit->SortSt->Prop}(h2:2<=a0.size)(h64:a0.size<64)(hB:SB kd a0 st)
 (fin:∀t,(arrOf t).Perm a0->failedOf t=none->Up κ t a0.size->Q () t):wpS (model prog w) A E s sortRuns' Q st:=by
 rw[sortRuns'_eq]
 refine wpS_bind (wpS_get ?_)
 dsimp only
 have hmr:minRun' a0.size a0.size 0=a0.size:=by
  match hq:a0.size,h2 with
  |f+1,_=>rw[minRun'_succ,if_pos (by omega)]
 simp only[hB.sz,hmr]
 refine wpS_bind (wpS_mono (wpS_forRange (I:=fun x c t=>(x=0/\c=(none,0)/\SB kd a0 t)\/(0<x/\c=(none,a0.size)/\(arrOf t).Perm a0/\failedOf t=none/\pendingOf t= #[(0,a0.size,0)]/\Up κ t a0.size))
  (Q:=fun c t=>c=(none,a0.size)/\(arrOf t).Perm a0/\failedOf t=none/\pendingOf t= #[(0,a0.size,0)]/\Up κ t a0.size) ?turn ?over (.inl ⟨rfl,rfl,hB⟩)) ?last)
 case turn=>
  rintro x c t g1 g2 (⟨rfl,rfl,hb⟩|⟨x0,rfl,rest⟩)
  . dsimp only
    rw[if_neg (by omega)]
    simp only[Nat.sub_zero,Nat.min_self,Nat.zero_add]
    have push:∀t':SortSt,SB kd a0 t'->Up κ t' a0.size->(arrOf (setPending t' ((pendingOf t').push (0,a0.size,0)))).Perm a0/\failedOf (setPending t' ((pendingOf t').push (0,a0.size,0)))=none/\pendingOf (setPending t' ((pendingOf t').push (0,a0.size,0)))= #[(0,a0.size,0)]/\Up κ (setPending t' ((pendingOf t').push (0,a0.size,0))) a0.size:=fun t' b u=>
     ⟨b.pm,b.ok,by show(pendingOf t').push _=_;rw[b.pd];rfl,u⟩
    refine wpS_bind (run_count hA (Nat.le_refl _) (by omega) hb fun m t2 hb2 m1 m2 up2=>?_)
    dsimp only
    by_cases few:m<a0.size
    . rw[if_pos few]
      refine wpS_bind (wpS_lift (wpAny_rule ⟨rfl,wpS_bind (run_ins hA (Nat.le_refl _) m2 hb2 up2 fun t3 hb3 up3=>?_)⟩))
      simp only[Bool.not_true,Bool.false_eq_true,if_false]
      refine wpS_bind (wpS_get ?_)
      rw[show(pendingOf t3).back? =none by rw[hb3.pd];rfl]
      dsimp only
      exact wpS_bind (wpS_modify (wpS_pure (.inr ⟨by omega,rfl,push t3 hb3 up3⟩)))
    . rw[if_neg few]
      obtain rfl:m=a0.size:=by omega
      refine wpS_bind (wpS_get ?_)
      rw[show(pendingOf t2).back? =none by rw[hb2.pd];rfl]
      dsimp only
      exact wpS_bind (wpS_modify (wpS_pure (.inr ⟨by omega,rfl,push t2 hb2 up2⟩)))
  . dsimp only
    rw[if_pos (Nat.le_refl _)]
    exact wpS_pure ⟨rfl,rest⟩
 case over=>
  rintro c t (⟨z,_⟩|⟨_,z⟩)
  . omega
  . exact z
 case last=>
  rintro c t ⟨e,p1,p2,p3,p4⟩
  subst e
  dsimp only
  refine wpS_bind (wpS_mono (wpS_forRange (I:=fun _ c t'=>t'=t/\c=(none,())) (Q:=fun c t'=>t'=t/\c=(none,())) ?one (fun _ _ q=>q) ⟨rfl,rfl⟩) ?two)
  case one=>
   rintro x c t' _ _ ⟨e1,e2⟩
   subst e1 e2
   refine wpS_bind (wpS_get ?_)
   rw[if_pos (by rw[p3];exact Nat.le_refl 1)]
   exact wpS_pure ⟨rfl,rfl⟩
  case two=>
   rintro c t' ⟨e1,e2⟩
   subst e1 e2
   exact wpS_pure (fin _ p1 p2 p4)
end
end Y
namespace Y
open PySem PySem.Spec PyProof.Rows L2 PySem.SeqAt
variable[Tabs]
structure Lin(P:D->Prop):Prop where
 ir:∀a,P a->dor .lt a a=false
 tr:∀a b c,P a->P b->P c->dor .lt a b=true->dor .lt b c=true->dor .lt a c=true
 tt:∀a b,P a->P b->dor .lt a b=false->dor .lt b a=false->a=b
 cm:∀a b,P a->P b->cmpb a b=true
 eq:∀a b,P a->P b->deq a b=true->a=b
def Fts:(Nat->D->Prop)->List D->Prop
 |_,[]=>True
 |P,d::ds=>P 0 d/\Fts (fun i=>P (i+1)) ds
theorem fits_all{P:D->Prop}:∀{ds:List D},(∀d∈ds,P d)->Fts (fun _=>P) ds
 |[],_=>trivial
 |d::ds,h=>⟨h d (by simp),fits_all fun x hx=>h x (by simp[hx])⟩
theorem fits_ir:∀{P:Nat->D->Prop},(∀i,Lin (P i))->∀ds,Fts P ds->dors .lt ds ds=false
 |P,L,[],_=>by simp[dors,Od.sz]
 |P,L,d::ds,h=>by
  unfold dors
  rw[deq_refl,if_pos rfl]
  exact fits_ir (fun i=>L (i+1)) ds h.2
theorem fits_eq:∀{P:Nat->D->Prop},(∀i,Lin (P i))->∀ds es,Fts P ds->Fts P es->deqs ds es=true->ds=es
 |P,L,[],[],_,_,_=>rfl
 |P,L,[],e::es,_,_,h=>by simp[deqs]at h
 |P,L,d::ds,[],_,_,h=>by simp[deqs]at h
 |P,L,d::ds,e::es,h1,h2,h=>by
  rw[deqs,Bool.and_eq_true]at h
  rw[(L 0).eq d e h1.1 h2.1 h.1,fits_eq (fun i=>L (i+1)) ds es h1.2 h2.2 h.2]
theorem fits_cm:∀{P:Nat->D->Prop},(∀i,Lin (P i))->∀ds es,Fts P ds->Fts P es->cmpbs ds es=true
 |P,L,[],es,_,_=>by simp[cmpbs]
 |P,L,d::ds,[],_,_=>by simp[cmpbs]
 |P,L,d::ds,e::es,h1,h2=>by
  rw[cmpbs,(L 0).cm d e h1.1 h2.1,fits_cm (fun i=>L (i+1)) ds es h1.2 h2.2];rfl
theorem fits_tt:∀{P:Nat->D->Prop},(∀i,Lin (P i))->∀ds es,Fts P ds->Fts P es->dors .lt ds es=false->dors .lt es ds=false->ds=es
 |P,L,[],[],_,_,_,_=>rfl
 |P,L,[],e::es,_,_,h,_=>by simp[dors,Od.sz]at h
 |P,L,d::ds,[],_,_,_,h=>by simp[dors,Od.sz]at h
 |P,L,d::ds,e::es,h1,h2,ha,hb=>by
  unfold dors at ha hb
  cases q:deq d e with
  |true=>
   obtain rfl:=(L 0).eq d e h1.1 h2.1 q
   rw[deq_refl,if_pos rfl]at ha hb
   rw[fits_tt (fun i=>L (i+1)) ds es h1.2 h2.2 ha hb]
  |false=>
   have q2:deq e d=false:=by
    cases z:deq e d with
    |false=>rfl
    |true=>obtain rfl:=(L 0).eq e d h2.1 h1.1 z;rw[deq_refl]at q;cases q
   rw[q]at ha;rw[q2]at hb
   rw[if_neg Bool.false_ne_true]at ha hb
   obtain rfl:=(L 0).tt d e h1.1 h2.1 ha hb
   rw[deq_refl]at q;cases q
theorem fits_tr:∀{P:Nat->D->Prop},(∀i,Lin (P i))->∀ds es fs,Fts P ds->Fts P es->Fts P fs->dors .lt ds es=true->dors .lt es fs=true->dors .lt ds fs=true
 |P,L,ds,[],fs,_,_,_,h,_=>by cases ds<;>simp[dors,Od.sz]at h
 |P,L,ds,e::es,[],_,_,_,_,h=>by simp[dors,Od.sz]at h
 |P,L,[],e::es,f::fs,_,_,_,_,_=>by simp[dors,Od.sz]
 |P,L,d::ds,e::es,f::fs,h1,h2,h3,ha,hb=>by
  unfold dors at ha hb⊢
  have no:∀{x y:D},P 0 x->P 0 y->dor .lt x y=true->deq x y=false:=fun{x y} px py lt=>by
   cases z:deq x y with
   |false=>rfl
   |true=>obtain rfl:=(L 0).eq x y px py z;rw[(L 0).ir x px]at lt;cases lt
  cases q:deq d e with
  |true=>
   obtain rfl:=(L 0).eq d e h1.1 h2.1 q
   rw[q,if_pos rfl]at ha
   cases q2:deq d f with
   |true=>
    rw[q2,if_pos rfl]at hb
    rw[if_pos rfl]
    exact fits_tr (fun i=>L (i+1)) ds es fs h1.2 h2.2 h3.2 ha hb
   |false=>rw[q2]at hb;exact hb
  |false=>
   rw[q,if_neg Bool.false_ne_true]at ha
   cases q2:deq e f with
   |true=>
    obtain rfl:=(L 0).eq e f h2.1 h3.1 q2
    rw[q,if_neg Bool.false_ne_true]
    exact ha
   |false=>
    rw[q2,if_neg Bool.false_ne_true]at hb
    have lt:=(L 0).tr d e f h1.1 h2.1 h3.1 ha hb
    rw[no h1.1 h3.1 lt,if_neg Bool.false_ne_true]
    exact lt
def isInt(d:D):Prop:=∃i,d=.int i
def isStr(d:D):Prop:=∃x,d=.str x
def isLst(P:D->Prop)(d:D):Prop:=∃ds,d=.lst ds/\Fts (fun _=>P) ds
def isTup(P:Nat->D->Prop)(d:D):Prop:=∃ds,d=.tup ds/\Fts P ds
def pr2(A B:D->Prop):Nat->D->Prop
 |0=>A
 |_+1=>B
theorem lin_int:Lin isInt where
 ir:=by rintro _ ⟨i,rfl⟩;simp[dor,Od.int]
 tr:=by rintro _ _ _ ⟨i,rfl⟩ ⟨j,rfl⟩ ⟨k,rfl⟩ a b;simp[dor,Od.int]at*;omega
 tt:=by rintro _ _ ⟨i,rfl⟩ ⟨j,rfl⟩ a b;simp[dor,Od.int]at*;omega
 cm:=by rintro _ _ ⟨i,rfl⟩ ⟨j,rfl⟩;rfl
 eq:=by rintro _ _ ⟨i,rfl⟩ ⟨j,rfl⟩ a;simpa[deq]using a
theorem lin_str:Lin isStr where
 ir:=by
  rintro _ ⟨i,rfl⟩
  have h:¬cl i<cl i:=List.lt_irrefl _
  simp[dor,Od.str,h]
 tr:=by
  rintro _ _ _ ⟨i,rfl⟩ ⟨j,rfl⟩ ⟨k,rfl⟩ a b
  simp only[dor,Od.str,decide_eq_true_eq]at*
  exact List.lt_trans a b
 tt:=by
  rintro _ _ ⟨i,rfl⟩ ⟨j,rfl⟩ a b
  simp only[dor,Od.str,decide_eq_false_iff_not]at*
  rw[cl_inj (List.le_antisymm (List.not_lt.mp b) (List.not_lt.mp a))]
 cm:=by rintro _ _ ⟨i,rfl⟩ ⟨j,rfl⟩;rfl
 eq:=by rintro _ _ ⟨i,rfl⟩ ⟨j,rfl⟩ a;simpa[deq]using a
theorem lin_lst{P:D->Prop}(L:Lin P):Lin (isLst P) where
 ir:=by rintro _ ⟨i,rfl,h⟩;simp only[dor];exact fits_ir (fun _=>L) _ h
 tr:=by rintro _ _ _ ⟨i,rfl,h1⟩ ⟨j,rfl,h2⟩ ⟨k,rfl,h3⟩ a b;simp only[dor]at*;exact fits_tr (fun _=>L) _ _ _ h1 h2 h3 a b
 tt:=by rintro _ _ ⟨i,rfl,h1⟩ ⟨j,rfl,h2⟩ a b;simp only[dor]at*;rw[fits_tt (fun _=>L) _ _ h1 h2 a b]
 cm:=by rintro _ _ ⟨i,rfl,h1⟩ ⟨j,rfl,h2⟩;simp only[cmpb];exact fits_cm (fun _=>L) _ _ h1 h2
 eq:=by rintro _ _ ⟨i,rfl,h1⟩ ⟨j,rfl,h2⟩ a;simp only[deq]at a;rw[fits_eq (fun _=>L) _ _ h1 h2 a]
theorem lin_tup{P:Nat->D->Prop}(L:∀i,Lin (P i)):Lin (isTup P) where
 ir:=by rintro _ ⟨i,rfl,h⟩;simp only[dor];exact fits_ir L _ h
 tr:=by rintro _ _ _ ⟨i,rfl,h1⟩ ⟨j,rfl,h2⟩ ⟨k,rfl,h3⟩ a b;simp only[dor]at*;exact fits_tr L _ _ _ h1 h2 h3 a b
 tt:=by rintro _ _ ⟨i,rfl,h1⟩ ⟨j,rfl,h2⟩ a b;simp only[dor]at*;rw[fits_tt L _ _ h1 h2 a b]
 cm:=by rintro _ _ ⟨i,rfl,h1⟩ ⟨j,rfl,h2⟩;simp only[cmpb];exact fits_cm L _ _ h1 h2
 eq:=by rintro _ _ ⟨i,rfl,h1⟩ ⟨j,rfl,h2⟩ a;simp only[deq]at a;rw[fits_eq L _ _ h1 h2 a]
theorem lin_pr2{A B:D->Prop}(a:Lin A)(b:Lin B):∀i,Lin (pr2 A B i)
 |0=>a
 |_+1=>b
section
variable{X:Cx}{pins:List (Addr×Obj)}{σ:St}{H:Hp}{s:Shared}{Z Z':Zone}
theorem in_one(I:Inv X pins σ H s):∀(n:Nat) {d d':D} {v:V},d.dep<=n->In X.K H Z d v->In X.K H Z' d' v->d=d':=fun _ _ _ _ _ i i'=>In.inj I i i'
def Tells(K:PySem.W.Frag)(H:Hp)(Z:Zone)(u:Value)(d:D):Prop:=∃v,RelV v u/\In K H Z d v
theorem Tells.one(I:Inv X pins σ H s){u:Value}{d d':D}(a:Tells X.K H Z u d)(b:Tells X.K H Z' u d'):d=d':=by
 obtain⟨v,r,i⟩:=a
 obtain⟨v',r',i'⟩:=b
 cases r.inj r'
 exact in_one I d.dep (Nat.le_refl _) i i'
end
def OneL(b:Bool)(A:Around)(s:Shared)(x y:Value)(r:Bool):Prop:=
 ∀(prog:Program) (w:World) (E:Value->Shared->Prop) (Q:Bool->Shared->Prop),Q r s->wpAny (model prog w) A (oneLt' b x y) Q E s
def KeyL(kd:SortKind)(A:Around)(s:Shared)(x y:Value)(r:Bool):Prop:=
 ∀(prog:Program) (w:World) (E:Value->Shared->Prop) (Q:Bool->Shared->Prop),Q r s->wpAny (model prog w) A (keyLt' kd x y) Q E s
section
variable{X:Cx}{pins:List (Addr×Obj)}{σ:St}{H:Hp}{s:Shared}{Z Z':Zone}{A:Around}
theorem oneL_ro{x y:Value}{r:Bool}(h:RoAt .Lt A s x y r):OneL false A s x y r:=fun prog w E Q q=>by
 rw[oneLt'_eq]
 simp only[Bool.false_eq_true,if_false]
 exact wpAny_bind (h prog w E _ (wpAny_truthy_bool q))
theorem oneL_list{l b:Addr}{its its2:Array Value}{e r:Nat->Bool}(hl:s.heap.IsList l its)(hb:s.heap.IsList b its2)(hu:A.units<cLine)
 (he:∀j (h1:j<its.size) (h2:j<its2.size),EqAt A.in1 s its[j] its2[j] (e j))(ho:∀j (h1:j<its.size) (h2:j<its2.size),e j=false->RoAt .Lt A.in1 s its[j] its2[j] (r j)):
 OneL true A s (.ref l) (.ref b) (walkB e r (decide (its.size<its2.size)) (List.range (min its.size its2.size))):=fun prog w E Q h=>by
 obtain⟨⟨cls,dd,data,sl⟩,g1,hc,n,hd⟩:=id hl
 obtain⟨⟨cls2,dd2,data2,sl2⟩,g2,hc2,n2,hd2⟩:=id hb
 simp only at hc hd hc2 hd2
 subst hc hd hc2 hd2
 rw[oneLt'_eq]
 simp only[if_true]
 refine wpAny_bind (wpAny_cRoomFor hu ?_)
 refine wpAny_bind (wpAny_callSpecialIfBound?_slot (T:="list") ⟨_,g1,rfl⟩ F.slot_list_lt (call_meets F.slot_list_lt ⟨_,g1,rfl⟩ F.entry_list_lt (F.args_list_lt_2 _ _) (listLt l b its its2 n n2 dd dd2 sl sl2 e r) ⟨g1,g2,he,ho,?_⟩))
 exact wpAny_truthy_bool h
def plainK:D->Bool
 |.int _=>true
 |.str _=>true
 |.lst _=>true
 |_=>false
theorem oneL_D(b:Bool)(I:Inv X pins σ H s){d d':D}{u u':Value}(t:Tells X.K H Z u d)(t':Tells X.K H Z' u' d')(hc:cmpb d d'=true)(hp:plainK d=true)(hu:A.units+d.dep<cLine):OneL b A s u u' (dor .lt d d'):=by
 obtain⟨v,r,i⟩:=t
 obtain⟨v',r',i'⟩:=t'
 cases b with
 |false=>exact oneL_ro (roAt_D .lt I d.dep i i' r r' hc (Nat.le_refl _) hu)
 |true=>
  cases d with
  |int x=>
   cases d'<;>simp[cmpb]at hc
   cases in_int.mp i
   cases in_int.mp i'
   obtain⟨t,rfl⟩:=r
   obtain⟨t',rfl⟩:=r'
   simp only[dor]
   exact fun prog w E Q q=>oneLt_int q
  |str x=>
   cases d'<;>simp[cmpb]at hc
   cases in_str.mp i
   cases in_str.mp i'
   obtain⟨t,rfl⟩:=r
   obtain⟨t',rfl⟩:=r'
   simp only[dor]
   exact fun prog w E Q q=>oneLt_str q
  |lst ds=>
   cases d' with
   |lst es=>
    have hcs:cmpbs ds es=true:=by simpa[cmpb]using hc
    have hu':A.units+(deps ds+1)<cLine:=by unfold D.dep at hu;exact hu
    have hu1:A.in1.units+deps ds<cLine:=by show A.units+1+deps ds<cLine;omega
    obtain⟨a,xs,rfl,l,j⟩:=in_lst.mp i
    obtain⟨a',ys,rfl,l',j'⟩:=in_lst.mp i'
    cases r
    cases r'
    obtain⟨its,rx,pl,_⟩:=I.list l.sq
    obtain⟨its2,ry,pl2,_⟩:=I.list l'.sq
    have z1:=j.length;have z2:=j'.length;have z3:=rx.length;have z4:=ry.length
    have both:∀k (h1:k<its.toArray.size) (h2:k<its2.toArray.size),EqAt A.in1 s its.toArray[k] its2.toArray[k] (deq (ds.getD k .non) (es.getD k .non))/\RoAt .Lt A.in1 s its.toArray[k] its2.toArray[k] (dor .lt (ds.getD k .non) (es.getD k .non)):=fun k h1 h2=>by
     simp at h1 h2
     have k1:k<ds.length:=by omega
     have k2:k<es.length:=by omega
     obtain⟨x,ex,ix⟩:=j.get (i:=k) (d:=ds[k]) (by simp[k1])
     obtain⟨y,ey,iy⟩:=j'.get (i:=k) (d:=es[k]) (by simp[k2])
     obtain⟨w1,f1,q1⟩:=rx.get ex
     obtain⟨w2,f2,q2⟩:=ry.get ey
     have g1:its.toArray[k]=w1:=by
      have t:=(List.getElem?_eq_some_iff.mp f1).2
      simpa using t
     have g2:its2.toArray[k]=w2:=by
      have t:=(List.getElem?_eq_some_iff.mp f2).2
      simpa using t
     have hck:=cmpbs_at ds es hcs k k1 k2
     have e1:ds.getD k .non=ds[k]:=by simp[k1]
     have e2:es.getD k .non=es[k]:=by simp[k2]
     rw[e1,e2]at hck⊢
     rw[g1,g2]
     have hdk:=deps_mem (getElem_mem k1)
     exact⟨eqAt_D I _ ix iy q1 q2 hdk hu1,roAt_D .lt I _ ix iy q1 q2 hck hdk hu1⟩
    have key:=oneL_list (A:=A) (e:=fun k=>deq (ds.getD k .non) (es.getD k .non)) (r:=fun k=>dor .lt (ds.getD k .non) (es.getD k .non)) pl.isList pl2.isList (by omega) (fun k h1 h2=>(both k h1 h2).1) (fun k h1 h2 _=>(both k h1 h2).2)
    have e1:its.toArray.size=ds.length:=by simp;omega
    have e2:its2.toArray.size=es.length:=by simp;omega
    rw[e1,e2]at key
    have key2:=walk_dors .lt ds es
    simp only[Od.sz]at key2
    rw[key2]at key
    simpa only[dor]using key
   |_=>simp[cmpb]at hc
  |_=>simp[plainK]at hp
inductive Cmps(A:Around)(s:Shared)(b:Bool):Nat->List Value->List Value->List D->List D->Prop
 |nil {n:Nat} {us ws:List Value} {ds es:List D} (h:us.zip ws=[]) (g:us.length=ds.length) (g2:ws.length=es.length):Cmps A s b n us ws ds es
 |cons {n:Nat} {u w:Value} {us ws:List Value} {d e:D} {ds es:List D} (h:EqAt A s u w (deq d e)) (o:deq d e=false->OneL (b&&n==0) A s u w (dor .lt d e)) (t:Cmps A s b (n+1) us ws ds es):Cmps A s b n (u::us) (w::ws) (d::ds) (e::es)
theorem keyL_walk{b:Bool}{x y:Addr}{us ws:List Value}{ds es:List D}(hx:s.heap.IsTuple x us.toArray)(hy:s.heap.IsTuple y ws.toArray)(c:Cmps A s b 0 us ws ds es)(l1:us.length=ds.length)(l2:ws.length=es.length):KeyL (tuples' b) A s (.ref x) (.ref y) (dors .lt ds es):=by
 intro prog w E Q q
 obtain⟨o,h1,h2,n1,h3⟩:=hx
 obtain⟨o',h1',h2',n1',h3'⟩:=hy
 show wpAny _ _ (do
  let xs<-Builtin.List.listItems (.ref x);let ys<-Builtin.List.listItems (.ref y)
  for ((p,q),i) in (xs.toList.zip ys.toList).zipIdx do
   if !(<-eqBool p q)then return<-oneLt' (b&&i==0) p q
  return decide (xs.size<ys.size)) _ _ _
 refine wpAny_bind (listItems_at h1 h3 ?_)
 refine wpAny_bind (listItems_at h1' h3' ?_)
 have walk:∀{n:Nat} {us' ws':List Value} {ds' es':List D},Cmps A s b n us' ws' ds' es'->∀(R:Option Bool×PUnit->Shared->Prop),
  (∀r,(r=none->dors .lt ds' es'=decide (us'.length<ws'.length))->(∀v,r=some v->v=dors .lt ds' es')->R (r,⟨⟩) s)->
  wpAny (model prog w) A (forIn ((us'.zip ws').zipIdx n) ((none,⟨⟩):Option Bool×PUnit) fun x c=>do
   let r<-eqBool x.1.1 x.1.2
   if(!r)=true then do let z<-oneLt' (b&&x.2==0) x.1.1 x.1.2;pure (ForInStep.done (some z,⟨⟩))else pure (ForInStep.yield (none,⟨⟩))) R E s:=by
  intro n us' ws' ds' es' c
  induction c with
  |nil h g g2=>
   intro R k
   rw[h]
   refine wpAny_pure (k none (fun z0=>?_) (fun v e=>nomatch e))
   rename_i us' ws' ds' es'
   cases us' with
   |nil=>
    cases ds' with
    |nil=>simp[dors,Od.sz,g2]
    |cons _ _=>simp at g
   |cons _ _=>
    cases ws' with
    |cons _ _=>simp at h
    |nil=>
     cases es' with
     |cons _ _=>simp at g2
     |nil=>
      cases ds' with
      |nil=>simp[dors,Od.sz]
      |cons _ _=>simp[dors,Od.sz]
  |cons h o t ih=>
   intro R k
   rename_i n' u w' us2 ws2 d e ds2 es2
   simp only[List.zip_cons_cons,List.zipIdx_cons,List.forIn_cons]
   refine wpAny_bind (wpAny_bind (h prog w E _ ?_))
   cases hq:deq d e with
   |true=>
    simp only[Bool.not_true,Bool.false_eq_true,if_false]
    refine wpAny_pure ?_
    dsimp only
    refine ih R fun r a1 a2=>k r (fun z=>?_) (fun v z=>?_)
    . rw[dors,hq,if_pos rfl,a1 z];simp
    . rw[dors,hq,if_pos rfl];exact a2 v z
   |false=>
    simp only[Bool.not_false,if_true]
    refine wpAny_bind (o hq prog w E _ (wpAny_pure ?_))
    dsimp only
    refine wpAny_pure (k _ (fun z=>nomatch z) fun v z=>?_)
    cases z
    rw[dors,hq,if_neg Bool.false_ne_true]
 refine wpAny_bind (walk c _ fun r a1 a2=>?_)
 cases r with
 |none=>
  dsimp only
  refine wpAny_pure ?_
  rw[a1 rfl]at q
  simpa using q
 |some v=>
  dsimp only
  refine wpAny_pure ?_
  rw[a2 v rfl];exact q
end
section
variable{X:Cx}{pins:List (Addr×Obj)}{σ:St}{H:Hp}{s:Shared}{Z Z':Zone}{A:Around}
theorem keyL_tail(I:Inv X pins σ H s){b:Bool}:∀{ds es:List D} {xs ys:List V} {us ws:List Value} (n:Nat),Ins X.K H Z ds xs->Ins X.K H Z' es ys->Vals xs us->Vals ys ws->cmpbs ds es=true->(n=0->b=true->∀d r,ds=d::r->plainK d=true)->A.units+deps ds<cLine->Cmps A s b n us ws ds es:=by
 intro ds
 induction ds with
 |nil=>
  intro es xs ys us ws n j j' r r' _ _ _
  have z1:=j.length;have z2:=j'.length;have z3:=r.length;have z4:=r'.length
  have u0:us=[]:=List.length_eq_zero_iff.mp (by simp at z1;omega)
  subst u0
  exact .nil rfl rfl (by omega)
 |cons d ds ih=>
  intro es xs ys us ws n j j' r r' hc hp hu
  cases es with
  |nil=>
   have z1:=j.length;have z2:=j'.length;have z3:=r.length;have z4:=r'.length
   have u0:ws=[]:=List.length_eq_zero_iff.mp (by simp at z2;omega)
   subst u0
   exact .nil (by simp) (by omega) rfl
  |cons e es=>
   obtain⟨x,xs',rfl,i,j⟩:=ins_cons.mp j
   obtain⟨y,ys',rfl,i',j'⟩:=ins_cons.mp j'
   cases r with
   |cons q r=>
   cases r' with
   |cons q' r'=>
   rw[cmpbs,Bool.and_eq_true]at hc
   have hm:A.units+max d.dep (deps ds)<cLine:=by unfold deps at hu;exact hu
   refine .cons (eqAt_D I _ i i' q q' (Nat.le_refl _) (by omega)) (fun _=>?_) (ih (n+1) j j' r r' hc.2 (fun z=>by omega) (by omega))
   cases n with
   |succ n=>
    have e:(b&&n+1==0)=false:=by cases b<;>simp
    rw[e]
    exact oneL_ro (roAt_D .lt I _ i i' q q' hc.1 (Nat.le_refl _) (by omega))
   |zero=>
    cases b with
    |false=>exact oneL_ro (roAt_D .lt I _ i i' q q' hc.1 (Nat.le_refl _) (by omega))
    |true=>exact oneL_D true I ⟨_,q,i⟩ ⟨_,q',i'⟩ hc.1 (hp rfl rfl d ds rfl) (by omega)
theorem keyL_D{b:Bool}(I:Inv X pins σ H s){ds es:List D}{u u':Value}(t:Tells X.K H Z u (.tup ds))(t':Tells X.K H Z' u' (.tup es))(hc:cmpb (.tup ds) (.tup es)=true)(hp:b=true->∀d r,ds=d::r->plainK d=true)(hu:A.units+deps ds<cLine):KeyL (tuples' b) A s u u' (dor .lt (.tup ds) (.tup es)):=by
 obtain⟨v,r,i⟩:=t
 obtain⟨v',r',i'⟩:=t'
 obtain⟨a,xs,rfl,l,j⟩:=in_tupS i
 obtain⟨a',ys,rfl,l',j'⟩:=in_tupS i'
 cases r
 cases r'
 obtain⟨its,rx,pl,_⟩:=I.tuple l
 obtain⟨its2,ry,pl2,_⟩:=I.tuple l'
 have z1:=j.length;have z2:=j'.length;have z3:=rx.length;have z4:=ry.length
 simp only[dor]
 exact keyL_walk pl pl2 (keyL_tail I 0 j j' rx ry (by simpa[cmpb]using hc) (fun _=>hp) hu) (by omega) (by omega)
theorem keyL_one(I:Inv X pins σ H s){d d':D}{u u':Value}(t:Tells X.K H Z u d)(t':Tells X.K H Z' u' d')(hc:cmpb d d'=true)(hp:plainK d=true)(hu:A.units+d.dep<cLine):KeyL oneType' A s u u' (dor .lt d d'):=fun prog w E Q q=>by
 rw[keyLt'_oneType]
 exact oneL_D true I t t' hc hp hu prog w E Q q
def tyD:D->String
 |.int _=>"int"
 |.str _=>"str"
 |.lst _=>"list"
 |_=>"tuple"
theorem ty_D(I:Inv X pins σ H s){d:D}{u:Value}(t:Tells X.K H Z u d)(hp:plainK d=true\/ ∃ds,d=.tup ds):s.TypeIs u (tyD d):=by
  obtain⟨v,r,i⟩:=t
  cases d with
  | dct x => rcases hp with h|⟨_,h⟩
             . exact absurd h (by simp[plainK])
             . cases h
  |agg s x=>exact absurd i in_agg
  | ktup x => rcases hp with h|⟨_,h⟩
              . exact absurd h (by simp[plainK])
              . cases h
  |int x=>cases in_int.mp i;obtain⟨t,rfl⟩:=r;exact typeIs_int s x t
  |str x=>cases in_str.mp i;obtain⟨t,rfl⟩:=r;exact typeIs_str s x t
  | lst ds=>
    obtain⟨a,xs,rfl,l,j⟩:=in_lst.mp i
    cases r
    obtain⟨its,rx,pl,_⟩:=I.list l.sq
    obtain⟨o,h1,h2,n1,h3⟩:=pl.isList
    exact⟨o,h1,h2⟩
  | tup ds=>
    obtain⟨a,xs,rfl,l,j⟩:=in_tupS i
    cases r
    obtain⟨its,rx,pl,_⟩:=I.tuple l
    obtain⟨o,h1,h2,n1,h3⟩:=pl
    exact⟨o,h1,h2⟩
  |non=>simp[plainK]at hp
  |bl _=>simp[plainK]at hp
variable{M:Model}{E:Value->Shared->Prop}
theorem mapM_ex{α β:Type}{f:α->Sem β}{P:β->Prop}:∀(l:List α) {Q:List β->Shared->Prop},(∀x∈l,∃y,P y/\ ∀Q':β->Shared->Prop,Q' y s->wpAny M A (f x) Q' E s)->(∀ys:List β,ys.length=l.length->(∀y∈ys,P y)->Q ys s)->wpAny M A (l.mapM f) Q E s
 |[],Q,h,k=>by rw[List.mapM_nil];exact wpAny_pure (k [] rfl (by simp))
 |x::l,Q,h,k=>by
  obtain⟨y,p,w⟩:=h x (by simp)
  rw[List.mapM_cons]
  refine wpAny_bind (w _ (wpAny_bind (mapM_ex l (fun z hz=>h z (by simp[hz])) fun ys e ps=>wpAny_pure (k (y::ys) (by simp[e]) fun z hz=>?_))))
  rcases mem_cons.mp hz with rfl|hz
  . exact p
  . exact ps z hz
theorem oneType_ok{T:String}{vs:List Value}{Q:Option Value->Shared->Prop}(hT:(Value.type T==Value.type T)=true)(h:∀v∈vs,s.TypeIs v T)(h0:vs≠[])(q:Q (some (.type T)) s):wpAny M A (oneTypeOnly' vs.toArray) Q E s:=by
 rw[oneTypeOnly'_eq,List.mapM_toArray]
 refine wpAny_bind ?_
 rw[map_eq_pure_bind]
 refine wpAny_bind (mapM_ex (P:=fun y=>y=Value.type T) vs (fun v hv=>⟨_,rfl,fun Q' z=>wpAny_typeOf (h v hv) z⟩) fun ys e ps=>wpAny_pure ?_)
 cases ys with
 |nil=>exact absurd (List.length_eq_zero_iff.mp e.symm) h0
 |cons y ys=>
  obtain rfl:=ps y (by simp)
  have all:(Value.type T::ys).toArray.all (fun x=>x==Value.type T)=true:=by
   simp only[List.all_toArray,List.all_eq_true]
   intro z hz
   rw[ps z hz];exact hT
  have e0:(Value.type T::ys).toArray[0]? =some (Value.type T):=by simp
  rw[e0]
  dsimp only
  rw[all,if_pos rfl]
  exact wpAny_pure q
theorem kind_tup{T:String}{us:List Value}{Q:SortKind->Shared->Prop}(hT:(Value.type T==Value.type T)=true)(hn:(Value.type T !=Value.type "tuple")=true)(h0:us≠[])
 (h:∀u∈us,∃a x its,u=.ref a/\s.heap.IsTuple a (x::its).toArray/\s.TypeIs x T)(q:Q (tuples' true) s):wpAny M A (keyKind' us.toArray) Q E s:=by
 rw[keyKind'_eq,List.mapM_toArray]
 refine wpAny_bind ?_
 rw[map_eq_pure_bind]
 refine wpAny_bind (mapM_ex (P:=fun y=>∃x,y=some x/\s.TypeIs x T) us (fun u hu=>?_) fun ys e ps=>wpAny_pure ?_)
 . obtain⟨a,x,its,rfl,⟨o,h1,h2,n1,h3⟩,tx⟩:=h u hu
   refine⟨some x,⟨x,rfl,tx⟩,fun Q' z=>?_⟩
   show wpAny _ _ (do
    if(<-typeOf (.ref a)) !=.type "tuple" then return none
    return (<-Builtin.List.listItems (.ref a))[0]?) _ _ _
   refine wpAny_bind (wpAny_typeOf (T:="tuple") ⟨o,h1,h2⟩ ?_)
   have e:(Value.type "tuple" !=Value.type "tuple")=false:=by rfl
   rw[e,if_neg Bool.false_ne_true]
   refine wpAny_bind (listItems_at h1 h3 (wpAny_pure ?_))
   simpa using z
 . have all:ys.toArray.all (fun x=>x.isSome)=true:=by
    simp only[List.all_toArray,List.all_eq_true]
    intro z hz
    obtain⟨x,rfl,_⟩:=ps z hz;rfl
   rw[all,if_pos rfl]
   refine wpAny_bind (wpAny_rule ?_)
   have e2:ys.toArray.filterMap id=(ys.filterMap id).toArray:=by simp
   rw[e2]
   refine wpAny_bind (oneType_ok (T:=T) hT (fun v hv=>?_) ?_ ?_)
   . obtain⟨y,hy,e⟩:=List.mem_filterMap.mp hv
     obtain⟨x,rfl,tx⟩:=ps y hy
     cases e
     exact tx
   . cases ys with
     |nil=>exact absurd (List.length_eq_zero_iff.mp e.symm) h0
     |cons y ys=>obtain⟨x,rfl,_⟩:=ps y (by simp);simp
   . simp only[Option.any_some,hn]
     exact wpAny_pure q
theorem kind_one{T:String}{us:List Value}{Q:SortKind->Shared->Prop}(hT:(Value.type T==Value.type T)=true)(hn:(Value.type T !=Value.type "tuple")=true)(h0:us≠[])
 (h:∀u∈us,s.TypeIs u T)(q:Q oneType' s):wpAny M A (keyKind' us.toArray) Q E s:=by
 rw[keyKind'_eq,List.mapM_toArray]
 refine wpAny_bind ?_
 rw[map_eq_pure_bind]
 refine wpAny_bind (mapM_ex (P:=fun y=>y=(none:Option Value)) us (fun u hu=>⟨none,rfl,fun Q' z=>?_⟩) fun ys e ps=>wpAny_pure ?_)
 . show wpAny _ _ (do
    if(<-typeOf u) !=.type "tuple" then return none
    return (<-Builtin.List.listItems u)[0]?) _ _ _
   refine wpAny_bind (wpAny_typeOf (h u hu) ?_)
   rw[hn,if_pos rfl]
   exact wpAny_pure z
 . cases ys with
   |nil=>exact absurd (List.length_eq_zero_iff.mp e.symm) h0
   |cons y ys=>
    obtain rfl:=ps y (by simp)
    rw[if_neg (by simp),if_neg (by simp)]
    refine wpAny_bind (oneType_ok hT h h0 ?_)
    exact wpAny_pure q
end
inductive KindOf(P:D->Prop):SortKind->Prop
 |one (T:String) (hT:T="int"\/T="str"\/T="list") (h:∀d,P d->plainK d=true/\tyD d=T):KindOf P oneType'
 |tup (T:String) (hT:T="int"\/T="str"\/T="list") (h:∀d,P d->∃x r,d=.tup (x::r)/\plainK x=true/\tyD x=T):KindOf P (tuples' true)
theorem ty_ok{T:String}(hT:T="int"\/T="str"\/T="list"):(Value.type T==Value.type T)=true/\(Value.type T !=Value.type "tuple")=true:=by
 rcases hT with rfl|rfl|rfl<;>exact⟨rfl,by decide⟩
section
variable{X:Cx}{pins:List (Addr×Obj)}{σ:St}{H:Hp}{s:Shared}{Z Z':Zone}{A:Around}{P:D->Prop}{kd:SortKind}{M:Model}{E:Value->Shared->Prop}
theorem kind_ok(k:KindOf P kd)(I:Inv X pins σ H s){us:List Value}{Q:SortKind->Shared->Prop}(h:∀u∈us,∃d,P d/\Tells X.K H Z u d)(h0:us≠[])(q:Q kd s):wpAny M A (keyKind' us.toArray) Q E s:=by
 cases k with
 |one T hT hp=>
  refine kind_one (ty_ok hT).1 (ty_ok hT).2 h0 (fun u hu=>?_) q
  obtain⟨d,pd,t⟩:=h u hu
  rw[<-(hp d pd).2]
  exact ty_D I t (.inl (hp d pd).1)
 |tup T hT hp=>
  refine kind_tup (ty_ok hT).1 (ty_ok hT).2 h0 (fun u hu=>?_) q
  obtain⟨d,pd,v,r,i⟩:=h u hu
  obtain⟨x,ds,rfl,px,tx⟩:=hp d pd
  obtain⟨a,xs,rfl,l,j⟩:=in_tupS i
  cases r
  obtain⟨y,ys,rfl,iy,j⟩:=ins_cons.mp j
  obtain⟨its,rx,pl,_⟩:=I.tuple l
  cases rx with
  |cons q rx=>exact⟨a,_,_,rfl,pl,tx▸ty_D I ⟨_,q,iy⟩ (.inl px)⟩
theorem keyL_ok(k:KindOf P kd)(L:Lin P)(I:Inv X pins σ H s){u u':Value}{d d':D}(t:Tells X.K H Z u d)(t':Tells X.K H Z' u' d')(p:P d)(p':P d')(hu:A.units+d.dep<cLine):KeyL kd A s u u' (dor .lt d d'):=by
 have hc:=L.cm d d' p p'
 cases k with
 |one T hT hp=>exact keyL_one I t t' hc (hp d p).1 hu
 |tup T hT hp=>
  obtain⟨x,ds,rfl,px,tx⟩:=hp d p
  obtain⟨x',ds',rfl,px',tx'⟩:=hp d' p'
  refine keyL_D I t t' hc (fun _ y r e=>by cases e;exact px) ?_
  unfold D.dep at hu
  omega
open Classical in
noncomputable def kap(K:PySem.W.Frag)(H:Hp)(Z:Zone)(P:D->Prop)(L:Lin P)(d0:{d//P d}):PyProof.Rows.KeyKind where
 α:={d//P d}
 blt a b:=dor .lt a.1 b.1
 irrefl a:=L.ir a.1 a.2
 trans a b c:=L.tr a.1 b.1 c.1 a.2 b.2 c.2
 negTrans a b c h:=by
  cases q:dor .lt a.1 b.1 with
  |true=>exact .inl rfl
  |false=>
   refine .inr ?_
   cases q2:dor .lt b.1 a.1 with
   |true=>exact L.tr b.1 a.1 c.1 b.2 a.2 c.2 q2 h
   |false=>rw[<-L.tt a.1 b.1 a.2 b.2 q q2];exact h
 total a b h1 h2:=Subtype.ext (L.tt a.1 b.1 a.2 b.2 h1 h2)
 keyOf u:=if h:∃d:{d//P d},Tells K H Z u d.1 then some (Classical.choose h)else none
 dflt:=d0
theorem kap_key(I:Inv X pins σ H s)(L:Lin P){d0:{d//P d}}{u:Value}{d:D}(p:P d)(t:Tells X.K H Z u d):(kap X.K H Z P L d0).keyOf u=some ⟨d,p⟩:=by
 have h:∃d:{d//P d},Tells X.K H Z u d.1:=⟨⟨d,p⟩,t⟩
 unfold kap
 dsimp only
 rw[dif_pos h]
 exact congrArg some (Subtype.ext (Tells.one I (Classical.choose_spec h) t))
theorem asks_ok(k:KindOf P kd)(L:Lin P)(I:Inv X pins σ H s){d0:{d//P d}}{a0:Array Keyed}{w:World}{prog:Program}(h:∀p∈a0.toList,∃d,P d/\Tells X.K H Z p.1 d/\A.units+d.dep<cLine):Asks (kap X.K H Z P L d0) kd a0 prog w A E s:=by
 intro st i j Q hB hi hj q
 rw[ltAt'_eq]
 refine wpS_bind (wpS_get ?_)
 show wpS _ _ _ _ (do let x<-elem' (arrOf st) i;let y<-elem' (arrOf st) j;lt' x y) Q st
 have hi':i<(arrOf st).size:=by rw[hB.sz];exact hi
 have hj':j<(arrOf st).size:=by rw[hB.sz];exact hj
 have mem:∀n (hn:n<(arrOf st).size),(arrOf st)[n]∈a0.toList:=fun n hn=>(Array.perm_iff_toList_perm.mp hB.pm).mem_iff.mp (by simp)
 obtain⟨d,p,t,hu⟩:=h _ (mem i hi')
 obtain⟨d',p',t',_⟩:=h _ (mem j hj')
 have e1:ky (kap X.K H Z P L d0) st i=⟨d,p⟩:=by
  show KK _ (arrOf st) i=_
  unfold KK
  rw[getElem?_pos (arrOf st) i hi']
  show((kap X.K H Z P L d0).keyOf (arrOf st)[i].1).getD _=_
  rw[kap_key I L p t];rfl
 have e2:ky (kap X.K H Z P L d0) st j=⟨d',p'⟩:=by
  show KK _ (arrOf st) j=_
  unfold KK
  rw[getElem?_pos (arrOf st) j hj']
  show((kap X.K H Z P L d0).keyOf (arrOf st)[j].1).getD _=_
  rw[kap_key I L p' t'];rfl
 rw[e1,e2]at q
 rw[elem'_eq,elem'_eq,getElem?_pos (arrOf st) i hi',getElem?_pos (arrOf st) j hj']
 refine wpS_bind (wpS_pure (wpS_bind (wpS_pure ?_)))
 rw[lt'_eq]
 refine wpS_bind (wpS_get ?_)
 rw[hB.kd]
 refine wpS_bind (wpS_lift (wpAny_attempt (keyL_ok k L I t t' p p' hu prog w _ _ ⟨rfl,?_⟩)))
 exact wpS_pure q
theorem up_data(I:Inv X pins σ H s)(L:Lin P){d0:{d//P d}}{a0 xs:Array Keyed}(pm:xs.Perm a0)(up:SortedToK (kap X.K H Z P L d0) xs a0.size){kf:Keyed->D}(h:∀p∈a0.toList,P (kf p)/\Tells X.K H Z p.1 (kf p)):
 xs.toList.Pairwise fun p q=>dor .lt (kf q) (kf p)=false:=by
 rw[List.pairwise_iff_getElem]
 intro i j hi hj hij
 have hi':i<xs.size:=by simpa using hi
 have hj':j<xs.size:=by simpa using hj
 have mem:∀n (hn:n<xs.size),xs[n]∈a0.toList:=fun n hn=>(Array.perm_iff_toList_perm.mp pm).mem_iff.mp (by simp)
 have e:∀n (hn:n<xs.size),KK (kap X.K H Z P L d0) xs n=⟨kf xs[n],(h _ (mem n hn)).1⟩:=fun n hn=>by
  unfold KK
  rw[getElem?_pos xs n hn]
  show((kap X.K H Z P L d0).keyOf xs[n].1).getD _=_
  rw[kap_key I L (h _ (mem n hn)).1 (h _ (mem n hn)).2];rfl
 have key:=up i j (by omega) (by rw[<-pm.size_eq];exact hj')
 rw[e i hi',e j hj']at key
 have key2:dor .lt (kf xs[j]) (kf xs[i])=false:=key
 simpa using key2
variable{prog:Program}{w:World}{κ:PyProof.Rows.KeyKind}
theorem sort_at{a:Addr}{us:List Value}{n:Nat}{R:Fin->Shared->Prop}(ho:s.heap.get? a=some (seqObj "list" us.toArray n))(h64:us.length<64)
 (hk:∀(h':Heap) (Q:SortKind->Shared->Prop),(∀b o,b≠a->s.heap.get? b=some o->h'.get? b=some o)->us≠[]->Q kd {s with heap:=h'}->wpAny (model prog w) A (keyKind' us.toArray) Q E {s with heap:=h'})
 (hA:∀h':Heap,(∀b o,b≠a->s.heap.get? b=some o->h'.get? b=some o)->Asks κ kd (pairsOf us) prog w A E {s with heap:=h'})
 (h:∀t:Array Keyed,t.Perm (pairsOf us)->SortedToK κ t (pairsOf us).size->R (.done (.ret .none)) {s with heap:=sortedHeap s.heap a us (t.map (·.2))}):
 wpAny (model prog w) A (Builtin.«list.sort» ⟨[.ref a],[]⟩) R E s:=by
 rw[list_sort_plain]
 have la:a<s.heap.objs.size:=lt_size ho
 obtain⟨m,ho1⟩:∃m,(s.heap.update a (Obj.mapSeq fun _=> #[])).get? a=some (seqObj "list" #[] m):=⟨_,get?_update_seq ho (fun _=> #[])⟩
 refine wpAny_bind (listItems_at ho rfl (wpAny_bind (listUpdate_at ho rfl (wpAny_bind (seqEpoch_at ho1 rfl (wpAny_bind (wpAny_newTuple (wpAny_bind (wpAny_newList (wpAny_holding ?_))))))))))
 have keeps:∀b o,b≠a->s.heap.get? b=some o->(((s.heap.update a (Obj.mapSeq fun _=> #[])).push (seqObj "tuple" us.toArray 0)).push (seqObj "list" #[] 0)).get? b=some o:=fun b o ne e=>by
  have lb:b<s.heap.objs.size:=lt_size e
  rw[Heap.get?_push_ne _ _ _ (by rw[size_push',Heap.size_update];exact Nat.ne_of_lt (Nat.lt_succ_of_lt lb)),Heap.get?_push_ne _ _ _ (by rw[Heap.size_update];exact Nat.ne_of_lt lb),Heap.get?_update_ne _ _ _ _ ne]
  exact e
 have hoE:(((s.heap.update a (Obj.mapSeq fun _=> #[])).push (seqObj "tuple" us.toArray 0)).push (seqObj "list" #[] 0)).get? a=some (seqObj "list" #[] m):=by
  rw[Heap.get?_push_ne _ _ _ (by rw[size_push',Heap.size_update];exact Nat.ne_of_lt (Nat.lt_succ_of_lt la)),Heap.get?_push_ne _ _ _ (by rw[Heap.size_update];exact Nat.ne_of_lt la)]
  exact ho1
 show wpAny (model prog w) A _ R E {s with heap:=((s.heap.update a (Obj.mapSeq fun _=> #[])).push (seqObj "tuple" us.toArray 0)).push (seqObj "list" #[] 0)}
 dsimp only
 have fits:∀t:Array Keyed,t.Perm (pairsOf us)->(t.map (·.2)).size<=sizeLine+1:=fun t pm=>by
  rw[Array.size_map,pm.size_eq,pairsOf_size,sizeLine_eq];omega
 by_cases few:us.toArray.size<2
 . rw[if_pos few,if_pos few]
   refine wpAny_bind (wpAny_pure ?_)
   rw[StateT.run_pure]
   refine wpAny_bind (wpAny_pure ?_)
   dsimp only
   refine wpAny_bind (seqEpoch_at hoE rfl (wpAny_bind (listUpdate_at hoE rfl ?_ (hsz2:=fits _ (Array.Perm.refl _)))))
   simp only[bne_self_eq_false,Bool.false_eq_true,if_false]
   refine wpAny_pure (h _ (Array.Perm.refl _) fun i j le lt=>?_)
   rw[pairsOf_size]at lt
   simp at few
   rw[show i=j by omega]
   exact KeyOrd.kle_refl _
 . rw[if_neg few,if_neg few]
   have l2:2<=(pairsOf us).size:=by rw[pairsOf_size];simp at few;omega
   refine wpAny_bind (hk _ _ keeps (by rintro rfl;simp at few) ?_)
   refine wpAny_bind (wpAny_mono (run_sort (κ:=κ) (kd:=kd) (a0:=pairsOf us) (st:=SortSt.mk' kd (us.toArray.zip us.toArray) #[] 7 none) (Q:=fun _ t=>(arrOf t).Perm (pairsOf us)/\failedOf t=none/\SortedToK κ (arrOf t) (pairsOf us).size)
    (hA (((s.heap.update a (Obj.mapSeq fun _=> #[])).push (seqObj "tuple" us.toArray 0)).push (seqObj "list" #[] 0)) keeps) l2 (by rw[pairsOf_size];exact h64) ⟨Array.Perm.refl _,rfl,rfl,rfl⟩ fun t a1 a2 a3=>⟨a1,a2,a3⟩) ?_ fun _ _ e=>e)
   rintro⟨⟨⟩,t⟩ s' ⟨rfl,pm,ok,up⟩
   dsimp only
   refine wpAny_bind (seqEpoch_at hoE rfl (wpAny_bind (listUpdate_at hoE rfl ?_ (hsz2:=fits _ pm))))
   rw[ok]
   simp only[bne_self_eq_false,Bool.false_eq_true,if_false]
   exact wpAny_pure (h _ pm up)
end
def srt(f:D->D)(ds:List D):List D:=ds.mergeSort fun x y=> !dor .lt (f y) (f x)
theorem srt_perm(f:D->D)(ds:List D):(srt f ds).Perm ds:=List.mergeSort_perm _ _
theorem paired_perm{α β:Type}{R:α->β->Prop}{l l':List α}(p:l'.Perm l):∀{r:List β},Paired R l r->∃r',r'.Perm r/\Paired R l' r':=by
 induction p with
 |nil=>intro r h;cases h;exact⟨[],.refl _,.nil⟩
 |cons x p ih=>
  intro r h
  cases h with
  |cons a t=>
   obtain⟨r',p',h'⟩:=ih t
   exact⟨_::r',p'.cons _,.cons a h'⟩
 |swap x y l=>
  intro r h
  cases h with
  |cons a t=>cases t with
   |cons b t=>exact⟨_::_::_,.swap _ _ _,.cons b (.cons a t)⟩
 |trans p q ih1 ih2=>
  intro r h
  obtain⟨r1,p1,h1⟩:=ih2 h
  obtain⟨r2,p2,h2⟩:=ih1 h1
  exact⟨r2,p2.trans p1,h2⟩
theorem paired_map{α β γ δ:Type}{R:α->β->Prop}{S:γ->δ->Prop}{f:α->γ}{g:β->δ}:∀{l:List α} {r:List β},Paired R l r->(∀a b,a∈l->b∈r->R a b->S (f a) (g b))->Paired S (l.map f) (r.map g)
 |_,_,.nil,_=>.nil
 |_,_,.cons a t,h=>.cons (h _ _ (by simp) (by simp) a) (paired_map t fun x y hx hy z=>h x y (by simp[hx]) (by simp[hy]) z)
theorem paired_eq{α:Type}:∀{l r:List α},Paired (fun a b=>a=b) l r->l=r
 |_,_,.nil=>rfl
 |_,_,.cons a t=>by rw[a,paired_eq t]
theorem ins_of_mem{K:PySem.W.Frag}{H:Hp}{Z:Zone}:∀{prs:List (V×D)},(∀q∈prs,In K H Z q.2 q.1)->Ins K H Z (prs.map (·.2)) (prs.map (·.1))
 |[],_=>ins_nil.mpr rfl
 |q::prs,h=>ins_cons.mpr ⟨_,_,rfl,h q (by simp),ins_of_mem fun x hx=>h x (by simp[hx])⟩
section
variable{X:Cx}{pins:List (Addr×Obj)}{σ:St}{H:Hp}{s:Shared}{Z Z':Zone}{A:Around}{P:D->Prop}{kd:SortKind}{M:Model}{E:Value->Shared->Prop}{f:D->D}
theorem sort_out(I:Inv X pins σ H s)(L:Lin P){d0:{d//P d}}{prs:List (V×D)}{a0 t:Array Keyed}(pr:Paired (fun(p:Keyed) (q:V×D)=>RelV q.1 p.2/\Tells X.K H Z p.1 (f q.2)) a0.toList prs)(hP:∀q∈prs,P (f q.2))
 (pm:t.Perm a0)(up:SortedToK (kap X.K H Z P L d0) t a0.size):∃prs':List (V×D),prs'.Perm prs/\Vals (prs'.map (·.1)) (t.map (·.2)).toList/\(prs'.map (·.2)).Pairwise fun x y=>dor .lt (f y) (f x)=false:=by
 have pl:=Array.perm_iff_toList_perm.mp pm
 obtain⟨prs',pp,pr'⟩:=paired_perm pl pr
 have ex:∀p∈a0.toList,∃q,q∈prs/\Tells X.K H Z p.1 (f q.2):=by
  intro p hp
  have:∀{l:List Keyed} {r:List (V×D)},Paired (fun(p:Keyed) (q:V×D)=>RelV q.1 p.2/\Tells X.K H Z p.1 (f q.2)) l r->p∈l->∃q,q∈r/\Tells X.K H Z p.1 (f q.2):=by
   intro l r h
   induction h with
   |nil=>intro z;simp at z
   |cons a t ih=>
    intro z
    rcases mem_cons.mp z with rfl|z
    . exact⟨_,by simp,a.2⟩
    . obtain⟨q,hq,tq⟩:=ih z
      exact⟨q,by simp[hq],tq⟩
  exact this pr hp
 have hkf:∃kf:Keyed->D,∀p∈a0.toList,P (kf p)/\Tells X.K H Z p.1 (kf p):=by
  refine⟨fun p=>open Classical in if h:∃d,P d/\Tells X.K H Z p.1 d then Classical.choose h else .non,fun p hp=>?_⟩
  obtain⟨q,hq,tq⟩:=ex p hp
  have h:∃d,P d/\Tells X.K H Z p.1 d:=⟨_,hP q hq,tq⟩
  dsimp only
  rw[dif_pos h]
  exact Classical.choose_spec h
 obtain⟨kf,hkf⟩:=hkf
 have pw:=up_data I L pm up hkf
 refine⟨prs',pp,?_,?_⟩
 . rw[Array.toList_map]
   have:∀{l:List Keyed} {r:List (V×D)},Paired (fun(p:Keyed) (q:V×D)=>RelV q.1 p.2/\Tells X.K H Z p.1 (f q.2)) l r->Vals (r.map (·.1)) (l.map (·.2)):=by
    intro l r h
    induction h with
    |nil=>exact .nil
    |cons a t ih=>exact .cons a.1 ih
   exact this pr'
 . have e:t.toList.map kf=prs'.map fun q=>f q.2:=
    paired_eq (paired_map pr' fun p q hp hq z=>Tells.one I (hkf p (pl.mem_iff.mp hp)).2 z.2)
   have pw2:(t.toList.map kf).Pairwise fun x y=>dor .lt y x=false:=by rw[List.pairwise_map];exact pw
   rw[e,List.pairwise_map]at pw2
   rw[List.pairwise_map]
   exact pw2
theorem srt_one(L:Lin P){ds ds':List D}(hP:∀d∈ds,P (f d))(inj:∀a∈ds,∀b∈ds,f a=f b->a=b)(pm:ds'.Perm ds)(pw:ds'.Pairwise fun x y=>dor .lt (f y) (f x)=false):ds'=srt f ds:=by
 have P':∀d∈ds',P (f d):=fun d hd=>hP d (pm.mem_iff.mp hd)
 have neg:∀x y z,P (f x)->P (f y)->P (f z)->dor .lt (f y) (f x)=false->dor .lt (f z) (f y)=false->dor .lt (f z) (f x)=false:=fun x y z px py pz a b=>by
  cases q:dor .lt (f z) (f x)with
  |false=>rfl
  |true=>
   cases q2:dor .lt (f x) (f y)with
   |true=>rw[L.tr _ _ _ pz px py q q2]at b;cases b
   |false=>rw[L.tt _ _ px py q2 a]at q;rw[q]at b;cases b
 have hs:(srt f ds).Pairwise fun x y=>dor .lt (f y) (f x)=false:=by
  let ds2:List {d//P (f d)}:=ds.attach.map fun d=>⟨d.1,hP d.1 d.2⟩
  have e:ds=ds2.map (·.1):=by simp[ds2]
  have e2:srt f ds=(ds2.mergeSort fun x y=> !dor .lt (f y.1) (f x.1)).map (·.1):=by
   unfold srt
   rw[e]
   exact(List.map_mergeSort (f:=fun z:{d//P (f d)}=>z.1) (r:=fun x y=> !dor .lt (f y.1) (f x.1)) (s:=fun x y=> !dor .lt (f y) (f x)) (fun a _ b _=>rfl)).symm
  rw[e2,List.pairwise_map]
  have:=List.pairwise_mergeSort (le:=fun(x y:{d//P (f d)})=> !dor .lt (f y.1) (f x.1)) (fun a b c h1 h2=>by
   simp only[Bool.not_eq_true']at*
   exact neg a.1 b.1 c.1 a.2 b.2 c.2 h1 h2) (fun a b=>by
   cases q:dor .lt (f b.1) (f a.1)with
   |false=>simp
   |true=>
    have z:dor .lt (f a.1) (f b.1)=false:=by
     cases q2:dor .lt (f a.1) (f b.1)with
     |false=>rfl
     |true=>have w:=L.tr _ _ _ a.2 b.2 a.2 q2 q;rw[L.ir _ a.2]at w;cases w
    simp[z]) ds2
  exact this.imp fun h=>by simpa using h
 refine List.Perm.eq_of_pairwise (le:=fun x y=>dor .lt (f y) (f x)=false) ?_ pw hs (pm.trans (srt_perm f ds).symm)
 intro a b ha hb h1 h2
 have hb':b∈ds:=(srt_perm f ds).mem_iff.mp hb
 exact inj a (pm.mem_iff.mp ha) b hb' (L.tt _ _ (P' a ha) (hP b hb') h2 h1)
end
section
variable{X:Cx}
theorem pairs_data{K:PySem.W.Frag}{H:Hp}{Z:Zone}:∀{ds:List D} {ys:List V} {its:List Value},Vals ys its->Ins K H Z ds ys->Paired (fun(p:Keyed) (q:V×D)=>RelV q.1 p.2/\Tells K H Z p.1 (id q.2)) (its.zip its) (ys.zip ds)
 |[],ys,its,r,j=>by cases ins_nil.mp j;cases r;exact .nil
 |d::ds,ys,its,r,j=>by
  obtain⟨v,vs,rfl,i,j⟩:=ins_cons.mp j
  cases r with
  |cons a r=>exact .cons ⟨a,v,a,i⟩ (pairs_data r j)
theorem ins_zip{K:PySem.W.Frag}{H:Hp}{Z:Zone}:∀{ds:List D} {ys:List V},Ins K H Z ds ys->∀q∈ys.zip ds,In K H Z q.2 q.1
 |[],ys,j,q,hq=>by simp at hq
 |d::ds,ys,j,q,hq=>by
  obtain⟨v,vs,rfl,i,j⟩:=ins_cons.mp j
  rcases mem_cons.mp hq with rfl|hq
  . exact i
  . exact ins_zip j q hq
variable{ρ:List (Option D)}{m m1:Bool}{a:Expr}{ds:List D}{p pos:Pos}{P:D->Prop}{kd:SortKind}
theorem flats_perm{ds es:List D}(p:es.Perm ds)(h:flats ds=true):flats es=true:=by
 have mem:∀{l:List D},flats l=true↔ ∀d∈l,d.flat=true:=by
  intro l
  induction l with
  |nil=>simp[flats]
  |cons x l ih=>simp[flats,ih]
 exact mem.mpr fun d hd=>mem.mp h d (p.mem_iff.mp hd)
end
theorem sort_key_eq(a fa:Addr):Builtin.«list.sort» ⟨[.ref a],[(("key":Str),.ref fa)]⟩=(do
 let items<-Builtin.List.listItems (.ref a)
 Builtin.List.listUpdate (.ref a) fun _=> #[]
 let before<-seqEpoch a
 let held<-newTuple items.toList
 let store<-newList []
 holding [held,store] do
  rule "list.sort.key"
  for x in items do
   match<-(call (.ref fa) [x]).attempt with
   |.ok k=>Builtin.List.listUpdate store (·.push k)
   |.error e=>
    rule "list.sort.key-raised"
    let made<-Builtin.List.listItems store
    Builtin.List.listUpdate store fun _=> #[]
    letGo made.toList.reverse [e]
    Builtin.List.listUpdate (.ref a) (fun _=>items);throw e
  let keys<-Builtin.List.listItems store
  let kind<-if items.size<2 then pure general' else keyKind' keys
  let((),st)<-(if items.size<2 then pure ()else sortRuns').run (SortSt.mk' kind (keys.zip items) #[] 7 none)
  Builtin.List.listUpdate store (fun _=> #[])
  letGo ((arrOf st).map (·.1)).toList (failedOf st).toList
  let touched:=(<-seqEpoch a) !=before
  Builtin.List.listUpdate (.ref a) (fun _=>(arrOf st).map (·.2))
  if let some e:=failedOf st then rule "list.sort.comparison-raised";throw e
  if touched then rule "list.sort.modified";raiseError "ValueError" "list modified during sort"
  ret .none):=rfl
structure Keys(X:Cx)(A:Around)(σ:St)(fa:Addr)(f:D->D)(P0:D->Prop)(Good:Hp->Zone->Prop):Prop where
 zone:∀{H:Hp} {Z Z':Zone},(∀a o,H a=some o->Z.S a->Z'.S a)->(Z.m=false->Z'.m=false)->Good H Z->Good H Z'
 same:∀{H H':Hp} {Z:Zone},Same H H'->Good H Z->Good H' Z
 write:∀{H:Hp} {Z:Zone} {l:Addr} {xs ys:List V},H l=some (.lst xs)->¬Z.S l->Good H Z->Good (upd H l (.lst ys)) Z
 run:∀(E:Value->Shared->Prop) (pins:List (Addr×Obj)) (s:Shared) (H:Hp) (Z:Zone) (u:Value) (d:D) (Q:Value->Shared->Prop),Inv X pins σ H s->Z.Open H->Good H Z->Tells X.K H Z u d->P0 d->
  (∀k H' s',Inv X pins σ H' s'->Same H H'->Tells X.K H' Z k (f d)->Q k s')->wpAny (model X.prog X.w) A (call (.ref fa) [u]) Q E s
theorem TabsOk.updE{H:Hp}{a:Addr}{φ:Heap->Prop}{o:HO}(t:TabsOk H)(ha:H a=some (.ext φ))(no:∀qn:Str,(fun h:Heap=>h.CodeRec (.ref a) qn)≠φ):TabsOk (L2.upd H a o):=fun P hP=>by
 obtain⟨ps,e,tr,k⟩:=t P hP
 refine⟨ps,by rw[upd_ne (ne_of e ha (by intro z;cases z))];exact e,tr,fun pos cv q=>?_⟩
 obtain⟨c,rfl,hc⟩:=k pos cv q
 have:c≠a:=fun z=>by
  subst z
  rw[ha]at hc
  have z2:=Option.some.inj hc
  unfold recO at z2
  injection z2 with z3
  exact no P.2 z3.symm
 exact⟨c,rfl,by rw[upd_ne this];exact hc⟩
theorem pairs_key{K:PySem.W.Frag}{H:Hp}{Z:Zone}{f:D->D}:∀{ds:List D} {xs:List V} {us:List Value} {kvs:List V} {ks:List Value},xs.length=ds.length->Vals xs us->Ins K H Z (ds.map f) kvs->Vals kvs ks->
 Paired (fun(p:Keyed) (q:V×D)=>RelV q.1 p.2/\Tells K H Z p.1 (f q.2)) (ks.zip us) (xs.zip ds)
 |[],xs,us,kvs,ks,hl,r,j,r2=>by
  cases ins_nil.mp j
  cases r2
  cases r with
  |nil=>exact .nil
  |cons _ _=>simp at hl
 |d::ds,xs,us,kvs,ks,hl,r,j,r2=>by
  obtain⟨v,vs,rfl,i,j⟩:=ins_cons.mp j
  cases r2 with
  |cons a r2=>
   cases r with
   |nil=>simp at hl
   |cons b r=>exact .cons ⟨b,v,a,i⟩ (pairs_key (by simpa using hl) r j r2)
section
variable{X:Cx}{pins:List (Addr×Obj)}{σ:St}{H:Hp}{s:Shared}{Z:Zone}{A:Around}{P P0:D->Prop}{kd:SortKind}{E:Value->Shared->Prop}{f:D->D}{fa a:Addr}{Good:Hp->Zone->Prop}
theorem sort_key(kk:Keys X A σ fa f P0 Good)(L:Lin P)(kn:KindOf P kd){ds:List D}{xs:List V}{us:List Value}(hP:∀d∈ds,P0 d/\P (f d)/\A.units+(f d).dep<cLine)(inj:∀x∈ds,∀y∈ds,f x=f y->x=y)
 (I:Inv X pins σ H s)(oz:Z.Open H)(g:Good H Z)(ix:Ins X.K H Z ds xs)(vx:Vals xs us)(h64:us.length<64){h1:Heap}{t1 n:Nat}(k1:∀b o,s.heap.get? b=some o->h1.get? b=some o)(la:s.heap.objs.size<=a)
 (ho:h1.get? a=some (seqObj "list" us.toArray n)){R:Fin->Shared->Prop}
 (fin:∀H' s' (prs:List (V×D)),Inv X pins σ H' s'->Same H H'->H a=none->H' a=some (.lst (prs.map (·.1)))->prs.Perm (xs.zip ds)->prs.map (·.2)=srt f ds->R (.done (.ret .none)) s'):
 wpAny (model X.prog X.w) A (Builtin.«list.sort» ⟨[.ref a],[(("key":Str),.ref fa)]⟩) R E {s with heap:=h1,toks:=t1}:=by
 rw[sort_key_eq]
 have z1:=ix.length;have z2:=vx.length
 have la':a<h1.objs.size:=lt_size ho
 obtain⟨m,ho1⟩:∃m,(h1.update a (Obj.mapSeq fun _=> #[])).get? a=some (seqObj "list" #[] m):=⟨_,get?_update_seq ho (fun _=> #[])⟩
 refine wpAny_bind (listItems_at (s:={s with heap:=h1,toks:=t1}) ho rfl ?_)
 refine wpAny_bind (listUpdate_at (s:={s with heap:=h1,toks:=t1}) ho rfl ?_ (by simp only[size_toArray,sizeLine_eq];omega) (by simp))
 refine wpAny_bind (seqEpoch_at (s:={s with heap:=h1.update a (Obj.mapSeq fun _=> #[]),toks:=t1}) ho1 rfl ?_)
 refine wpAny_bind (wpAny_newTuple ?_)
 have k3:∀b o,s.heap.get? b=some o->((h1.update a (Obj.mapSeq fun _=> #[])).push (seqObj "tuple" us.toArray 0)).get? b=some o:=fun b o e=>by
  have lb:=lt_size e
  have ne:b≠a:=Nat.ne_of_lt (Nat.lt_of_lt_of_le lb la)
  have lb1:=lt_size (k1 b o e)
  rw[Heap.get?_push_ne _ _ _ (by rw[Heap.size_update];exact Nat.ne_of_lt lb1),Heap.get?_update_ne _ _ _ _ ne]
  exact k1 b o e
 have ho3:((h1.update a (Obj.mapSeq fun _=> #[])).push (seqObj "tuple" us.toArray 0)).get? a=some (seqObj "list" #[] m):=by
  rw[Heap.get?_push_ne _ _ _ (by rw[Heap.size_update];exact Nat.ne_of_lt la')]
  exact ho1
 show wpAny (model X.prog X.w) A _ R E {s with heap:=(h1.update a (Obj.mapSeq fun _=> #[])).push (seqObj "tuple" us.toArray 0),toks:=t1}
 generalize((h1.update a (Obj.mapSeq fun _=> #[])).push (seqObj "tuple" us.toArray 0))=h3 at k3 ho3⊢
 have Ha0:H a=none:=I.hok.fresh la
 have Ia:Inv X pins σ (upd H a (.ext fun h=>h.get? a=some (seqObj "list" #[] m))) {s with heap:=h3,toks:=t1}:=I.laid k3 la ⟨ho3,⟨_,ho3⟩,fun g1 g2 z k=>k _ z⟩
 refine wpAny_bind (wpAny_newList ?_)
 have Iq:=Ia.lnew (ys:=[]) (its:=[]) (t':=t1) .nil (by simp)
 have q0:=Ia.fresh
 show wpAny (model X.prog X.w) A _ R E {s with heap:=h3.push (seqObj "list" #[] 0),toks:=t1}
 have Hq0:H h3.objs.size=none:=by
  have z:=q0
  by_cases e:h3.objs.size=a
  . rw[e];exact Ha0
  . change upd H a _ h3.objs.size=none at z
    rw[upd_ne e]at z;exact z
 have neq:a≠h3.objs.size:=Nat.ne_of_lt (lt_size ho3)
 generalize hQ:h3.objs.size=q at q0 Hq0 neq⊢
 have Iq':Inv X pins σ (upd (upd H a (.ext fun h=>h.get? a=some (seqObj "list" #[] m))) q (.lst [])) {s with heap:=h3.push (seqObj "list" #[] 0),toks:=t1}:=by rw[<-hQ];exact Iq
 clear Iq
 --what every state in the loop bears
 have openQ:∀{H':Hp} {kvs:List V},Same H H'->H' q=some (.lst kvs)->Zone.Open ⟨Z.m,fun b=>Z.S b/\b≠q⟩ H':=fun{H' kvs} k hq=>⟨fun b e=>⟨oz.op b (k.free e),fun z=>by rw[z,hq]at e;cases e⟩,k.tabs oz.tb⟩
 have carryQ:∀{H':Hp},Same H H'->Carry X.K H Z H' ⟨Z.m,fun b=>Z.S b/\b≠q⟩:=fun{H'} k=>
  Carry.of k (fun b ys e z=>⟨z,fun w=>by rw[w,Hq0]at e;cases e⟩) fun z=>z
 refine wpAny_holding (wpAny_bind (wpAny_rule ?_))
 refine wpAny_bind (wpAny_forIn_array' _ (fun rest _ st=>∃(H':Hp) (kvs:List V),Inv X pins σ H' st/\(Same H H'/\H' a=some (.ext fun h=>h.get? a=some (seqObj "list" #[] m)))/\H' q=some (.lst kvs)/\
  Good H' ⟨Z.m,fun b=>Z.S b/\b≠q⟩/\kvs.length<=us.length/\rest=us.drop kvs.length/\Ins X.K H' ⟨Z.m,fun b=>Z.S b/\b≠q⟩ ((ds.take kvs.length).map f) kvs) _ ?turn ?over _ _ ?start)
 case start=>
  have sm0:Same H (upd (upd H a (.ext fun h=>h.get? a=some (seqObj "list" #[] m))) q (.lst [])):=(same_new Ha0).trans (same_new q0)
  exact⟨_,[],Iq',⟨sm0,by rw[upd_ne neq,upd_same]⟩,upd_same,kk.same sm0 (kk.zone (Z:=Z) (fun b o e z=>⟨z,fun w=>by rw[w,Hq0]at e;cases e⟩) (fun z=>z) g),Nat.zero_le _,by simp,ins_nil.mpr rfl⟩
 case turn=>
  rintro x rest _ st ⟨H',kvs,I',⟨kp,hae⟩,hq,gd,hle,hr,jn⟩
  have hlt:kvs.length<us.length:=by
   have:=congrArg List.length hr
   simp at this;omega
  have hx:us[kvs.length]=x/\us.drop (kvs.length+1)=rest:=by
   rw[List.drop_eq_getElem_cons hlt]at hr
   injection hr with e1 e2
   exact⟨e1.symm,e2.symm⟩
  have hd:kvs.length<ds.length:=by omega
  obtain⟨v,ev,iv⟩:=ix.get (i:=kvs.length) (d:=ds[kvs.length]) (by simp[hd])
  obtain⟨u',eu,ru⟩:=vx.get ev
  have e2:u'=x:=by
   have t:=(List.getElem?_eq_some_iff.mp eu).2
   rw[<-t];exact hx.1
  subst e2
  refine wpAny_bind (wpAny_attempt (kk.run _ pins st H' _ u' ds[kvs.length] _ I' (openQ kp hq) gd ⟨v,ru,iv.carry (carryQ kp)⟩ (hP _ (getElem_mem hd)).1 fun k H2 s2 I2 sm ⟨kv,rk,ik⟩=>?_))
  dsimp only
  have hq2:H2 q=some (.lst kvs):=sm.at hq
  obtain⟨zl,its,n2,rv,ll,ho2⟩:=I2.lstM hq2
  refine wpAny_bind (listUpdate_at ho2 rfl (wpAny_pure ?_) (by simp only[size_toArray,sizeLine_eq];omega) (by simp only[Array.size_push,size_toArray,sizeLine_eq];omega))
  dsimp only
  refine⟨upd H2 q (.lst (kvs++[kv])),kvs++[kv],I2.lset (t':=s2.toks) (its':=its++[k]) hq2 ho2 (by simp) (rv.append (.cons rk .nil)) (by simp only[List.length_append,length_cons,List.length_nil,sizeLine_eq];omega),⟨(kp.trans sm).write Hq0 hq2,by rw[upd_ne neq];exact sm.at hae⟩,upd_same,?_,by simp;omega,by simp[hx.2],?_⟩
  . exact kk.write hq2 (fun z=>z.2 rfl) (kk.same sm gd)
  . have e3:(ds.take (kvs++[kv]).length).map f=(ds.take kvs.length).map f++[f ds[kvs.length]]:=by
     rw[List.length_append,length_cons,List.length_nil,take_add_one,map_append]
     simp[hd]
    rw[e3]
    have cw:Carry X.K H2 ⟨Z.m,fun b=>Z.S b/\b≠q⟩ (upd H2 q (.lst (kvs++[kv]))) ⟨Z.m,fun b=>Z.S b/\b≠q⟩:=Carry.write hq2 (fun z=>z.2 rfl)
    exact((jn.same sm).carry cw).append (Ins.one (ik.carry cw))
 case over=>
  rintro _ st ⟨H',kvs,I',⟨kp,hae⟩,hq,gd,hle,hr,jn⟩
  have hlen:kvs.length=us.length:=by
   have:=congrArg List.length hr
   simp at this;omega
  have jn':Ins X.K H' ⟨Z.m,fun b=>Z.S b/\b≠q⟩ (ds.map f) kvs:=by
   rw[hlen,show us.length=ds.length by omega,take_length]at jn;exact jn
  obtain⟨zl,ks,n2,rv,ll,ho2⟩:=I'.lstM hq
  refine wpAny_bind (listItems_at ho2 rfl ?_)
  have pr:=pairs_key (K:=X.K) (by omega) vx jn' rv
  have hsz:ks.toArray.size=us.toArray.size:=by simp;omega
  --behind the sort
  have tail:∀(tt:SortSt) (prs:List (V×D)),failedOf tt=none->prs.Perm (xs.zip ds)->Vals (prs.map (·.1)) ((arrOf tt).map (·.2)).toList->prs.map (·.2)=srt f ds->
   wpAny (model X.prog X.w) A (do
    Builtin.List.listUpdate (.ref q) (fun _=> #[])
    letGo ((arrOf tt).map (·.1)).toList (failedOf tt).toList
    let touched:=(<-seqEpoch a) !=m
    Builtin.List.listUpdate (.ref a) (fun _=>(arrOf tt).map (·.2))
    if let some e:=failedOf tt then rule "list.sort.comparison-raised";throw e
    if touched then rule "list.sort.modified";raiseError "ValueError" "list modified during sort"
    ret .none) R E st:=by
   intro tt prs ok pp vv e
   refine wpAny_bind (listUpdate_at ho2 rfl ?_ (by simp only[size_toArray,sizeLine_eq];omega) (by simp))
   have I5:=I'.lset (t':=st.toks) (its':=[]) (ys:=[]) (f:=fun _=> #[]) hq ho2 (by simp) .nil (by simp)
   have ha5:upd H' q (.lst []) a=some (.ext fun h=>h.get? a=some (seqObj "list" #[] m)):=by rw[upd_ne neq];exact hae
   have ho5:({st with heap:=st.heap.update q (Obj.mapSeq fun _=> #[]),toks:=st.toks}:Shared).heap.get? a=some (seqObj "list" #[] m):=(I5.hok a _ ha5).1
   refine wpAny_bind (wpAny_letGo ?_)
   refine wpAny_bind (seqEpoch_at (s:={st with heap:=st.heap.update q (Obj.mapSeq fun _=> #[]),toks:=st.toks}) ho5 rfl ?_)
   have nout:((arrOf tt).map (·.2)).size<=sizeLine:=by
    have z:=vv.length
    have z3:=pp.length_eq
    rw[List.length_zip]at z3
    rw[length_map]at z
    rw[<-Array.length_toList, <-z,z3,sizeLine_eq];omega
   refine wpAny_bind (listUpdate_at (s:={st with heap:=st.heap.update q (Obj.mapSeq fun _=> #[]),toks:=st.toks}) ho5 rfl ?_ (by simp) (Nat.le_succ_of_le nout))
   rw[ok]
   simp only[bne_self_eq_false,Bool.false_eq_true,if_false]
   obtain⟨e6,qo⟩:∃e6,((st.heap.update q (Obj.mapSeq fun _=> #[])).update a (Obj.mapSeq fun _=>(arrOf tt).map (·.2))).get? a=some (seqObj "list" ((arrOf tt).map (·.2)) e6):=⟨_,get?_update_seq ho5 (fun _=>(arrOf tt).map (·.2))⟩
   have I6:Inv X pins σ (upd (upd H' q (.lst [])) a (.lst (prs.map (·.1)))) {st with heap:=(st.heap.update q (Obj.mapSeq fun _=> #[])).update a (Obj.mapSeq fun _=>(arrOf tt).map (·.2)),toks:=st.toks}:=by
    refine I5.write (x:=a) (e:=a) (by rw[ha5];exact trivial) (.inl rfl) (fun b u nb hb=>(Heap.get?_update_other _ _ (Ne.symm nb)).trans hb) ⟨_,qo⟩ ?_
    refine⟨?_,((arrOf tt).map (·.2)).toList,e6,vv,by rw[Array.toArray_toList];exact qo⟩
    rw[vv.length,Array.length_toList];exact nout
   have sm5:Same H (upd H' q (.lst [])):=kp.write Hq0 hq
   have sm6:Same H (upd (upd H' q (.lst [])) a (.lst (prs.map (·.1)))):=⟨fun b o eb n=>by rw[upd_ne (ne_of_none eb Ha0)];exact sm5.get b o eb n,fun b qs eb=>by rw[upd_ne (ne_of_none eb Ha0)];exact sm5.tbl b qs eb,fun t=>(sm5.tabs t).updE ha5 fun qn z=>by
    have z2:=(I5.hok a _ ha5).1
    rw[<-z]at z2
    obtain⟨c3,o3,vs3,t3,e3,g3,d3,_⟩:=z2
    cases e3
    rw[ho5]at g3
    cases g3
    cases d3⟩
   exact wpAny_pure (fin _ _ prs I6 sm6 Ha0 upd_same pp e)
  by_cases few:us.toArray.size<2
  . rw[if_pos few,if_pos few]
    refine wpAny_bind (wpAny_pure ?_)
    dsimp only
    rw[StateT.run_pure]
    refine wpAny_bind (wpAny_pure ?_)
    dsimp only
    refine tail (SortSt.mk' general' (ks.toArray.zip us.toArray) #[] 7 none) (xs.zip ds) rfl (.refl _) ?_ ?_
    . have e1:((ks.toArray.zip us.toArray).map (·.2)).toList=us:=by
       simp only[List.zip_toArray,List.map_toArray]
       exact List.map_snd_zip (by omega)
      have e2:(xs.zip ds).map (·.1)=xs:=List.map_fst_zip (by omega)
      rw[e2]
      show Vals xs ((ks.toArray.zip us.toArray).map (·.2)).toList
      rw[e1];exact vx
    . have e2:(xs.zip ds).map (·.2)=ds:=List.map_snd_zip (by omega)
      rw[e2]
      simp at few
      match ds,z1 with
      |[],_=>simp[srt]
      |[d],_=>simp[srt]
      |d::d2::r,z=>simp at z;omega
  . rw[if_neg few,if_neg few]
    have l2:2<=us.length:=by simp at few;omega
    have el:∀u∈ks,∃d,P d/\Tells X.K H' ⟨Z.m,fun b=>Z.S b/\b≠q⟩ u d/\A.units+d.dep<cLine:=fun u hu=>by
     obtain⟨i,hi,e⟩:=List.mem_iff_getElem.mp hu
     have hd:i<ds.length:=by omega
     obtain⟨v,ev,iv⟩:=jn'.get (i:=i) (d:=f ds[i]) (by simp[hd])
     obtain⟨u',eu,ru⟩:=rv.get ev
     have e2:u'=u:=by
      have t:=(List.getElem?_eq_some_iff.mp eu).2
      rw[<-t];exact e
     exact⟨_,(hP _ (getElem_mem hd)).2.1,⟨v,e2▸ru,iv⟩,(hP _ (getElem_mem hd)).2.2⟩
    have kn0:ks≠[]:=fun z=>by rw[z]at ll;simp only[List.length_nil]at ll;omega
    refine wpAny_bind (kind_ok kn I' (fun u hu=>let⟨d,p1,p2,_⟩:=el u hu;⟨d,p1,p2⟩) kn0 ?_)
    have hd0:0<ds.length:=by omega
    have esz:(ks.toArray.zip us.toArray).size=us.length:=by simp;omega
    have elist:(ks.toArray.zip us.toArray).toList=ks.zip us:=by simp
    refine wpAny_bind (wpAny_mono (run_sort (κ:=kap X.K H' ⟨Z.m,fun b=>Z.S b/\b≠q⟩ P L ⟨f ds[0],(hP _ (getElem_mem hd0)).2.1⟩) (kd:=kd) (a0:=ks.toArray.zip us.toArray) (st:=SortSt.mk' kd (ks.toArray.zip us.toArray) #[] 7 none)
     (Q:=fun _ t=>(arrOf t).Perm (ks.toArray.zip us.toArray)/\failedOf t=none/\SortedToK (kap X.K H' ⟨Z.m,fun b=>Z.S b/\b≠q⟩ P L ⟨f ds[0],(hP _ (getElem_mem hd0)).2.1⟩) (arrOf t) (ks.toArray.zip us.toArray).size)
     (asks_ok kn L I' fun p hp=>el p.1 (by rw[elist]at hp;exact(List.of_mem_zip hp).1)) (by rw[esz];exact l2) (by rw[esz];exact h64) ⟨Array.Perm.refl _,rfl,rfl,rfl⟩ fun t a1 a2 a3=>⟨a1,a2,a3⟩) ?_ fun _ _ e=>e)
    rintro⟨⟨⟩,t⟩ s' ⟨rfl,pm,ok,up⟩
    dsimp only
    rw[<-elist]at pr
    obtain⟨prs,pp,vv,pw⟩:=sort_out I' L pr (fun z hz=>(hP _ (List.of_mem_zip hz).2).2.1) pm up
    refine tail t prs ok pp vv (srt_one L (f:=f) (fun d hd=>(hP d hd).2.1) inj ?_ pw)
    have e2:(xs.zip ds).map (·.2)=ds:=List.map_snd_zip (by omega)
    have pp2:=pp.map (·.2)
    rw[e2]at pp2
    exact pp2
end
theorem among_app{pos:Pos}{a b:Int}{c cv:Value}(l:List Value)(h:TriplesOk l)(e:codeAmong pos (l++[rawInt a,rawInt b,c])=some cv):codeAmong pos l=some cv\/cv=c:=by
 fun_induction TriplesOk l with
 |case1=>
  simp only[List.nil_append,codeAmong,rawInt]at e
  split at e
  . exact .inr (Option.some.inj e).symm
  . cases e
 |case2 a' t b' u x rest ih=>
  simp only[cons_append,codeAmong]at e⊢
  split at e
  . rename_i hc;rw[if_pos hc];exact .inl e
  . rename_i hc;rw[if_neg hc];exact ih h e
 |case3 l h1 h2=>exact h.elim
section
variable{X:Cx}{pins:List (Addr×Obj)}{σ:St}{H:Hp}{s:Shared}{P c f:Addr}{ps more:Array Value}{h':Heap}{t':Nat}
theorem inv_lam(I:Inv X pins σ H s)(hP:H P=some (.tbl ps))(k:∀b o,b≠P->s.heap.get? b=some o->h'.get? b=some o)(htb:h'.get? P=some {cls:=.none,data:=.fields (ps++more)}){u v:HO}(hc:s.heap.objs.size<=c)(hf:s.heap.objs.size<=f)(cf:c≠f)
 (oc:ObjOk X.prog X.w (upd (upd (upd H P (.tbl (ps++more))) c u) f v) h' c u)(of:ObjOk X.prog X.w (upd (upd (upd H P (.tbl (ps++more))) c u) f v) h' f v):
 Inv X pins σ (upd (upd (upd H P (.tbl (ps++more))) c u) f v) {s with heap:=h',toks:=t'}:=by
 have Hc:H c=none:=I.hok.fresh hc
 have Hf:H f=none:=I.hok.fresh hf
 have Pc:P≠c:=ne_of_none hP Hc
 have Pf:P≠f:=ne_of_none hP Hf
 have get:∀{b:Addr} {o:HO},H b=some o->b≠P->upd (upd (upd H P (.tbl (ps++more))) c u) f v b=some o:=fun{b o} e n=>by
  rw[upd_ne (ne_of_none e Hf),upd_ne (ne_of_none e Hc),upd_ne n];exact e
 have getP:upd (upd (upd H P (.tbl (ps++more))) c u) f v P=some (.tbl (ps++more)):=by rw[upd_ne Pf,upd_ne Pc,upd_same]
 refine I.un ⟨fun b o e n hb _=>?_,fun b o e n hb _=>?_,fun b o e n _=>?_,fun b o e _=>?_,fun b xs e=>?_,fun b o u' e=>?_,fun b qs e=>?_⟩ fun b o e=>?_
 . exact k b o (fun z=>by rw[z,hP]at n;cases n) e
 . exact⟨o.slots,k b o (fun z=>by rw[z,hP]at n;cases n) e⟩
 . have lb:=lt_size e
   have n1:b≠P:=fun z=>by rw[z,hP]at n;cases n
   rw[upd_ne (Nat.ne_of_lt (Nat.lt_of_lt_of_le lb hf)),upd_ne (Nat.ne_of_lt (Nat.lt_of_lt_of_le lb hc)),upd_ne n1];exact n
 . by_cases z:b=P
   . exact⟨_,by rw[z];exact htb⟩
   . exact⟨o,k b o z e⟩
 . exact get e (ne_of e hP (by intro z;cases z))
 . exact get e (ne_of e hP (by intro z;cases z))
 . by_cases z:b=P
   . rw[z,hP]at e
     cases e
     exact⟨more,by rw[z];exact getP⟩
   . exact⟨#[],by rw[get e z];simp⟩
 . by_cases z1:b=f
   . subst z1;rw[upd_same]at e;cases e;exact of
   . rw[upd_ne z1]at e
     by_cases z2:b=c
     . subst z2;rw[upd_same]at e;cases e;exact oc
     . rw[upd_ne z2]at e
       by_cases z3:b=P
       . subst z3;rw[upd_same]at e;cases e;exact htb
       . rw[upd_ne z3]at e
         refine(I.hok b o e).stay (fun b' v' hb' q=>k b' v' ?_ q) (fun b' q=>get q (ne_of q hP (by intro z;cases z))) fun b' xs q=>get q (ne_of q hP (by intro z;cases z))
         rcases hb' with z|z
         . rw[z];exact z3
         . exact ne_of z hP (by intro z;cases z)
theorem tabs_lam{qn:Str}{pos:Pos}{v:HO}(t:TabsOk H)(hT:(P,qn)∈Tabs.T)(one:∀q∈Tabs.T,q.1=P->q.2=qn)(hP:H P=some (.tbl ps))(hn:codeAmong pos ps.toList=none)(Hc:H c=none)(Hf:H f=none)(cf:c≠f):
 TabsOk (upd (upd (upd H P (.tbl (ps++ #[rawInt pos.line,rawInt pos.col,.ref c]))) c (recO c qn)) f v):=fun Q hQ=>by
 obtain⟨qs,e,tr,kq⟩:=t Q hQ
 have ne:∀{b:Addr} {o:HO},H b=some o->b≠P->upd (upd (upd H P (.tbl (ps++ #[rawInt pos.line,rawInt pos.col,.ref c]))) c (recO c qn)) f v b=some o:=fun{b o} e n=>by
  rw[upd_ne (ne_of_none e Hf),upd_ne (ne_of_none e Hc),upd_ne n];exact e
 by_cases z:Q.1=P
 . have qe:=one Q hQ z
   rw[z,hP]at e
   cases e
   refine⟨ps++ #[rawInt pos.line,rawInt pos.col,.ref c],by rw[z,upd_ne (ne_of_none hP Hf),upd_ne (ne_of_none hP Hc),upd_same],?_,fun pos' cv q=>?_⟩
   . rw[Array.toList_append];exact TriplesOk_snoc _ _ _ _ tr
   . rw[Array.toList_append]at q
     rcases among_app _ tr q with q|q
     . obtain⟨c',rfl,hc'⟩:=kq pos' cv q
       exact⟨c',rfl,ne hc' (ne_of hc' hP (by intro z;cases z))⟩
     . exact⟨c,q,by rw[upd_ne cf,upd_same,qe]⟩
 . refine⟨qs,ne e z,tr,fun pos' cv q=>?_⟩
   obtain⟨c',rfl,hc'⟩:=kq pos' cv q
   exact⟨c',rfl,ne hc' (ne_of hc' hP (by intro z;cases z))⟩
def BmB(mg:Str->Option Value)(base:Heap):Prop:=∃bm o,mg "__builtins__"=some (.ref bm)/\base.get? bm=some o/\bm≠builtinsNs/\bm≠mainGlobals/\o.cls=.type "module"/\o.dict=some builtinsNs/\o.data=.plain
structure LamCx(X:Cx)(c P:Addr)(qn:Str):Prop where
 code:X.env.code=.ref c
 hd:codeHdIn X.K c P=true
 tab:(P,qn)∈Tabs.T
 one:∀q∈Tabs.T,q.1=P->q.2=qn
 qual:X.env.qual++("<lambda>":Str)=qn
 bm:BmB X.mg X.base
 gP:mainGlobals≠P
variable{A:Around}{E:Value->Shared->Prop}{params:Arguments}{body:Expr}{scope:Scope}{lpos:Pos}{clos:List (Str×Addr)}{qn:Str}
abbrev lamO(f:Addr)(qn:Str)(params:Arguments)(body:Expr)(scope:Scope)(clos:List (Str×Addr))(pm:Value)(c:Addr)(ctv:Value):HO:=.ext fun h=>h.get? f=some (kla_obj "<lambda>" qn params body scope clos pm c ctv)
theorem lam_eval(LC:LamCx X c P qn)(I:Inv X pins σ H s)(t:TabsOk H)(hdef:defaultsOf params X.env=([],[]))(hcl:closureFor scope X.env=pure clos){Q:Value->Shared->Prop}
 (h:∀f c' pm ctv H' s',Inv X pins σ H' s'->Same H H'->H f=none->H' f=some (lamO f qn params body scope clos pm c' ctv)->H' c'=some (recO c' qn)->Q (.ref f) s'):
 wpAny (model X.prog X.w) A (eval (.Lambda params body scope lpos) X.env) Q E s:=by
 obtain⟨ps,hP,tr,kq⟩:=t _ LC.tab
 dsimp only at hP kq
 have hPo:s.heap.get? P=some {cls:=.none,data:=.fields ps}:=I.hok P _ hP
 have hg:s.heap.Ns mainGlobals X.mg:=I.ok.mod.glob.keeps I.bk
 have C:PySem.W.CodeHd s.heap c P:=PySem.W.codeHd_of_K I.kIn LC.hd
 obtain⟨bm,ob,b1,b2,b3,b4,b6,b7,b8⟩:=LC.bm
 have b5:bm≠P:=fun z=>by
  have e:=I.bk _ _ b2
  rw[z,hPo]at e
  cases e
  cases b6
 have hB:s.heap.BuiltinsAt X.mg P:=⟨bm,ob,b1,b3,b4,b5,I.bk _ _ b2,b6,b7,b8⟩
 refine PySem.W.kla_eval hdef ?_
 rw[LC.qual]
 cases hq:codeAmong lpos ps.toList with
 |none=>
  refine PySem.W.kla_makeFunction hcl I.ok.glob hg LC.code C hPo tr hq LC.gP hB fun c' ctv h' tk hx hge hlt hrec htb=>?_
  have hle:s.heap.objs.size<=h'.objs.size:=Nat.le_trans hge (Nat.le_of_lt hlt)
  have cf:c'≠h'.objs.size:=Nat.ne_of_lt hlt
  have Hc:H c'=none:=I.hok.fresh hge
  have Hf:H h'.objs.size=none:=I.hok.fresh hle
  have Pc:P≠c':=ne_of_none hP Hc
  have Pf:P≠h'.objs.size:=ne_of_none hP Hf
  obtain⟨c2,oc,vs,tq,e2,hoc,hdc⟩:=id hrec
  cases e2
  have I2:=inv_lam (t':=tk) (u:=recO c' qn) (v:=lamO h'.objs.size qn params body scope clos ((X.mg "__name__").getD .none) c' ctv) (h':=h'.push (kla_obj "<lambda>" qn params body scope clos ((X.mg "__name__").getD .none) c' ctv)) (f:=h'.objs.size) I hP
   (fun b o nb e=>get?_push_of_some _ (hx b o nb e)) (get?_push_of_some _ htb) hge hle cf
   ⟨hrec.push _,⟨_,get?_push_of_some _ hoc⟩,fun g1 g2 z k=>by
    obtain⟨c3,o3,vs3,t3,e3,h3,r3⟩:=z
    cases e3
    exact⟨c',o3,vs3,t3,rfl,k _ h3,r3⟩⟩
   ⟨get?_push_size _ rfl,⟨_,get?_push_size _ rfl⟩,fun g1 g2 z k=>k _ z⟩
  refine h h'.objs.size c' _ ctv _ _ I2 ⟨fun b o e n=>?_,fun b qs e=>?_,fun t=>tabs_lam t LC.tab LC.one hP hq Hc Hf cf⟩ Hf upd_same (by rw[upd_ne cf,upd_same])
  . have nP:b≠P:=fun z=>by rw[z,hP]at e;cases e;cases n
    rw[upd_ne (ne_of_none e Hf),upd_ne (ne_of_none e Hc),upd_ne nP];exact e
  . by_cases z:b=P
    . exact⟨_,by rw[z,upd_ne Pf,upd_ne Pc,upd_same]⟩
    . exact⟨qs,by rw[upd_ne (ne_of_none e Hf),upd_ne (ne_of_none e Hc),upd_ne z];exact e⟩
 |some cv=>
  obtain⟨c',rfl,hc'⟩:=kq lpos cv hq
  refine PySem.W.kla_makeFunctionHit hcl I.ok.glob hg LC.code C hPo tr hq hB fun ctv h' tk hk hsz=>?_
  have Hf:H h'.objs.size=none:=I.hok.fresh hsz
  have I2:Inv X pins σ (upd H h'.objs.size (lamO h'.objs.size qn params body scope clos ((X.mg "__name__").getD .none) c' ctv)) {s with heap:=h'.push (kla_obj "<lambda>" qn params body scope clos ((X.mg "__name__").getD .none) c' ctv),toks:=tk}:=
   I.laid (fun b o e=>get?_push_of_some _ (hk b o e)) hsz ⟨get?_push_size _ rfl,⟨_,get?_push_size _ rfl⟩,fun g1 g2 z k=>k _ z⟩
  exact h h'.objs.size c' _ ctv _ _ I2 (same_new Hf) Hf upd_same ((same_new Hf).at hc')
end
def cxLam(X:Cx)(A:Around)(N:List Str)(qn:Str)(scope:Scope)(clos:List (Str×Addr))(f c:Addr)(s:Shared)(H:Hp)(R:Result->Shared->Prop):Cx where
 prog:=X.prog
 w:=X.w
 K:=X.K
 mg:=X.mg
 base:=X.base
 A:=A.deeper (envX qn scope s.heap.objs.size f (.ref c) clos)
 N:=N
 s₀:=s
 H₀:=H
 env:=envX qn scope s.heap.objs.size f (.ref c) clos
 outer:=X.stack
 stack:=envX qn scope s.heap.objs.size f (.ref c) clos::X.stack
 ex:=[]
 calm:=true
 fn:=fun _=>false
 pn:=[]
 xe:=fun e s'=>wpAny (model X.prog X.w) (A.deeper (envX qn scope s.heap.objs.size f (.ref c) clos)) (leaving (envX qn scope s.heap.objs.size f (.ref c) clos) e) (fun _ s''=>R (.error e) s'') (fun e' s''=>R (.error e') s'') s'
structure LamOk(X:Cx)(scope:Scope)(clos:List (Str×Addr))(p:Str)(caps:List (Str×Nat)):Prop where
 kind:scope.kind=.function
 co:scope.isCoroutine=false
 gen:scope.isGenerator=false
 nocell:∀x∈scope.names,x.2≠ .cell
 par:scope.names.lookup p=some .local
 cap:∀q∈caps,X.N[q.2]? =some q.1/\X.env.kindOf q.1=some .cell/\clos.lookup q.1=X.env.cells.lookup q.1/\scope.names.lookup q.1=some .free
 sub:∀x c,clos.lookup x=some c->X.env.cells.lookup x=some c
 has:∀x,scope.names.lookup x=some .free->∃c,clos.lookup x=some c
section
variable{X:Cx}{pins:List (Addr×Obj)}{σ:St}{H:Hp}{s:Shared}{f c:Addr}{A:Around}{scope:Scope}{clos:List (Str×Addr)}{p qn:Str}{caps:List (Str×Nat)}
theorem inv_lamStart(I:Inv X pins σ H s)(L:LamOk X scope clos p caps)(hd:A.handled=none)(e0:Env0 X.prog X.w X.K X.mg X.base A X.stack s H){u:Value}{v:V}(r:RelV v u){h1:Heap}{tk:Nat}{R:Result->Shared->Prop}
 (hns:h1.Ns s.heap.objs.size fun x=>[(p,u)].reverse.lookup x)(hk:∀b o,s.heap.get? b=some o->h1.get? b=some o):
 Inv (cxLam X A (p::caps.map (·.1)) qn scope clos f c s H R) [] ([some v]++capsOf (caps.map (·.2)) σ) H {s with heap:=h1,toks:=tk}:=by
 have noA:∀b:Addr,b∉(cxLam X A (p::caps.map (·.1)) qn scope clos f c s H R).ex:=fun b z=>absurd (show b∈([]:List Addr)from z) (by simp)
 refine⟨⟨e0.mod,L.kind,rfl,rfl,Nat.le_refl _,fun y z c' h1 h2=>?_,fun y hy=>?_,fun y c' z _=>?_,fun _=>hd,Around.frames_deeper e0.frames,.inr ⟨rfl,rfl⟩,fun b z=>absurd z (noA b),e0.bs,e0.bsz,fun b _ _=>noA b,fun b z=>absurd z (noA b),e0.funs,e0.frf⟩,
  rfl,e0.bare,Un.kept hk,⟨_,hns,fun i y v' h1 h2 h3=>?_⟩,fun y c' h=>?_,e0.hok.fresh (Nat.le_refl _),fun y c' h=>?_,fun p hp=>absurd (show p∈([]:List (Addr×Obj))from hp) (by simp),e0.hok.kept hk,?_⟩
 . exact I.ok.inj y z c' (L.sub y c' h1) (L.sub z c' h2)
 . have hy:scope.names.lookup y=some .cell\/scope.names.lookup y=some .free:=hy
   rcases hy with hy|hy
   . exact absurd rfl (L.nocell _ (PySem.mem_of_lookup hy))
   . exact L.has y hy
 . exact absurd (show false=true from z) (by simp)
 . cases i with
   |zero=>
    have e1:p=y:=by simpa[cxLam]using h1
    have e2:v=v':=by simpa using h2
    subst e1 e2
    exact⟨u,r,.inl ⟨L.par,by simp⟩⟩
   |succ i=>
    have e1:(caps.map (·.1))[i]? =some y:=by simpa[cxLam]using h1
    have e2:(capsOf (caps.map (·.2)) σ)[i]? =some (some v'):=by simpa using h2
    rw[getElem?_map]at e1
    cases eq:caps[i]? with
    |none=>rw[eq]at e1;cases e1
    |some q=>
     rw[eq]at e1
     have e3:q.1=y:=by simpa using e1
     subst e3
     obtain⟨c1,c2,c3,c4⟩:=L.cap q (mem_of_getElem? eq)
     unfold capsOf at e2
     rw[getElem?_map,getElem?_map,eq]at e2
     have e4:(σ[q.2]?).join=some v':=by simpa using e2
     have e5:σ[q.2]? =some (some v'):=by
      cases z:σ[q.2]? with
      |none=>rw[z]at e4;cases e4
      |some w=>rw[z]at e4;exact congrArg some e4
     obtain⟨m0,hn0,hl0⟩:=I.loc
     obtain⟨u',r',lk⟩:=hl0 q.2 q.1 v' c1 e5 (.inr (.inl c2))
     refine⟨u',r',.inr ⟨.inr c4,?_⟩⟩
     rcases lk with⟨k1,_⟩|⟨_,c',lc,o,ho,hdo⟩
     . rw[c2]at k1;cases k1
     . exact⟨c',c3.trans lc,o,hk _ _ ho,hdo⟩
 . obtain⟨v,o,ho,hd⟩:=I.cell y c' (L.sub y c' h)
   exact⟨v,o,hk _ _ ho,hd⟩
 . exact I.freeC y c' (L.sub y c' h)
 . simp[capsOf,cxLam]
def LamIn(K:PySem.W.Frag)(σ:St)(ρ:List (Option D))(f c:Addr)(qn:Str)(params:Arguments)(body:Expr)(scope:Scope)(clos:List (Str×Addr))(pm ctv:Value)(H:Hp)(Z:Zone):Prop:=
 H f=some (lamO f qn params body scope clos pm c ctv)/\H c=some (recO c qn)/\EnvIn K H Z σ ρ
variable{ρ:List (Option D)}{params:Arguments}{body:Expr}{pm ctv:Value}{g:D->D}{P0:D->Prop}{m:Bool}
theorem lam_keys(L:LamOk X scope clos p caps)(hd:A.handled=none)(hA:A.frames=X.A.frames)(hroom:A.depth<recursionLimit)
 (hb:∀u,bindArgs (PySem.W.kla_fn "<lambda>" qn params body scope clos pm (.ref c) ctv) ⟨[u],[]⟩=pure [(p,u)])
 (hbody:∀(s:Shared) (H:Hp) (R:Result->Shared->Prop) (d:D),P0 d->E (cxLam X A (p::caps.map (·.1)) qn scope clos f c s H R) m ([some d]++capD (caps.map (·.2)) ρ) body (g d)):
 Keys X A σ f g P0 (LamIn X.K σ ρ f c qn params body scope clos pm ctv) where
 zone:=fun{H Z Z'} hS hm ⟨a,b,en⟩=>⟨a,b,fun i d e=>let⟨v,x,y⟩:=en i d e;⟨v,x,y.carry (.of (Same.refl H) (fun a xs e z=>hS a _ e z) hm)⟩⟩
 same:=fun{H H' Z} sm ⟨a,b,en⟩=>⟨sm.at a,sm.at b,en.same sm⟩
 write:=fun{H Z l xs ys} hl n ⟨a,b,en⟩=>⟨by rw[upd_ne (ne_of a hl (by intro z;cases z))];exact a,by rw[upd_ne (ne_of b hl (by intro z;cases z))];exact b,fun i d e=>let⟨v,x,y⟩:=en i d e;⟨v,x,y.carry (.write hl n)⟩⟩
 run:=fun E' pins s H Z u d Q I oz ⟨ga,gb,en⟩ ⟨v,r,iv⟩ p0 k=>by
  have hfo:s.heap.get? f=some (kla_obj "<lambda>" qn params body scope clos pm c ctv):=(I.hok f _ ga).1
  have hrec:s.heap.CodeRec (.ref c) qn:=(I.hok c _ gb).1
  have e0:Env0 X.prog X.w X.K X.mg X.base A X.stack s H:=⟨hA.trans I.env0.frames,I.env0.mod,I.env0.bs,I.env0.bsz,I.env0.funs,I.env0.frf,I.env0.hok,I.env0.bare⟩
  refine wpAny_call (PySem.W.kla_callFunE hroom hfo rfl L.co L.gen rfl hrec ?_)
  rw[hb u]
  refine wpAny_pure (wpAny_newFunctionEnv L.nocell (fun x hx=>?_) (fun h1 hns hsb=>⟨I.nolimit.fresh _ hsb,?_⟩) L.kind)
  . have:x=(p,u):=by simpa using hx
    rw[this];exact L.par
  . show codeAny _ _ (.expr body (envX qn scope s.heap.objs.size f (.ref c) clos)) _ _
    have hk1:∀b o,s.heap.get? b=some o->h1.get? b=some o:=fun b o e=>hsb.extBut b o (Nat.ne_of_lt (lt_size e)) (get?_push_of_some _ e)
    refine PySem.W.kla_codeExpr ?_
    have J:=inv_lamStart (f:=f) (c:=c) (qn:=qn) (R:=fun r s'=>match r with|.ok (.ret v)=>Q v s'|.ok _=>False|.error e=>E' e s') (tk:=s.toks+1) I L hd e0 r hns hk1
    have en2:EnvIn X.K H Z ([some v]++capsOf (caps.map (·.2)) σ) ([some d]++capD (caps.map (·.2)) ρ):=envIn_caps en rfl fun i d' e=>by
     match i,e with
     |0,e=>cases e;exact⟨v,rfl,iv⟩
    have run:=hbody s H (fun r s'=>match r with|.ok (.ret v)=>Q v s'|.ok _=>False|.error e=>E' e s') d p0 [] _ _ H (fun v' H'=>Same H H'/\In X.K H' (out m Z H) (g d) v') J ⟨Z,oz,en2,fun v' H' sm i=>⟨sm,i⟩⟩
    refine wpAny_mono run (fun w s' ⟨v',H',J',rw',sm,iw⟩=>?_) fun _ _ z=>z
    obtain⟨v2,H2,I2,r2,sm2,iw2⟩:=I.after (Q:=fun v' H'=>Same H H'/\In X.K H' (out m Z H) (g d) v') (u:=w) (s':=s') ⟨v',H',J'.os,J'.bare,J'.base,J'.hok,rw',sm,iw⟩
    exact k w H2 s' I2 sm2 ⟨v2,r2,iw2.plain oz⟩
end
theorem args_sortedK(a f:Value):argsOk "sorted" ⟨[a],[(("key":Str),f)]⟩:=by unfold argsOk;kernel_rfl
theorem args_sortK(a f:Value):argsOk "list.sort" ⟨[a],[(("key":Str),f)]⟩:=by unfold argsOk;kernel_rfl
section
variable{X:Cx}{ρ:List (Option D)}{m m1 mb:Bool}{a:Expr}{ds:List D}{p pos lpos kp:Pos}{P P0:D->Prop}{kd:SortKind}{c Pt:Addr}{qn pn:Str}{params:Arguments}{body:Expr}{scope:Scope}{clos:List (Str×Addr)}{caps:List (Str×Nat)}{g:D->D}
theorem e_sortedK(ha:E X m1 ρ a (.lst ds))(LC:LamCx X c Pt qn)(LO:LamOk X scope clos pn caps)(hcl:closureFor scope X.env=pure clos)
 (hbody:∀(f c':Addr) (s:Shared) (H:Hp) (R:Result->Shared->Prop) (d:D),P0 d->E (cxLam X X.A.in1.in1 (pn::caps.map (·.1)) qn scope clos f c' s H R) mb ([some d]++capD (caps.map (·.2)) ρ) body (g d))
 (hb:∀(c':Addr) (pm ctv u:Value),bindArgs (PySem.W.kla_fn "<lambda>" qn params body scope clos pm (.ref c') ctv) ⟨[u],[]⟩=pure [(pn,u)])
 (L:Lin P)(kk:KindOf P kd)(hP:∀d∈ds,P0 d/\P (g d)/\X.A.units+2+(g d).dep<cLine)(inj:∀x∈ds,∀y∈ds,g x=g y->x=y)(h64:ds.length<64)(hh:X.A.handled=none)(hroom:X.A.depth<recursionLimit)(hm:X.mg "sorted"=none)
 (hmm:m=true->m1=true\/flats ds=true:=by intro h;first|exact .inl h|cases h)(hdef:defaultsOf params X.env=([],[]):=by rfl)
 (hg:Gl X "sorted":=by rfl)(hs:starEach [a] X.env=[(false,eval a X.env)]:=by rfl):E X m ρ (.Call (.Name "sorted" p) [a] [⟨some "key",.Lambda params body scope lpos,kp⟩] pos) (.lst (srt g ds)):=by
 intro pins s σ H Q I ⟨Z,oz,en,k⟩
 refine wpAny_Call_Name_kw (ld_blt I hg hm boot_sorted ?_ (by decide) (by decide))
 have PAa:=pa_cons ha pa_nil (by rw[hs];rfl)
 refine callWith_kw (thn (PAa pos pins s σ H (fun vs H1=>Same H H1/\ ∃x,vs=[x]/\In X.K H1 (out m1 Z H) (.lst ds) x) I ⟨Z,oz,en,fun x H1 s1 i1=>⟨s1,x,rfl,i1⟩⟩) fun us s1 ⟨vs,H1,I1,r1,sm1,x,e,i1⟩=>?_) (by rw[hs];rfl) (by rw[hs];rfl) rfl rfl
 subst e
 obtain⟨l,xs,rfl,at',j⟩:=in_lst.mp i1
 obtain⟨u,rfl,rx⟩:=vals1 r1
 cases rx
 refine kws_cons (lam_eval LC I1 (sm1.tabs oz.tb) hdef hcl fun f c' pm ctv H2 s2 I2 sm2 Hf hf hc'=>?_)
 refine kws_nil ?_
 show wpAny _ _ (call (.builtin "sorted") [.ref l] [(("key":Str),.ref f)]) _ _ _
 have sm12:=sm1.trans sm2
 obtain⟨its,rv,pl,hz⟩:=I2.list (sm2.seq at'.sq)
 have z1:=j.length;have z2:=rv.length
 refine call_function_entry_kw kind_sorted plain_sorted entry_sorted (args_sortedK _ _) ?_
 unfold Builtin.«sorted»
 refine wpAny_bind (m:=checkCount "sorted" 1 1 _) (wpAny_pure ?_)
 refine wpAny_bind (collect_list pl.isList ?_ (by omega))
 refine wpAny_bind (wpAny_newList ?_)
 have hsz:((s2.heap.push (seqObj "list" #[] 0)).update s2.heap.objs.size (Obj.mapSeq (· ++its.toArray))).objs.size=s2.heap.objs.size+1:=by
  rw[Heap.size_update,size_push']
 have hoL:(((s2.heap.push (seqObj "list" #[] 0)).update s2.heap.objs.size (Obj.mapSeq (· ++its.toArray))).push (seqObj "list" its.toArray 0)).get? (s2.heap.objs.size+1)=some (seqObj "list" its.toArray 0):=by
  rw[<-hsz];exact get?_push_size _ rfl
 have kp:∀b o,s2.heap.get? b=some o->(((s2.heap.push (seqObj "list" #[] 0)).update s2.heap.objs.size (Obj.mapSeq (· ++its.toArray))).push (seqObj "list" its.toArray 0)).get? b=some o:=fun b o e=>by
  have lb:=lt_size e
  rw[Heap.get?_push_ne _ _ _ (by rw[hsz];exact Nat.ne_of_lt (Nat.lt_succ_of_lt lb)),Heap.get?_update_ne _ _ _ _ (Nat.ne_of_lt lb),Heap.get?_push_ne _ _ _ (Nat.ne_of_lt lb)]
  exact e
 show wpAny _ _ _ _ _ {s2 with heap:=((s2.heap.push (seqObj "list" #[] 0)).update s2.heap.objs.size (Obj.mapSeq (· ++its.toArray))).push (seqObj "list" its.toArray 0),toks:=s2.toks}
 rw[hsz]
 have KK:Keys X X.A.in1.in1 σ f g P0 (LamIn X.K σ ρ f c' qn params body scope clos pm ctv):=lam_keys LO hh rfl hroom (hb c' pm ctv) (hbody f c')
 have jz:Ins X.K H2 Z ds xs:=by
  have j2:=j.same sm2
  cases m1
  . exact j2
  . exact j2.up oz
 refine wpAny_bind (wpAny_holding (wpAny_call_entry_kw slot_list_sort ⟨_,hoL,rfl⟩ entry_list_sort (sort_key (s:=s2) (t1:=s2.toks) KK L kk (fun d hd=>hP d hd) inj I2 (oz.same sm12) ⟨hf,hc',en.same sm12⟩ jz rv (by omega) kp (Nat.le_succ _) hoL fun H3 s3 prs I3 sm3 Ha hl3 pp e3=>⟨_,rfl,?_⟩) (args_sortK _ _)))
 refine wpAny_pure ⟨_,rfl,.ref (s2.heap.objs.size+1),H3,I3,rfl,k _ H3 (sm12.trans sm3) (in_lst.mpr ⟨_,_,rfl,.inl ⟨hl3,?_⟩,?_⟩)⟩
 . cases m
   . exact oz.op _ (sm12.free Ha)
   . exact sm12.free Ha
 . have j0:=ins_of_mem fun z hz=>ins_zip j z (pp.mem_iff.mp hz)
   rw[e3]at j0
   have jc:=(j0.same sm2).same sm3
   cases m
   . cases m1
     . exact jc
     . exact jc.up oz
   . rcases hmm rfl with h|h
     . subst h;exact jc
     . exact jc.flat' (flats_perm (srt_perm _ _) h)
end
end Y
namespace Y
open PySem PySem.Spec PyProof.Rows L2
variable[Tabs]
section
variable{K:PySem.W.Frag}{H:Hp}{Z Z':Zone}
theorem in_kD{k:Key}{v:V}(h:In K H Z (kD k) v):v=kV k:=by
 cases k with
 |inl i=>exact in_int.mp h
 |inr x=>exact in_str.mp h
theorem ins_kD:∀{ks:List Key} {vs:List V},Ins K H Z (ks.map kD) vs->vs=ks.map kV
 |[],_,h=>ins_nil.mp h
 |k::ks,_,h=>by
  obtain⟨v,r,rfl,a,j⟩:=ins_cons.mp h
  rw[in_kD a,ins_kD j];rfl
end
section
variable{X:Cx}{ρ:List (Option D)}{m m1 m2 m3:Bool}{a b c o e f:Expr}{d dk:D}{pos ap cp:Pos}{D0:DO}{r:Option V}
theorem e_dnewK:E X true ρ (.Dict [] [] pos) (.dct (.k [])):=PE.mono pe_dnewK fun σ H Q z0=>el13 z0 fun Z oz en k=>fun p hp=>k (.ref p) _ (same_new hp) (in_dct.mpr ⟨p,rfl,upd_same,hp⟩)
end
end Y
namespace Y
def bl(x:Nat):Nat:=if x=0 then 0 else x.log2+1
end Y
namespace Y
open PySem PySem.Spec PyProof.Rows L2
variable[Tabs]
def up2{α:Type}(z:α)(p:D->D->α):D->α
 |.tup [a,b]=>p a b
 |_=>z
section
variable{X:Cx}{ρ:List (Option D)}{m m1:Bool}{ds:List D}{pos:Pos}
def tcD2(K:PySem.W.Frag)(js:List Nat)(ρ:List (Option D))(ds:List D)(p:D->D->Bool)(i:Nat):TT:=fun σ H Q=>∃a b,ds[i]? =some (.tup [a,b])/\tB' K ([some a,some b]++capD js ρ) (p a b) σ H Q
def teD2(K:PySem.W.Frag)(js:List Nat)(ρ:List (Option D))(ds:List D)(p:D->D->Bool)(f:D->D->D)(me:Bool)(i:Nat):TE:=fun σ H Q=>∃a b,ds[i]? =some (.tup [a,b])/\p a b=true/\tE K me ([some a,some b]++capD js ρ) (f a b) σ H Q
theorem comp_reads2{js:List Nat}{me:Bool}(p:D->D->Bool)(f:D->D->D)(hpair:∀d∈ds,∃a b,d=.tup [a,b])(hz:ds.length<=sizeLine)(hm:m=true->me=true\/ ∀d∈ds,(up2 .non f d).flat=true)(σ:St)(H:Hp)(Q:VK)(h:tE X.K m ρ (.lst ((ds.filter (up2 false p)).map (up2 .non f))) σ H Q):
 tComp (tIT X.K m1 ρ ds) 2 js (gTup X.K 2 (gCons (gName 0) (gCons (gName 1) gNil))) (tcD2 X.K js ρ ds p) (teD2 X.K js ρ ds p f me) σ H Q:=by
 obtain⟨Z,oz,en,k⟩:=h
 refine⟨Z,oz,en,fun J H1 vs srcs s1 i1 Y l hl=>?_⟩
 have hlH:H l=none:=s1.free hl
 have noL:∀{ds:List D} {vs:List V} {Z':Zone} {Ha Hb:Hp},Ha l=none->Same Ha Hb->Ins X.K Ha Z' ds vs->Ins X.K Hb ⟨Z'.m,fun a=>Z'.S a/\a≠l⟩ ds vs:=fun{ds vs Z' Ha Hb} ha sa h=>Ins.carry (Z':=⟨Z'.m,fun a=>Z'.S a/\a≠l⟩) (Carry.of sa (fun a zs e z=>⟨z,ne_of_none e ha⟩) fun m=>m) h
 have noL1:∀{d:D} {v:V} {Z':Zone} {Ha Hb:Hp},Ha l=none->Same Ha Hb->In X.K Ha Z' d v->In X.K Hb ⟨Z'.m,fun a=>Z'.S a/\a≠l⟩ d v:=fun{d v Z' Ha Hb} ha sa h=>In.carry (Z':=⟨Z'.m,fun a=>Z'.S a/\a≠l⟩) (Carry.of sa (fun a zs e z=>⟨z,ne_of_none e ha⟩) fun m=>m) h
 refine⟨fun i n xs H'=>n=ds.length-i/\i<=ds.length/\Same H1 H'/\H' l=some (.lst xs)/\xs.length<=i/\Ins X.K H' ⟨(out m Z H).m,fun a=>(out m Z H).S a/\a≠l⟩ (((ds.take i).filter (up2 false p)).map (up2 .non f)) xs,⟨ds.length,by simp,Nat.zero_le _,same_new hl,upd_same,Nat.zero_le _,by simp;exact ins_nil.mpr rfl⟩,?_⟩
 rintro i n xs H' ow how ⟨rfl,hi',s1',hl',hxi,jx⟩
 refine⟨hl',?_⟩
 have srcsZ:Ins X.K H1 Z srcs vs:=by
  cases m1
  . exact i1
  . exact i1.up oz
 let Zl:Zone:=⟨Z.m,fun a=>Z.S a/\a≠l⟩
 have opl:∀{Ha:Hp} {o:HO},Same H Ha->Ha l=some o->Zl.Open Ha:=fun sa e=>⟨fun a ha=>⟨oz.op a (sa.free ha),by rintro rfl;rw[e]at ha;cases ha⟩,sa.tabs oz.tb⟩
 by_cases hlt:i<ds.length
 . have hd0:ds[i]? =some ds[i]:=by simp[hlt]
   obtain⟨da,db,hab⟩:=hpair ds[i] (getElem_mem hlt)
   have hd:ds[i]? =some (.tup [da,db]):=by rw[hd0,hab]
   obtain⟨go,yl⟩:=Y.go Zl H' (opl (s1.trans s1') hl') (noL hl s1' srcsZ) i _ hd
   refine .inr ⟨go,fun y H2 hy=>?_⟩
   obtain⟨s2,iy⟩:=yl y H2 hy
   have hl2:H2 l=some (.lst xs):=s2.at hl'
   have sH2:Same H H2:=(s1.trans s1').trans s2
   obtain⟨w1,w2,rfl⟩:∃w1 w2,ow=[w1,w2]:=by
    match ow,how with
    |[w1,w2],_=>exact⟨w1,w2,rfl⟩
   obtain⟨ta,txs,rfl,tt,tj⟩:=in_tupS iy
   obtain⟨v1,r1,rfl,iv1,tj1⟩:=ins_cons.mp tj
   obtain⟨v2,r2,rfl,iv2,tj2⟩:=ins_cons.mp tj1
   cases ins_nil.mp tj2
   have en2:EnvIn X.K H2 Zl ([some v1,some v2]++capsOf js σ) ([some da,some db]++capD js ρ):=envIn_caps (fun i d e=>let⟨v,a,b⟩:=en i d e;⟨v,a,InT.carry (Z':=Zl) (Carry.of sH2 (fun a zs e z=>⟨z,ne_of_none e hlH⟩) fun m=>m) b⟩) rfl fun i d e=>by
    match i,e with
    |0,e=>cases e;exact⟨v1,rfl,iv1⟩
    |1,e=>cases e;exact⟨v2,rfl,iv2⟩
   refine⟨ta,_,rfl,tt,rfl,v1,_,rfl,v2,_,rfl,rfl,⟨[some v1,some v2],rfl,rfl⟩,da,db,hd,Zl,opl sH2 hl2,en2,fun H3 s3=>?_⟩
   have hl3:H3 l=some (.lst xs):=s3.at hl2
   have st:(ds.take (i+1)).filter (up2 false p)=(ds.take i).filter (up2 false p)++(if p da db then[D.tup [da,db]]else[]):=take_succ_filter (up2 false p) ds i _ hd
   cases hp:p da db with
   |false=>
    refine iteF ?_
    refine⟨ds.length-(i+1),by omega,rfl,hlt,(s1'.trans s2).trans s3,hl3,by omega,?_⟩
    rw[st,hp]
    simp only[Bool.false_eq_true,if_false,append_nil]
    exact jx.same (s2.trans s3)
   |true=>
    refine iteT ?_
    refine⟨da,db,hd,hp,Zl,opl (sH2.trans s3) hl3,en2.same s3,fun v H4 s4 iv=>?_⟩
    have hl4:H4 l=some (.lst xs):=s4.at hl3
    refine⟨hl4,by omega,ds.length-(i+1),by omega,rfl,hlt,((s1'.trans s2).trans (s3.trans s4)).write hl hl4,upd_same,by rw[List.length_append];simp;omega,?_⟩
    . rw[st,hp]
      simp only[if_true,map_append,map_cons,map_nil]
      have n:¬(⟨(out m Z H).m,fun a=>(out m Z H).S a/\a≠l⟩:Zone).S l:=fun z=>z.2 rfl
      refine Ins.append ((jx.same (s2.trans (s3.trans s4))).carry (.write hl4 n)) (Ins.one ?_)
      refine In.carry (.write hl4 n) ?_
      show In X.K H4 _ (f da db) v
      cases m with
      |false=>exact iv.plain (opl (sH2.trans s3) hl3)
      |true=>
       rcases hm rfl with h|h
       . subst h
         exact In.carry (Z:=nw H3) (Z':=⟨true,fun a=>H a=none/\a≠l⟩) ⟨fun a zs e z=>⟨e,(sH2.trans s3).free z,by rintro rfl;have z:H3 a=none:=z;rw[hl3]at z;cases z⟩,fun m=>nwF m,fun _ _ e=>e⟩ iv
       . have:=h _ (mem_of_getElem? hd)
         exact iv.flat' this
 . have e:i=ds.length:=by omega
   subst e
   refine .inl ⟨Y.stop Zl H' (opl (s1.trans s1') hl') (noL hl s1' srcsZ),k (.ref l) H' (s1.trans s1') (in_lst.mpr ⟨l,xs,rfl,.inl ⟨hl',?_⟩,?_⟩)⟩
   . cases m
     . exact oz l hlH
     . exact hlH
   . rw[take_length]at jx
     exact Ins.carry (Z:=⟨(out m Z H).m,fun a=>(out m Z H).S a/\a≠l⟩) (Z':=out m Z H) (Carry.of (Same.refl H') (fun a zs e z=>And.left z) fun m=>m) jx
theorem ec_comp2{elt iter:Expr}{x y:Str}{px py pt:Pos}{kt:Nat}{ifs:List Expr}{scope:Scope}{me:Bool}(caps:List Str)(js:List Nat)(p:D->D->Bool)(f:D->D->D)(hi:IT X (.Tuple [.Name x px,.Name y py] kt pt) m1 ρ iter ds)
 (hpair:∀d∈ds,∃a b,d=.tup [a,b])
 (ht:∀C s H fp a b,D.tup [a,b]∈ds->TS' (blk X ([x,y]++caps) scope C s H fp) ([some a,some b]++capD js ρ) ifs (p a b))(he:∀C s H fp a b,D.tup [a,b]∈ds->p a b=true->E (blk X ([x,y]++caps) scope C s H fp) me ([some a,some b]++capD js ρ) elt (f a b))
 (hz:ds.length<=sizeLine)(hm:m=true->me=true\/ ∀d∈ds,(up2 .non f d).flat=true:=by intro h;first|exact .inl h|cases h)(hc:X.calm=true:=by rfl)
 (B:BlkScope X scope [x,y] caps js:=by exact⟨rfl,by decide,by decide,by decide,by decide,by decide,by repeat (first|exact trivial|refine⟨⟨rfl,by first|exact .inl rfl|exact .inr rfl⟩,?_⟩),by decide⟩)
 (hs:∀x,foldedSetIterable iter X.env x=pure x:=by intro _;rfl)(hes:∀env:Env,(assignEach [.Name x px,.Name y py] env).map (·.2)=[assign (.Name x px) env,assign (.Name y py) env]:=by intro _;rfl)(hes2:∀env:Env,(assignEach [.Name y py] env).map (·.2)=[assign (.Name y py) env]:=by intro _;rfl)
 (hen:∀env:Env,(assignEach [.Name x px,.Name y py] env).length=2:=by intro _;rfl)(hst:∀env:Env,(assignEach [.Name x px,.Name y py] env).findIdx? (·.1)=none:=by intro _;rfl):EC X m ρ (.ListComp elt [⟨.Tuple [.Name x px,.Name y py] kt pt,iter,ifs,0⟩] scope pos) (.lst ((ds.filter (up2 false p)).map (up2 .non f))):=by
 have hg1:∀C s H fp,PG (blk X ([x,y]++caps) scope C s H fp) (.Name x px) (gName 0):=fun C s H fp=>pg_name (i:=0) B.nd rfl (.inl (lookup_relabel_local (B.own x (by simp)))) (.inr (lookup_relabel_local (B.own x (by simp))))
 have hg2:∀C s H fp,PG (blk X ([x,y]++caps) scope C s H fp) (.Name y py) (gName 1):=fun C s H fp=>pg_name (i:=1) B.nd rfl (.inl (lookup_relabel_local (B.own y (by simp)))) (.inr (lookup_relabel_local (B.own y (by simp))))
 have hg:∀C s H fp,PG (blk X ([x,y]++caps) scope C s H fp) (.Tuple [.Name x px,.Name y py] kt pt) (gTup X.K 2 (gCons (gName 0) (gCons (gName 1) gNil))):=fun C s H fp=>
  pg_tup (X:=blk X ([x,y]++caps) scope C s H fp) hc (pgs_cons (hg1 C s H fp) (pgs_cons (hg2 C s H fp) pgs_nil (by rw[hes2];rfl)) (by rw[hes,hes2])) (hen _) (hst _)
 have ht':∀C s H fp i,PTs (blk X ([x,y]++caps) scope C s H fp) ifs (tcD2 X.K js ρ ds p i):=fun C s H fp i pins s' σ H' Q I h=>by
  obtain⟨a,b,hd,h⟩:=h
  exact ht C s H fp a b (mem_of_getElem? hd) pins s' σ H' Q I h
 have he':∀C s H fp i,PE (blk X ([x,y]++caps) scope C s H fp) elt (teD2 X.K js ρ ds p f me i):=fun C s H fp i pins s' σ H' Q I h=>by
  obtain⟨a,b,hd,hp,h⟩:=h
  exact he C s H fp a b (mem_of_getElem? hd) hp pins s' σ H' Q I h
 refine⟨PE.mono (pe_comp (own:=[x,y]) (caps:=caps) hc B hi hg ht' he' hs) fun σ H Q h=>comp_reads2 p f hpair hz hm σ H Q h,fun y' k spos py' hN hk hy hsw hf=>?_⟩
 exact PS.mono' (ps_comp (own:=[x,y]) (caps:=caps) hN hk hy hc B hi hg ht' he' hsw hf hs) fun Q σ H h=>comp_reads2 p f hpair hz hm σ H _ h
end
inductive Pt where
 |word(w:Str)
 |beg(w:Str)
 |fin(w:Str)
 |any
 |upto(n:Nat)
 |inn(q:List (List Pt))
def qpartW(ways uptos:Int)(ws:List Str)(c:Int):Pt:=
 if part c 30 ways=0 then .any else if part c 30 ways=1 then .upto (part c 31 uptos).toNat else
  let z:=ws.getD (part c 32 4).toNat ""
  let n:=1+part c 33 z.length
  if part c 30 ways=2 then .beg (Txt.slice z none (some n))else if part c 30 ways=3 then .fin (Txt.slice z (some ((z.length:Int)-n)) none)else .word z
abbrev pp(ws:List Str)(c:Int):Pt:=qpartW 6 4 ws c
end Y
namespace L2
open PySem PySem.Spec PyProof.Rows
end L2
namespace Y
open PySem PySem.Spec PyProof.Rows L2
variable[Tabs]
def behind(f g:List (Nat×Nat)):List (Nat×Nat):=f.flatMap fun s=>(g.filter fun t=>decide (t.1=s.2)).map fun t=>(s.1,t.2)
end Y
namespace Y
open PySem PySem.Spec PyProof.Rows L2
open AutoSeq1 in
theorem key_next(it d:Addr)(es:Array DictEntry)(i ep:Nat)(dd de:Option Addr)(sl sm:Array (Option Value))(hi:i<es.size):
 Meets (Builtin.«dict_keyiterator.__next__» ⟨[.ref it],[]⟩) (fun _ R s=>s.heap.get? it=some ⟨.type "dict_keyiterator",dd,.fields #[.ref d,.int i 0,.int es.size 0,.int ep 0],sl⟩/\s.heap.get? d=some ⟨.type "dict",de,.dict es ep,sm⟩/\
  R (.ok (.ret es[i].key)) {s with heap:=s.heap.update it (Obj.mapFields (·.setIfInBounds 1 (rawInt ((i:Int)+1))))}):=
 .of_wp fun prog w A R s h=>by
  obtain⟨hp,g,dm,tk,os⟩:=s
  obtain⟨hl,hb,h⟩:=h
  wp_walk using wpAny_loadPart' hl,wpAny_loadPart' hb
  have at_i:(if(i:Int)<0 then none else es[(i:Int).toNat]?)=some es[i]:=by
   rw[if_neg (Int.not_lt.mpr (Int.natCast_nonneg i)),Int.toNat_natCast,Array.getElem?_eq_getElem hi]
  rw[at_i]
  have one:Builtin.Dict_items.ownsTuple ((Manifest.find? "dict_keyiterator").elim "dict_keyiterator" fun x=>x.tpName)=false:=by kernel_rfl
  have new:=Heap.get?_update_self (Obj.mapFields (·.setIfInBounds 1 (rawInt ((i:Int)+1)))) hl rfl
  wp_walk using wpAny_loadPart' hl
  simp only[one]
  wp_walk using wpAny_setField hl rfl (by decide),wpAny_loadPart' new
  exact⟨_,rfl,h⟩
open AutoSeq1 in
theorem key_end(it d:Addr)(es:Array DictEntry)(i ep:Nat)(dd de:Option Addr)(sl sm:Array (Option Value))(hi:es.size<=i):
 Meets (Builtin.«dict_keyiterator.__next__» ⟨[.ref it],[]⟩) (fun A R s=>A.handled=none/\s.heap.get? it=some ⟨.type "dict_keyiterator",dd,.fields #[.ref d,.int i 0,.int es.size 0,.int ep 0],sl⟩/\s.heap.get? d=some ⟨.type "dict",de,.dict es ep,sm⟩/\
  ∀h' e,Heap.ExtBut it s.heap h'->(∃o,h'.get? e=some o/\o.cls=.type "StopIteration")->R (.error (.ref e)) {s with heap:=h'}):=
 .of_wp fun prog w A R s h=>by
  obtain⟨hp,g,dm,tk,os⟩:=s
  obtain⟨hh,hl,hb,h⟩:=h
  wp_walk using wpAny_loadPart' hl,wpAny_loadPart' hb
  have at_i:(if(i:Int)<0 then none else es[(i:Int).toNat]?)=none:=by
   rw[if_neg (Int.not_lt.mpr (Int.natCast_nonneg i)),Int.toNat_natCast,Array.getElem?_eq_none hi]
  have one:Builtin.Dict_items.ownsTuple ((Manifest.find? "dict_keyiterator").elim "dict_keyiterator" fun x=>x.tpName)=false:=by kernel_rfl
  rw[at_i]
  wp_walk using wpAny_loadPart' hl,wpAny_setField hl rfl
  . rw[one];exact Nat.zero_lt_succ _
  unfold newExc newTuple raiseNew
  have hh1:A.in1.handled=none:=hh
  wp_walk using wpAny_newObj_type
  . exact h _ _ (((Heap.SameBut.update ..).extBut.push _).push _) ⟨_,get?_push_size _ rfl,rfl⟩
  all_goals size_fits
open AutoSeq1 in
theorem key_iter(d:Addr)(es:Array DictEntry)(ep:Nat)(de:Option Addr)(sm:Array (Option Value))(hn:(d==sysModules)=false):
 Meets (Builtin.«dict.__iter__» ⟨[.ref d],[]⟩) (fun A R s=>s.heap.get? d=some ⟨.type "dict",de,.dict es ep,sm⟩/\
  R (.ok (.ret (.ref s.heap.objs.size))) {s with heap:=s.heap.push {cls:=.type "dict_keyiterator",data:=.fields #[.ref d,.int 0 0,.int es.size 0,.int ep 0]}}):=
 .of_wp fun prog w A R s h=>by
  obtain⟨hp,g,dm,tk,os⟩:=s
  obtain⟨hl,h⟩:=h
  wp_walk using wpAny_loadPart' hl
  exact⟨_,rfl,h⟩
section
variable{prog:Program}{w:World}{A:Around}{E:Value->Shared->Prop}{s:Shared}{it d:Addr}{i ep:Nat}{es:Array DictEntry}{sm:Array (Option Value)}
theorem keys_iter{Q:Value->Shared->Prop}(hn:(d==sysModules)=false)(ho:s.heap.get? d=some ⟨.type "dict",none,.dict es ep,sm⟩)
 (q:Q (.ref s.heap.objs.size) {s with heap:=s.heap.push {cls:=.type "dict_keyiterator",data:=.fields #[.ref d,.int 0 0,.int es.size 0,.int ep 0]}}):wpAny (model prog w) A (pyIter (.ref d)) Q E s:=
 have t:s.TypeIs (.ref d) "dict":=⟨_,ho,rfl⟩
 wpAny_pyIter_slot t F.slot_dict_iter (call_meets F.slot_dict_iter t F.entry_dict_iter (F.args_dict_iter_1 _) (key_iter d es ep none sm hn) ⟨ho,"dict_keyiterator",_,⟨_,get?_push_size _ rfl,rfl⟩,F.slot_dict_keyiterator_next.lookup,q⟩)
theorem keys_item{Q:Option Value->Shared->Prop}(st:s.heap.IsKeyIter it d i es.size ep)(ho:s.heap.get? d=some ⟨.type "dict",none,.dict es ep,sm⟩)(hi:i<es.size)
 (q:∀h',h'.IsKeyIter it d (i+1) es.size ep->Heap.SameBut it s.heap h'->Q (some es[i].key) {s with heap:=h'}):wpAny (model prog w) A (pyNext (.ref it)) Q E s:=by
 have T:=st.typeIs
 obtain⟨⟨c,dd,dt,sl⟩,hl,hc,hd⟩:=st
 obtain rfl:c=_:=hc
 obtain rfl:dt=_:=hd
 have run:=call_meets (E:=fun _ _=>False) (Q:=fun v s'=>v=es[i].key/\ ∃h',h'.IsKeyIter it d (i+1) es.size ep/\Heap.SameBut it s.heap h'/\s'={s with heap:=h'}) (prog:=prog) (w:=w) (A:=A) F.slot_dict_keyiterator_next T F.entry_dict_keyiterator_next (F.args_dict_keyiterator_next_1 _) (key_next it d es i ep dd none sl sm hi)
  ⟨hl,ho,rfl,_,⟨_,Heap.get?_update_self _ hl rfl,rfl,by simp[Obj.mapFields,rawInt]⟩,Heap.SameBut.update ..,rfl⟩
 unfold pyNext
 exact wpAny_bind (wpAny_attempt (wpAny_callSpecial?_slot T F.slot_dict_keyiterator_next (wpAny_mono run (fun v s' ⟨e,h',k1,k2,e'⟩=>by subst e e';exact wpAny_pure (q h' k1 k2)) fun _ _ f=>f.elim)))
theorem keys_end{Q:Option Value->Shared->Prop}(hh:A.handled=none)(st:s.heap.IsKeyIter it d i es.size ep)(ho:s.heap.get? d=some ⟨.type "dict",none,.dict es ep,sm⟩)(hi:es.size<=i)
 (q:∀h',Heap.ExtBut it s.heap h'->Q none {s with heap:=h'}):wpAny (model prog w) A (pyNext (.ref it)) Q E s:=by
 have T:=st.typeIs
 obtain⟨⟨c,dd,dt,sl⟩,hl,hc,hd⟩:=st
 obtain rfl:c=_:=hc
 obtain rfl:dt=_:=hd
 have run:=call_meets (Q:=fun _ _=>False) (E:=fun x s'=>∃h' e,x=.ref e/\Heap.ExtBut it s.heap h'/\(∃o,h'.get? e=some o/\o.cls=.type "StopIteration")/\s'={s with heap:=h'}) (prog:=prog) (w:=w) (A:=A) F.slot_dict_keyiterator_next T F.entry_dict_keyiterator_next (F.args_dict_keyiterator_next_1 _) (key_end it d es i ep dd none sl sm hi)
  ⟨hh,hl,ho,fun h' e k1 k2=>⟨h',e,rfl,k1,k2,rfl⟩⟩
 unfold pyNext
 refine wpAny_bind (wpAny_attempt (wpAny_callSpecial?_slot T F.slot_dict_keyiterator_next (wpAny_mono run (fun _ _ f=>f.elim) fun x s' ⟨h',e,ex,k1,⟨o,k2,k3⟩,es'⟩=>?_)))
 subst ex es'
 exact wpAny_bind (wpAny_isInstance (b:=true) ⟨o,k2,k3⟩ isSubtype_stop (wpAny_pure (q h' k1)))
end
end Y
namespace Y
open PySem PySem.Spec PyProof.Rows L2
variable[Tabs]
section
variable{X:Cx}{ρ:List (Option D)}{m m1:Bool}{e i:Expr}{tg:Expr}{p pos:Pos}{x:Str}{a:Addr}{kss:List (List Key)}
variable{f:Expr}{m2:Bool}
theorem kV_in{K:PySem.W.Frag}{H:Hp}{Z:Zone}(q:Key):In K H Z (kD q) (kV q):=by
 cases q with
 |inl n=>exact in_int.mpr rfl
 |inr y=>exact in_str.mpr rfl
end
end Y
namespace Y
open PySem PySem.Spec PyProof.Rows L2 PySem.SeqAt
variable[Tabs]
theorem vals2{a b:V}{u v:Value}(h1:RelV a u)(h2:RelV b v):Vals [a,b] [u,v]:=.cons h1 (.cons h2 .nil)
theorem rel_of_is{P:Program}{w:World}{k:Key}{u:Value}(h:(mixKind P w).is k u=true):RelV (kV k) u:=by
 rw[mixKind_is]at h
 rcases keyIs_shape h with⟨i,t,rfl,rfl⟩|⟨x,t,rfl,rfl⟩
 . exact⟨t,rfl⟩
 . exact⟨t,rfl⟩
section
variable{X:Cx}{pins:List (Addr×Obj)}{σ:St}{H:Hp}{s:Shared}{Z:Zone}{A:Around}{P:D->Prop}{kd:SortKind}{E:Value->Shared->Prop}{a:Addr}
theorem sort_plain(L:Lin P)(kk:KindOf P kd){ds:List D}{xs:List V}{us:List Value}(hP:∀d∈ds,P d/\A.units+d.dep<cLine)(I:Inv X pins σ H s)(j:Ins X.K H Z ds xs)(rv:Vals xs us)(h64:us.length<64){h1:Heap}{t1 n:Nat}
 (k1:∀b o,s.heap.get? b=some o->h1.get? b=some o)(la:s.heap.objs.size<=a)(ho:h1.get? a=some (seqObj "list" us.toArray n)){R:Fin->Shared->Prop}
 (fin:∀s' (prs:List (V×D)),Inv X pins σ (upd H a (.lst (prs.map (·.1)))) s'->prs.Perm (xs.zip ds)->prs.map (·.2)=srt id ds->R (.done (.ret .none)) s'):
 wpAny (model X.prog X.w) A (Builtin.«list.sort» ⟨[.ref a],[]⟩) R E {s with heap:=h1,toks:=t1}:=by
 have z1:=j.length;have z2:=rv.length
 have nn:∀b o,s.heap.get? b=some o->b≠a:=fun b o e=>Nat.ne_of_lt (Nat.lt_of_lt_of_le (lt_size e) la)
 have el:∀u∈us,∃d,P d/\Tells X.K H Z u d/\A.units+d.dep<cLine:=fun u hu=>by
  obtain⟨i,hi,e⟩:=List.mem_iff_getElem.mp hu
  have hd:i<ds.length:=by omega
  obtain⟨v,ev,iv⟩:=j.get (i:=i) (d:=ds[i]) (by simp[hd])
  obtain⟨u',eu,ru⟩:=rv.get ev
  obtain rfl:u'=u:=by rw[<-(List.getElem?_eq_some_iff.mp eu).2];exact e
  exact⟨ds[i],(hP _ (getElem_mem hd)).1,⟨v,ru,iv⟩,(hP _ (getElem_mem hd)).2⟩
 have old:∀(h':Heap),(∀b o,b≠a->h1.get? b=some o->h'.get? b=some o)->Inv X pins σ H {s with heap:=h',toks:=t1}:=fun h' k=>I.kept fun b o e=>k b o (nn b o e) (k1 b o e)
 have lay:∀(prs:List (V×D)) (out:Array Value),prs.Perm (xs.zip ds)->Vals (prs.map (·.1)) out.toList->prs.map (·.2)=srt id ds->R (.done (.ret .none)) {s with heap:=sortedHeap h1 a us out,toks:=t1}:=fun prs out pp vv e=>by
  obtain⟨m,hm⟩:=sortedHeap_at (out:=out) ho
  have hl:(prs.map (·.1)).length<=sizeLine:=by
   rw[length_map,pp.length_eq,List.length_zip];exact smallL (by omega)
  exact fin _ prs (I.laid (t':=t1) (fun b o e=>by rw[sortedHeap_old (nn b o e) (lt_size (k1 b o e))];exact k1 b o e) la (show ObjOk X.prog X.w _ _ _ (.lst (prs.map (·.1)))from⟨hl,out.toList,m,vv,by simpa using hm⟩)) pp e
 have pr:=pairs_data rv j
 rw[<-pairsOf_toList]at pr
 by_cases emp:us=[]
 . subst emp
   have y0:xs=[]:=List.length_eq_zero_iff.mp (z2.trans rfl)
   have d0:ds=[]:=List.length_eq_zero_iff.mp (z1.trans (z2.trans rfl))
   subst y0 d0
   refine sort_at (s:={s with heap:=h1,toks:=t1}) (kd:=kd) (κ:=strKind) ho (by simp) (fun s' Q' _ ne _=>absurd rfl ne) (fun s' _ st i jj Q' hB hi=>absurd hi (by simp[pairsOf])) fun t pm _=>?_
   have t0:t= #[]:=by
    have e:=pm.size_eq
    simp[pairsOf]at e
    exact e
   exact lay [] _ (.refl _) (by rw[t0];simp;exact .nil) (by simp[srt])
 . obtain⟨u0,hu0⟩:=List.exists_mem_of_ne_nil us emp
   obtain⟨dd,pd,_,_⟩:=el u0 hu0
   refine sort_at (s:={s with heap:=h1,toks:=t1}) (kd:=kd) (κ:=kap X.K H Z P L ⟨dd,pd⟩) ho h64 (fun h' Q' kp' ne q'=>?_) (fun h' kp'=>?_) fun t pm up=>?_
   . exact kind_ok (s:={s with heap:=h',toks:=t1}) kk (old h' kp') (fun u hu=>let⟨d,a,b,_⟩:=el u hu;⟨d,a,b⟩) ne q'
   . refine asks_ok (s:={s with heap:=h',toks:=t1}) kk L (old h' kp') (fun p hp=>?_)
     rw[pairsOf_toList]at hp
     exact el p.1 (List.of_mem_zip hp).1
   . obtain⟨prs,pp,vv,pw⟩:=sort_out (f:=id) I L pr (fun q hq=>(hP _ (List.of_mem_zip hq).2).1) pm up
     have e2:(xs.zip ds).map (·.2)=ds:=by rw[List.map_snd_zip];omega
     exact lay prs _ pp vv (srt_one L (f:=id) (fun d hd=>(hP d hd).1) (fun a _ b _ e=>e) (by rw[<-e2];exact pp.map _) pw)
end
end Y
namespace Y
open PySem PySem.Spec PyProof.Rows L2
end Y
namespace Y
open PySem PySem.Spec PyProof.Rows L2
end Y
namespace Y
open PySem PySem.Spec PyProof.Rows L2
namespace Sw
end Sw
end Y
namespace Y
open PySem PySem.Spec PyProof.Rows L2
namespace Tb
end Tb
end Y
namespace Y
open PySem PySem.Spec PyProof.Rows L2
end Y
namespace Y
open PySem PySem.Spec PyProof.Rows L2
end Y
namespace Y
open PySem PySem.Spec PyProof.Rows L2
end Y
namespace Y
open PySem PySem.Spec PyProof.Rows L2
end Y
namespace Y
open PySem PySem.Spec PyProof.Rows L2
end Y
namespace Y
open PySem PySem.Spec PyProof.Rows L2
end Y
namespace Y
open PySem PySem.Spec PyProof.Rows L2
namespace Rv
theorem mro:mroOf (.type "reversed")=pure [.type "reversed",.type "object"]:=by rw[mroOf_type];kernel_rfl
theorem lookup_new:typeLookup (.type "reversed") "__new__"=pure (some (.builtin "reversed.__new__")):=by rw[typeLookup_type,builtinLookup_eq_fast];kernel_rfl
theorem made:Bind.madeBy (.type "reversed")=pure (some "reversed.__new__"):=madeBy_type mro lookup_new (by decide+kernel)
theorem other:isSubtype (.type "list_reverseiterator") (.type "reversed")=pure false:=by rw[isSubtype_type];kernel_rfl
end Rv
namespace Rv
end Rv
end Y
namespace Y
open PySem PySem.Spec PyProof.Rows L2
end Y
namespace Y
open PySem PySem.Spec PyProof.Rows L2 PySem.SeqAt
section
variable{prog:Program}{w:World}{A:Around}{E:Value->Shared->Prop}{s:Shared}{it l S:Addr}{items:Array Value}
abbrev AftR(prog:Program)(w:World)(A:Around)(R:Result->Shared->Prop):Fin->Shared->Prop:=fun x st=>match x with
 |.done f=>R (.ok f) st
 |.again c=>c.quiet=true/\codeAny (model prog w) A c R st
end
end Y
namespace Y
open PySem PySem.Spec PyProof.Rows L2 PySem.SeqAt
section
variable{prog:Program}{w:World}{A:Around}{E:Value->Shared->Prop}{s:Shared}{a S:Addr}{es:Array (Int×Value)}{ep:Nat}{t:SetTable}
theorem touch{Q:Unit->Shared->Prop}{c0:Nat}(e:s.heap.get? S=some {cls:=.type "list",data:=.seq #[] c0})
 (q:∀h' c,(∀b o,b≠S->s.heap.get? b=some o->h'.get? b=some o)->h'.get? S=some {cls:=.type "list",data:=.seq #[] c}->Q () {s with heap:=h'}):wpAny (model prog w) A (Builtin.List.listTouch (.ref S)) Q E s:=by
 have e1:=Heap.get?_update_self (Obj.mapSeq fun xs=>xs.push Value.none) e rfl
 have e2:=Heap.get?_update_self (Obj.mapSeq fun xs=>xs.pop) e1 rfl
 refine wpAny_bind (m:=updateSeq S fun xs=>xs.push .none) (wpAny_updateSeq e rfl (wpAny_updateSeq (hz:=by seq_fits) e1 rfl (q _ _ (fun b o hb h=>?_) e2)))
 rw[Heap.get?_update_other _ _ (Ne.symm hb),Heap.get?_update_other _ _ (Ne.symm hb)]
 exact h
end
end Y
namespace Y
open PySem PySem.Spec PyProof.Rows L2
variable[Tabs]
theorem law_callT{P:Program}{w:World}{K:PySem.W.Frag}{mg mb:Str->Option Value}{k:Nat}{fa a:Addr}{fd:FuncData}{x:Str}{s₁:Shared}{vs:List Value}{ns:List Int}
 (KX:K.In s₁.heap)(hns:s₁.heap.Ns mainGlobals mg)(hb:s₁.heap.Ns builtinsNs mb)(hbb:∀x:Str,x≠"__name__"->mb x=bootBuiltins x)(hlim:s₁.heap.NoLimit)(hg:s₁.gens= #[])
 (ha:s₁.heap.get? a=some {cls:=.type "list",data:=.seq vs.toArray})(hi:IntsAre vs ns)(hl:ns.length<=63)(hr:Room k callerA)
 (hT:∀q∈Tabs.T,s₁.heap.get? q.1=some (PySem.W.tabObj #[])/\K.lookup q.1=none/\PySem.isCodeTable s₁.heap q.1)
 (hbm:BmB mg s₁.heap)(F:∀base:Heap,K.In base->base.Ns mainGlobals mg->BmB mg base->FnOk P w K mg base CX0 k fa fd [x] (spLaw K))(hbind:∀(s:Shared) (u:Value),BindsTo s fd ⟨[u],[]⟩ [(x,u)]):
 codeAny (model P w) callerA (.call (.ref fa) ⟨[.ref a],[]⟩) (fun r s'=>r=.ok (.ret (.bool true))/\OldK s₁.heap s'.heap/\s'.os=s₁.os/\AllBare s'.gens) s₁:=by
 have rv:=vals_ints hi
 have lenV:=hi.length
 have hz:ns.length<=sizeLine:=Nat.le_trans hl (by decide)
 have aT:∀q∈Tabs.T,q.1≠a:=fun q hq z=>by
  have e:=(hT q hq).1
  rw[z,ha]at e
  cases e
 have core:∀H0:Hp,(∀b,b≠a->H0 b=none)->(H0 a=none\/ ∃o xs,H0 a=some (.frz o (.lst xs)))->SqL K H0 a (ns.map V.int)->HOk P w H0 s₁.heap->(H0 a≠none->K.lookup a=none)->
  codeAny (model P w) callerA (.call (.ref fa) ⟨[.ref a],[]⟩) (fun r s'=>r=.ok (.ret (.bool true))/\OldK s₁.heap s'.heap/\s'.os=s₁.os/\AllBare s'.gens) s₁:=by
  intro H0 hO hO2 hS hok0 hK
  obtain⟨H,hHt,hHn⟩:∃H:Hp,(∀b,(∃q∈Tabs.T,q.1=b)->H b=some (.tbl #[]))/\ ∀b,¬(∃q∈Tabs.T,q.1=b)->H b=H0 b:=
   open Classical in ⟨fun b=>if∃q∈Tabs.T,q.1=b then some (.tbl #[])else H0 b,fun b hb=>if_pos hb,fun b hb=>if_neg hb⟩
  have na:¬(∃q∈Tabs.T,q.1=a):=fun⟨q,hq,z⟩=>aT q hq z
  have Ha:=hHn a na
  have cs:∀b u,H b=some u->(b=a/\H0 a=some u)\/(∃q∈Tabs.T,q.1=b)/\u=.tbl #[]:=fun b u e=>by
   by_cases z:∃q∈Tabs.T,q.1=b
   . rw[hHt b z]at e;cases e;exact .inr ⟨z,rfl⟩
   . rw[hHn b z]at e
     by_cases z2:b=a
     . subst z2;exact .inl ⟨rfl,e⟩
     . rw[hO b z2]at e;cases e
  have hok:HOk P w H s₁.heap:=fun b u e=>by
   rcases cs b u e with⟨rfl,e0⟩|⟨⟨q,hq,rfl⟩,rfl⟩
   . exact(hok0 _ _ e0).stay (fun b' v' hb' q=>q) (fun b' q=>by
      have:b'=b:=by
       by_cases z:b'=b
       . exact z
       . rw[hO b' z]at q;cases q
      subst this
      rcases hO2 with z|⟨_,_,z⟩
      . rw[z]at q;cases q
      . rw[z]at q;cases q) fun b' xs q=>by
      have:b'=b:=by
       by_cases z:b'=b
       . exact z
       . rw[hO b' z]at q;cases q
      subst this
      rcases hO2 with z|⟨_,_,z⟩
      . rw[z]at q;cases q
      . rw[z]at q;cases q
   . exact(hT q hq).1
  have tabs:TabsOk H:=fun q hq=>⟨#[],hHt q.1 ⟨q,hq,rfl⟩,trivial,fun pos cv z=>by simp[codeAmong]at z⟩
  have hS':SqL K H a (ns.map V.int):=by
   rcases hS with(h|⟨o,h⟩)|h
   . exact .inl (.inl (by rw[Ha];exact h))
   . exact .inl (.inr ⟨o,by rw[Ha];exact h⟩)
   . exact .inr h
  have base_of:∀{b:Addr} {o:Obj},s₁.heap.get? b=some o->H b=none->(hidT s₁.heap H).get? b=some o:=fun e n=>hidT_get e n
  have noA:∀{b:Addr} {o:Obj} {es:Array DictEntry} {ep:Nat},s₁.heap.get? b=some o->o.data=.dict es ep->H b=none:=fun{b o es ep} e d=>by
   cases q:H b with
   |none=>rfl
   |some u=>
    rcases cs b u q with⟨rfl,_⟩|⟨⟨q',hq',rfl⟩,_⟩
    . rw[ha]at e;cases e;cases d
    . rw[(hT q' hq').1]at e;cases e;cases d
  have nsK:∀{b:Addr} {m:Str->Option Value},s₁.heap.Ns b m->(hidT s₁.heap H).Ns b m:=fun{b m} ⟨o,es,ep,e,d,r⟩=>⟨o,es,ep,base_of e (noA e d),d,r⟩
  have hKb:K.In (hidT s₁.heap H):=fun b o e=>base_of (KX b o e) (by
   cases q:H b with
   |none=>rfl
   |some u=>
    rcases cs b u q with⟨rfl,e0⟩|⟨⟨q',hq',rfl⟩,_⟩
    . rw[hK (by rw[e0];simp)]at e;cases e
    . rw[(hT q' hq').2.1]at e;cases e)
  have hBm:BmB mg (hidT s₁.heap H):=by
   obtain⟨bm,ob,b1,b2,b3,b4,b5,b6,b7⟩:=hbm
   refine⟨bm,ob,b1,base_of b2 ?_,b3,b4,b5,b6,b7⟩
   cases q:H bm with
   |none=>rfl
   |some u=>
    rcases cs bm u q with⟨rfl,_⟩|⟨⟨q',hq',rfl⟩,_⟩
    . rw[ha]at b2;cases b2;injection b5 with b5;exact absurd b5 (by decide)
    . rw[(hT q' hq').1]at b2;cases b2;cases b5
  have hM:Mod K mg (hidT s₁.heap H):=⟨hKb,nsK hns,⟨mb,nsK hb,hbb⟩,let⟨mc,h1,h2⟩:=hlim;⟨mc,nsK h1,h2⟩⟩
  have e0:Env0 P w K mg (hidT s₁.heap H) callerA [] s₁ H:=⟨rfl,hM,fun b o e=>of_hidT e,Nat.le_of_eq (hidT_size _ _),trivial,fun b hb=>absurd (show b∈([]:List Addr)from hb) (by simp),hok,.of_eq hg⟩
  refine codeAny_mono ((F _ hKb (nsK hns) hBm).run callerA [] s₁ H ⟨[.ref a],[]⟩ [.ref a] [.ref a] (fun v _=>v=.bl true) E0 hr e0 (hbind s₁ (.ref a)) (.cons rfl .nil) ⟨a,ns,rfl,hS',hl,tabs,fun _=>rfl⟩) fun r s' h=>?_
  cases r with
  |error e=>exact False.elim h
  |ok fl=>
   cases fl with
   |next=>exact False.elim h
   |brk=>exact False.elim h
   |cont=>exact False.elim h
   |ret u=>
    obtain⟨v,H',os,bare,un,hok',r',q⟩:=h
    have q':v=.bl true:=q
    subst q'
    obtain rfl:u=Value.bool true:=r'
    refine⟨rfl,⟨fun b o e=>?_,fun b o e=>un.there b o e (by simp)⟩,os,bare⟩
    cases q:H b with
    |none=>exact .inl (un.keep b o e q (by intro z;exact absurd (show b∈([]:List Addr)from z) (by simp)) (by simp))
    |some u=>
     rcases cs b u q with⟨rfl,e0'⟩|⟨⟨q',hq',rfl⟩,rfl⟩
     . rcases hO2 with z|⟨ob,xs,z⟩
       . rw[z]at e0';cases e0'
       . rw[z]at e0'
         cases e0'
         have z2:=un.frzs b ob _ q
         obtain⟨e1,_⟩:=hok b _ q
         obtain⟨e2,_⟩:=hok' b _ z2
         rw[e]at e1;cases e1
         exact .inl e2
     . obtain⟨more,z⟩:=un.tbls q'.1 #[] q
       have e2:=hok' _ _ z
       rw[(hT q' hq').1]at e
       cases e
       exact .inr (.inl ⟨(hT q' hq').2.2,rfl, #[],more,rfl,e2⟩)
 cases hk:K.lookup a with
 |some o=>
  have e:=KX a o hk
  rw[ha]at e
  cases e
  exact core (fun _=>none) (fun _ _=>rfl) (.inl rfl) (.inr ⟨_,vs.toArray,_,hk,rfl,rfl,rfl,by rw[size_toArray,lenV];exact hz,by simpa using rv⟩) (fun b u z=>nomatch z) fun z=>absurd rfl z
 |none=>
  refine core (fun b=>if b=a then some (.frz {cls:=.type "list",data:=.seq vs.toArray} (.lst (ns.map V.int)))else none) (fun b hb=>if_neg hb) (.inr ⟨_,_,if_pos rfl⟩) (.inl (.inr ⟨{cls:=.type "list",data:=.seq vs.toArray},if_pos rfl⟩)) (fun b u z=>?_) fun _=>hk
  by_cases hb:b=a
  . have z':=(if_pos hb).symm.trans z
    cases z'
    subst hb
    exact⟨ha,by rw[length_map];exact hz,vs,_,rv,ha⟩
  . have z':=(if_neg hb).symm.trans z
    cases z'
theorem walkT{l:PySem.W.OpenLaw}{q:Program}{loose:List Str}{XP:(Str->Option Value)->Heap->Prop}{YP:World->Heap->Prop}{d:DefRec}{K:Params->PySem.W.Frag}{x:Str}{k:Nat}(hn:l.most=some 63)(hdf:d.params.defaults=[])(hr:Room k callerA)
 (hY:∀(w:World) (h:Heap),YP w h->(K w.params).In h)
 (hT:∀(w:World) (h:Heap),YP w h->∀q∈Tabs.T,h.get? q.1=some (PySem.W.tabObj #[])/\(K w.params).lookup q.1=none/\PySem.isCodeTable h q.1)
 (F:∀(w:World) (mg:Str->Option Value) (fa:Addr) (h:Heap),(K w.params).In h->h.Ns mainGlobals mg->mg d.name=some (.ref fa)->
  ∃fd:FuncData,(∀(s:Shared) (u:Value),BindsTo s fd ⟨[u],[]⟩ [(x,u)])/\ ∀base:Heap,(K w.params).In base->base.Ns mainGlobals mg->BmB mg base->FnOk l.prog w (K w.params) mg base CX0 k fa fd [x] (spLaw (K w.params))):
 PySem.W.WalkO q loose XP YP l.row.toRowW d [] (fun f vs=>PySem.call f vs):=by
 refine Att.attach_call hn hdf fun w s₀ s₁ mg mb fa o pm cd doc a vs ns G Y ho hd hcd hmg hobj hints hlen hg=>?_
 have KX:=hY w _ Y
 obtain⟨fd,hb,hF⟩:=F w mg fa _ KX G.T.g hmg
 have hbm:BmB mg s₁.heap:=by
  obtain⟨bm,ob,b1,b2,b3,b4,b5,b6⟩:=G.T.bmain
  refine⟨bm,ob,b1,b3,b2,fun z=>?_,b4,b5,b6⟩
  obtain⟨o,es,ep,e,hd,_⟩:=G.T.g
  rw[z,e]at b3;cases b3;rw[hd]at b6;cases b6
 exact law_callT KX G.T.g G.T.b G.T.builtins G.T.nolimit hg hobj hints hlen hr (hT w _ Y) hbm hF hb
structure FunC(K:PySem.W.Frag)(x qual:Str)(st:Stmt)(f:Addr)(fd:FuncData)(c:Addr):Prop where
 ex:∃(oc:Value) (od:Option Addr) (kV doc pm:Value) (an:Option Addr) (ct:Value) (osl:Array (Option Value)),
  fd=PySem.W.fnOf x qual (defArgs st) (defBody st) (defScope st) .none kV doc pm an (.ref c) ct/\K.lookup f=some ⟨oc,od,.func fd,osl⟩/\PySem.W.codeIn K (.ref c) qual=true
 kp:keepIn K (.ref f)=true
theorem tabs_ok{K:Params->PySem.W.Frag}{as:List Addr}{e:∀P,as=(K P).map (·.1)}{ts:List Addr}{w:World}{h:Heap}(Yk:(PySem.W.kmHook K as e ts).says w h){c P:Addr}(hm:P∈ts)(hl:(K w.params).lookup P=none)(hc:codeHdIn (K w.params) c P=true):
 h.get? P=some (PySem.W.tabObj #[])/\(K w.params).lookup P=none/\PySem.isCodeTable h P:=by
 obtain⟨o,vs,_,_,_,_,_,_,_,e1,e2,e3,e4,_⟩:=PySem.W.codeHd_of_K (PySem.W.km_in_of Yk) hc
 exact⟨PySem.W.km_tabs_of Yk P hm,hl,c,o,vs,e1,e2,e3,e4⟩
theorem FunC.fn{K:PySem.W.Frag}{x qual:Str}{st:Stmt}{f c:Addr}{fd:FuncData}(F:FunC K x qual st f fd c):Fun K x qual st f fd:=by
 obtain⟨oc,od,kV,doc,pm,an,ct,osl,e,lk,hcd⟩:=F.ex
 exact⟨⟨oc,od,kV,doc,pm,an,.ref c,ct,osl,e,lk,hcd⟩,F.kp⟩
theorem funC_mk{K:PySem.W.Frag}{x qual:Str}{st:Stmt}{f c:Addr}{oc kV doc pm ct:Value}{od an:Option Addr}{osl:Array (Option Value)}
 (l:K.lookup f=some ⟨oc,od,.func (PySem.W.fnOf x qual (defArgs st) (defBody st) (defScope st) .none kV doc pm an (.ref c) ct),osl⟩)(hc:PySem.W.codeIn K (.ref c) qual=true)(k:keepIn K (.ref f)=true):
 FunC K x qual st f (PySem.W.fnOf x qual (defArgs st) (defBody st) (defScope st) .none kV doc pm an (.ref c) ct) c:=⟨⟨oc,od,kV,doc,pm,an,ct,osl,rfl,l,hc⟩,k⟩
section
variable{P:Program}{w:World}{K:PySem.W.Frag}{mg:Str->Option Value}{base:Heap}
theorem def_ofC{x qual:Str}{st:Stmt}{f c:Addr}{fd:FuncData}{N ps:List Str}{k:Nat}{m:Bool}{G:List D->D->Prop}(Fx:FunC K x qual st f fd c)(S:FnScope N ps (defScope st))(hmg:mg x=some (.ref f))(hb:Binds K fd ps [])
 (hlen:∀ds d,G ds d->ds.length=ps.length)
 (body:∀(A:Around) (outer:List Env) (s:Shared) (H:Hp) (E:XK) (Z:Zone) (ds:List D) (d:D),Room k (A.deeper (envOfC qual (defScope st) s.heap.objs.size f (.ref c)))->G ds d->
  SD (cxOf CX0 P w K mg base N qual (defScope st) f (.ref c) A outer s H E).nox ⟨m,Z,H⟩ (defBody st) (startD N ds) {nx:=fun _=>d=.non,rt:=fun d'=>d'=d}):Def P w K mg base (k+1) x m G:=by
 refine⟨f,fd,ps,?_,hmg,Fx.kp,hb⟩
 obtain⟨oc,od,kV,doc,pm,an,ct,osl,rfl,lk,hcd⟩:=Fx.ex
 refine fn_of lk hcd S (fun vs H Q E ⟨Z,ds,d,oz,i,g,kk⟩=>?_) fun A outer s H vs Q E hr ⟨Z,ds,d,oz,i,g,kk⟩=>?_
 . rw[<-i.length];exact hlen ds d g
 . refine⟨_,PSs.nox (body A outer s H E Z ds d hr g),[],[],fun _=>[],?_,start_in oz i,⟨rfl,fun σ H' ⟨r,A',hl,S',e⟩=>?_,fun σ H' ⟨r,A',hl,S',e⟩=>e.elim,fun σ H' ⟨r,A',hl,S',e⟩=>e.elim,fun v d' H' s' i' e=>?_,fun _ _ _ _ _ _ _ _ e=>e.elim,fun _ _ _ _ _ _ _ _ _ _ _ _ _ e=>e.elim,fun _ _ _ _ _ _ _ e=>e.elim⟩⟩
   . have:=i.length
     simp[L2.start,startD];omega
   . subst e
     exact kk .non H' S'.same (in_non.mpr rfl)
   . subst e
     exact kk v H' s' i'
end
structure LamK(K:PySem.W.Frag)(mg:Str->Option Value)(base:Heap)(c P:Addr)(qn:Str):Prop where
 hd:codeHdIn K c P=true
 tab:(P,qn)∈Tabs.T
 one:∀q∈Tabs.T,q.1=P->q.2=qn
 bm:BmB mg base
 gP:mainGlobals≠P
theorem LamK.cx{X:Cx}{c P:Addr}{qn:Str}(L:LamK X.K X.mg X.base c P qn)(h1:X.env.code=.ref c)(h2:X.env.qual++("<lambda>":Str)=qn):LamCx X c P qn:=⟨h1,L.hd,L.tab,L.one,h2,L.bm,L.gP⟩
theorem Lin.sub{P Q:D->Prop}(L:Lin P)(h:∀d,Q d->P d):Lin Q:=
 ⟨fun a x=>L.ir a (h a x),fun a b c x y z=>L.tr a b c (h a x) (h b y) (h c z),fun a b x y=>L.tt a b (h a x) (h b y),fun a b x y=>L.cm a b (h a x) (h b y),fun a b x y=>L.eq a b (h a x) (h b y)⟩
def ordD(rows:List (List Str))(p:Nat×Nat):D:=.tup [strsD (endAt rows p),plD p]
def keyD(rows:List (List Str)):D->D
 |.tup [.int r,.int c]=>.tup [strsD (endAt rows (r.toNat,c.toNat)),.tup [.int r,.int c]]
 |_=>.non
theorem keyD_pl(rows:List (List Str))(p:Nat×Nat):keyD rows (plD p)=ordD rows p:=by simp[keyD,plD,ordD]
def isOrd(d:D):Prop:=∃(ws:List Str) (p:Nat×Nat),d=.tup [strsD ws,plD p]
theorem lin_ord:Lin isOrd:=(lin_tup (lin_pr2 (lin_lst lin_str) (lin_tup fun _=>lin_int))).sub fun d ⟨ws,p,e⟩=>by
 subst e
 refine⟨_,rfl,⟨_,rfl,fts_strs ws⟩,⟨_,rfl,⟨p.1,rfl⟩,⟨p.2,rfl⟩,trivial⟩,trivial⟩
where
 fts_strs (ws:List Str):Fts (fun _=>isStr) (ws.map D.str):=fits_all fun d hd=>by
  obtain⟨w,_,rfl⟩:=mem_map.mp hd
  exact⟨w,rfl⟩
theorem kind_ord:KindOf isOrd (tuples' true):=.tup "list" (.inr (.inr rfl)) fun d ⟨ws,p,e⟩=>⟨strsD ws,[plD p],e,rfl,rfl⟩
theorem mem_allP{rows:List (List Str)}{p:Nat×Nat}(h:p∈allP rows):p.1<rows.length:=by
 unfold allP allPn at h
 obtain⟨r,hr,h2⟩:=List.mem_flatMap.mp h
 obtain⟨a,_,rfl⟩:=mem_map.mp h2
 simpa using hr
theorem allP_tot(rows:List (List Str)):(allP rows).length=tot rows:=by
 unfold allP
 rw[allPn_len rows rows.length (Nat.le_refl _),take_length]
 rfl
theorem deps_strs:∀ws:List Str,deps (ws.map D.str)=0
 |[]=>rfl
 |w::ws=>by simp[deps,D.dep,deps_strs ws]
theorem ordD_room{k:Nat}{A:Around}{rows:List (List Str)}{p:Nat×Nat}(r:Room k A):A.units+2+(ordD rows p).dep<cLine:=by
 have h:=r.un
 have e:(ordD rows p).dep=2:=by simp[ordD,strsD,plD,D.dep,deps,deps_strs]
 omega
def lamScope(st:Stmt):List (Str×NameKind):=match defBody st with
 |[.Return (some (.Call _ _ [⟨_,.Lambda _ _ sc _,_⟩] _)) _]=>sc.names
 |_=>[]
def gOrder(ds:List D)(d:D):Prop:=∃(rows:List (List Str)) (p:Nat×Nat),p.1<rows.length/\ds=[rowsD rows,plD p]/\d=ordD rows p
def endsD(rows:List (List Str)):D:=.lst (srt (keyD rows) ((allP rows).map plD))
def gEnds(ds:List D)(d:D):Prop:=∃rows:List (List Str),tot rows<64/\ds=[rowsD rows]/\d=endsD rows
theorem srt_up{P:D->Prop}{f:D->D}(L:Lin P){ds:List D}(hP:∀d∈ds,P (f d)):(srt f ds).Pairwise fun x y=>dor .lt (f y) (f x)=false:=by
 let es:List {d//P (f d)}:=ds.attach.map fun d=>⟨d.1,hP d.1 d.2⟩
 have e:ds=es.map (·.1):=by simp[es]
 have e2:srt f ds=(es.mergeSort fun x y=> !dor .lt (f y.1) (f x.1)).map (·.1):=by
  unfold srt
  rw[e]
  exact(List.map_mergeSort (f:=fun z:{d//P (f d)}=>z.1) (r:=fun x y=> !dor .lt (f y.1) (f x.1)) (s:=fun x y=> !dor .lt (f y) (f x)) (fun a _ b _=>rfl)).symm
 rw[e2,List.pairwise_map]
 refine(List.pairwise_mergeSort (le:=fun(x y:{d//P (f d)})=> !dor .lt (f y.1) (f x.1)) (fun a b c h1 h2=>?_) (fun a b=>?_) es).imp fun h=>by simpa using h
 . simp only[Bool.not_eq_true']at*
   cases q:dor .lt (f c.1) (f a.1)with
   |false=>rfl
   |true=>
    cases q2:dor .lt (f a.1) (f b.1)with
    |true=>rw[L.tr _ _ _ c.2 a.2 b.2 q q2]at h2;cases h2
    |false=>rw[L.tt _ _ a.2 b.2 q2 h1]at q;rw[q]at h2;cases h2
 . cases q:dor .lt (f b.1) (f a.1)with
   |false=>simp
   |true=>
    cases q2:dor .lt (f a.1) (f b.1)with
    |false=>simp
    |true=>have w:=L.tr _ _ _ a.2 b.2 a.2 q2 q;rw[L.ir _ a.2]at w;cases w
theorem srt_len(f:D->D)(ds:List D):(srt f ds).length=ds.length:=(srt_perm f ds).length_eq
end Y
namespace Y
open PySem PySem.Spec PyProof.Rows L2 PySem.SeqAt
variable[Tabs]
theorem kind_str:KindOf isStr oneType':=.one "str" (.inr (.inl rfl)) fun d ⟨x,e⟩=>by subst e;exact⟨rfl,rfl⟩
end Y
namespace Y
open PySem PySem.Spec PyProof.Rows L2
variable[Tabs]
def ltE(rows:List (List Str))(p q:Nat×Nat):Bool:=dor .lt (ordD rows p) (ordD rows q)
theorem isOrd_ord(rows:List (List Str))(p:Nat×Nat):isOrd (ordD rows p):=⟨_,p,rfl⟩
theorem plD_inj{p q:Nat×Nat}(h:plD p=plD q):p=q:=by
 unfold plD at h
 injection h with h
 injection h with h1 h
 injection h with h2 h
 injection h1 with h1
 injection h2 with h2
 exact Prod.ext (by omega) (by omega)
theorem ordD_inj{rows:List (List Str)}{p q:Nat×Nat}(h:ordD rows p=ordD rows q):p=q:=by
 unfold ordD at h
 injection h with h
 injection h with h1 h
 injection h with h2 h
 exact plD_inj h2
theorem ltE_ir(rows:List (List Str))(p:Nat×Nat):ltE rows p p=false:=lin_ord.ir _ (isOrd_ord rows p)
theorem ltE_tr{rows:List (List Str)}{p q r:Nat×Nat}(a:ltE rows p q=true)(b:ltE rows q r=true):ltE rows p r=true:=lin_ord.tr _ _ _ (isOrd_ord rows p) (isOrd_ord rows q) (isOrd_ord rows r) a b
theorem ltE_tt{rows:List (List Str)}{p q:Nat×Nat}(n:p≠q)(a:ltE rows q p=false):ltE rows p q=true:=by
 cases h:ltE rows p q with
 |true=>rfl
 |false=>exact absurd (ordD_inj (lin_ord.tt _ _ (isOrd_ord rows p) (isOrd_ord rows q) h a)) n
theorem ltE_as{rows:List (List Str)}{p q:Nat×Nat}(a:ltE rows p q=true):ltE rows q p=false:=by
 cases h:ltE rows q p with
 |false=>rfl
 |true=>have:=ltE_tr a h;rw[ltE_ir]at this;cases this
def endsL(rows:List (List Str)):List (Nat×Nat):=(allP rows).mergeSort fun x y=> !ltE rows y x
theorem endsD_eq(rows:List (List Str)):endsD rows=plsD (endsL rows):=by
 unfold endsD plsD endsL srt
 congr 1
 refine(List.map_mergeSort (f:=plD) (r:=fun x y=> !ltE rows y x) (s:=fun x y=> !dor .lt (keyD rows y) (keyD rows x)) fun a _ b _=>?_).symm
 rw[keyD_pl,keyD_pl]
 rfl
theorem endsL_perm(rows:List (List Str)):(endsL rows).Perm (allP rows):=List.mergeSort_perm _ _
theorem endsL_len(rows:List (List Str)):(endsL rows).length=tot rows:=by rw[(endsL_perm rows).length_eq,allP_tot]
theorem pairs_nodup{α β:Type}(l:List α)(f:α->List β)(hl:l.Nodup)(h1:∀a∈l,(f a).Nodup)(h2:∀a b x,x∈f a->x∈f b->a=b):(l.flatMap f).Nodup:=by
 induction l with
 |nil=>simp
 |cons a l ih=>
  rw[List.flatMap_cons,List.nodup_append]
  rw[nodup_cons]at hl
  refine⟨h1 a (by simp),ih hl.2 fun b hb=>h1 b (by simp[hb]),fun x hx y hy e=>?_⟩
  subst e
  obtain⟨b,hb,hy⟩:=List.mem_flatMap.mp hy
  have:=h2 a b x hx hy
  subst this
  exact hl.1 hb
theorem allP_nodup(rows:List (List Str)):(allP rows).Nodup:=by
 unfold allP allPn
 refine pairs_nodup _ _ List.nodup_range (fun n _=>?_) fun a b x ha hb=>?_
 . rw[List.nodup_iff_pairwise_ne,List.pairwise_map]
   refine List.Pairwise.imp ?_ (List.nodup_iff_pairwise_ne.mp List.nodup_range)
   intro a b h e
   injection e with _ e
   exact h e
 . obtain⟨_,_,rfl⟩:=mem_map.mp ha
   obtain⟨_,_,e⟩:=mem_map.mp hb
   injection e with e _
   exact e.symm
theorem endsL_nodup(rows:List (List Str)):(endsL rows).Nodup:=(endsL_perm rows).nodup_iff.mpr (allP_nodup rows)
theorem endsL_mem{rows:List (List Str)}{p:Nat×Nat}:p∈endsL rows↔p∈allP rows:=(endsL_perm rows).mem_iff
theorem endsL_up(rows:List (List Str)):(endsL rows).Pairwise fun x y=>ltE rows x y=true:=by
 have h:(endsL rows).Pairwise fun x y=>(!ltE rows y x)=true:=by
  unfold endsL
  refine List.pairwise_mergeSort (le:=fun x y=> !ltE rows y x) (fun a b c h1 h2=>?_) (fun a b=>?_) _
  . simp only[Bool.not_eq_true']at*
    cases q:ltE rows c a with
    |false=>rfl
    |true=>
     by_cases e:b=c
     . subst e;rw[h1]at q;cases q
     . have:=ltE_tr (ltE_tt e h2) q
       rw[h1]at this;cases this
  . cases q:ltE rows b a with
    |false=>simp
    |true=>rw[ltE_as q];simp
 have n:=List.nodup_iff_pairwise_ne.mp (endsL_nodup rows)
 refine(h.and n).imp fun{x y} h=>ltE_tt h.2 (by simpa using h.1)
def rmH(H:Hp)(as:List Addr):Hp:=fun b=>if b∈as then none else H b
theorem rm_out{H:Hp}{as:List Addr}{b:Addr}(h:b∉as):rmH H as b=H b:=by unfold rmH;rw[if_neg h]
theorem rm_in{H:Hp}{as:List Addr}{b:Addr}(h:b∈as):rmH H as b=none:=by unfold rmH;rw[if_pos h]
theorem rm_some{H:Hp}{as:List Addr}{b:Addr}{o:HO}(h:rmH H as b=some o):H b=some o/\b∉as:=by
 by_cases q:b∈as
 . rw[rm_in q]at h;cases h
 . rw[rm_out q]at h;exact⟨h,q⟩
theorem rm_none{H:Hp}{as:List Addr}{b:Addr}(h:rmH H as b=none):b∈as\/H b=none:=by
 by_cases q:b∈as
 . exact .inl q
 . rw[rm_out q]at h;exact .inr h
theorem un_tabs{H:Hp}{as:List Addr}(t:TabsOk (rmH H as)):TabsOk H:=fun P hP=>by
 obtain⟨ps,e,tr,k⟩:=t P hP
 refine⟨ps,(rm_some e).1,tr,fun pos cv q=>?_⟩
 obtain⟨c,rfl,hc⟩:=k pos cv q
 exact⟨c,rfl,(rm_some hc).1⟩
theorem same_un{H:Hp}{as:List Addr}:Same (rmH H as) H:=⟨fun b o e _=>(rm_some e).1,fun b ps e=>⟨ps,(rm_some e).1⟩,un_tabs⟩
mutual
def tP:Pt->List Nat
 |.word w=>cl w
 |.beg w=>cl w++[42]
 |.fin w=>42::cl w
 |.any=>[63]
 |.upto n=>[46,46,48+n]
 |.inn q=>[40,32]++joinL [32,124,32] (tQs q)++[32,41]
def tPs:List Pt->List (List Nat)
 |[]=>[]
 |p::ps=>tP p::tPs ps
def tQs:List (List Pt)->List (List Nat)
 |[]=>[]
 |ps::q=>joinL [32] (tPs ps)::tQs q
end
def wOk(w:Str):Prop:=cl w≠[]/\(∀c∈cl w,sgB c=true)/\(cl w).length<=40
mutual
def pW:Nat->Pt->Prop
 |_,.word w=>wOk w
 |_,.beg w=>wOk w
 |_,.fin w=>wOk w
 |_,.any=>True
 |_,.upto n=>n<10
 |k,.inn q=>∃j,k=j+1/\q≠[]/\qWs j q
def rWs:Nat->List Pt->Prop
 |_,[]=>True
 |k,p::ps=>pW k p/\rWs k ps
def qWs:Nat->List (List Pt)->Prop
 |_,[]=>True
 |k,ps::q=>(ps≠[]/\rWs k ps)/\qWs k q
end
def lastR(q:List (List Pt)):List Pt:=q.getLastD []
def addL(q:List (List Pt))(p:Pt):List (List Pt):=q.dropLast++[lastR q++[p]]
def isWC(t:List Nat):Bool:= !t.isEmpty&&t.all sgB
def partT(t:List Nat):Option Pt:=
 if isWC t then some (.word (mkS t))
 else if t=[63]then some .any
 else if t.length=3/\t.take 2=[46,46]/\48<=t.getD 2 0/\t.getD 2 0<=57 then some (.upto (t.getD 2 0-48))
 else if t.getLast? =some 42/\isWC t.dropLast=true then some (.beg (mkS t.dropLast))
 else if t.head? =some 42/\isWC (t.drop 1)=true then some (.fin (mkS (t.drop 1)))
 else none
def takeT(st:List (List (List Pt)))(t:List Nat):List (List (List Pt)):=
 if t=[40]then st++[[[]]]
 else if t=[124]then st.dropLast++[st.getLastD []++[[]]]
 else if t=[41]then st.dropLast.dropLast++[addL (st.dropLast.getLastD []) (.inn (st.getLastD []))]
 else st.dropLast++[addL (st.getLastD []) ((partT t).getD .any)]
def Can(st:List (List (List Pt)))(t:List Nat):Prop:=
 (t=[40]/\st.length<=20)\/(t=[124]/\lastR (st.getLastD [])≠[])\/(t=[41]/\lastR (st.getLastD [])≠[]/\2<=st.length)\/(∃p k,t=tP p/\pW k p/\ ∀q,p≠ .inn q)
def Good:List (List (List Pt))->List (List Nat)->Prop
 |_,[]=>True
 |st,t::ts=>Can st t/\Good (takeT st t) ts
def uptos:List Str:=["..0","..1","..2","..3","..4","..5","..6","..7","..8","..9"]
end Y
namespace Y
open PySem PySem.Spec PyProof.Rows L2
end Y
namespace Y
open PySem PySem.Spec PyProof.Rows L2
variable[Tabs]
section
variable{K:PySem.W.Frag}{H H':Hp}{Z:Zone}
theorem InTs.length:∀{ds:List D} {vs:List V},InTs K H Z ds vs->ds.length=vs.length
 |[],_,h=>by rw[inTs_nil.mp h];rfl
 |d::ds,_,h=>by
  obtain⟨v,r,rfl,_,j⟩:=inTs_cons.mp h
  rw[length_cons,length_cons,InTs.length j]
theorem InTs.get:∀{ds:List D} {vs:List V} {i:Nat} {d:D},InTs K H Z ds vs->ds[i]? =some d->∃v,vs[i]? =some v/\InT K H Z d v
 |[],_,_,_,_,h=>by simp at h
 |e::ds,vs,0,d,h,q=>by
  obtain⟨v,r,rfl,a,_⟩:=inTs_cons.mp h
  cases q
  exact⟨v,rfl,a⟩
 |e::ds,vs,i+1,d,h,q=>by
  obtain⟨v,r,rfl,_,j⟩:=inTs_cons.mp h
  simpa using j.get (i:=i) (by simpa using q)
theorem InTs.append:∀{ds es:List D} {vs ws:List V},InTs K H Z ds vs->InTs K H Z es ws->InTs K H Z (ds++es) (vs++ws)
 |[],_,_,_,h,k=>by rw[inTs_nil.mp h];exact k
 |d::ds,_,_,_,h,k=>by
  obtain⟨v,r,rfl,a,j⟩:=inTs_cons.mp h
  exact inTs_cons.mpr ⟨v,r++_,rfl,a,j.append k⟩
theorem InTs.one{d:D}{v:V}(h:InT K H Z d v):InTs K H Z [d] [v]:=inTs_cons.mpr ⟨v,[],rfl,h,inTs_nil.mpr rfl⟩
theorem InTs.same{ds:List D}{vs:List V}(s:Same H H')(h:InTs K H Z ds vs):InTs K H' Z ds vs:=h.carry (.same s)
end
def agS(fr:Bool)(d:D):SP where
 p K F H O _ v:=InT K H (zn F O fr) d v
 vw _ f:=if f&& !fr then none else some d
 carry h _ c:=h.carry (c fr)
 env {K F H O mine v ow fr' d'} op _ h e:=by
  by_cases q:(fr'&& !fr)=true
  . rw[if_pos q]at e;cases e
  . rw[if_neg q]at e
    cases e
    refine InT.carry (zn_vz op fun hf=>?_) h
    subst hf
    simpa using q
def oaS(fr:Bool)(s:Sh)(ds:List D):SP where
 p K F H O mine v:=∃l xs,mine=[l]/\v=.ref l/\s.at H l xs/\InTs K H (zn F O fr) ds xs
 vw ow f:=if ow&&(!f||fr)then some (.agg s ds)else none
 carry {K F H H' O O' mine v} h k c:=by
  obtain⟨l,xs,rfl,e,hs,i⟩:=h
  obtain⟨m,e1,e2⟩:=Sh.mo hs
  exact⟨l,xs,rfl,e,e2 H' (k l m (by simp) e1),i.carry (c fr)⟩
 env {K F H O mine v ow fr' d'} op inS h e:=by
  by_cases q:(ow&&(!fr'||fr))=true
  . rw[if_pos q]at e
    cases e
    obtain⟨l,xs,rfl,rfl,hs,i⟩:=h
    simp at q
    refine inT_agg.mpr ⟨l,xs,rfl,hs,inS q.1 l (by simp),i.carry (zn_vz op fun hf=>?_)⟩
    subst hf
    simpa using q.2
  . rw[if_neg q]at e;cases e
def tEG(K:PySem.W.Frag)(ρ:List (Option D))(d:D):TE:=fun σ H Q=>∃Z:Zone,Z.Open H/\EnvIn K H Z σ ρ/\ ∀v H',Same H H'->InT K H' Z d v->Q v H'
def EG(X:Cx)(ρ:List (Option D))(e:Expr)(d:D):Prop:=PE X e (tEG X.K ρ d)
section
variable{X:Cx}{ρ:List (Option D)}{m m1 m2:Bool}{a b o e:Expr}{d dk:D}{pos:Pos}{s:Sh}{ds:List D}
theorem eg_var(i:Nat){x:Str}{d:D}(hr:ρ[i]? =some (some d):=by rfl)(hN:X.N[i]? =some x:=by rfl)
 (hv:Vis X.env.scope x:=by first|exact Or.inl rfl|exact Or.inr (Or.inl rfl)|exact Or.inr (Or.inr rfl))(hd:(x==("__debug__":Str))=false:=by decide)
 (hcd:(x==("__classdict__":Str))=false:=by decide):EG X ρ (.Name x pos) d:=
 PE.mono (pe_var hN hv hd hcd) fun σ H Q z0=>el13 z0 fun Z oz en k=>by
  obtain⟨v,e,i⟩:=en i d hr
  exact⟨v,e,k v H (Same.refl H) i⟩
def Sh.key(s:Sh)(d:D)(j:Option Nat):Prop:=match s with
 |.k ks=>∃k,d=kD k/\j=ks.findIdx? (· =k)
 |.t ks=>∃k,d=.tup (k.map kD)/\j=ks.findIdx? (· =k)
 |.o _ _=>False
 |.f _ ks=>∃k,d=kD k/\j=ks.findIdx? (· =k)
theorem valV_zip{κ:Type}[DecidableEq κ]:∀(ks:List κ) (xs:List V) (k:κ),ks.length=xs.length->valV (ks.zip xs) k=(ks.findIdx? (· =k)).bind fun j=>xs[j]?
 |[],[],_,_=>rfl
 |[],_::_,_,h=>by cases h
 |_::_,[],_,h=>by cases h
 |a::ks,x::xs,k,h=>by
  have ih:=valV_zip ks xs k (by simpa using h)
  rw[List.zip_cons_cons,List.findIdx?_cons]
  by_cases q:a=k
  . simp[valV,q]
  . have:valV ((a,x)::ks.zip xs) k=valV (ks.zip xs) k:=by simp[valV,q]
    rw[this,ih]
    simp only[decide_eq_true_eq,q,if_false]
    cases ks.findIdx? (· =k)with
    |none=>simp
    |some j=>simp
theorem gget{K:PySem.W.Frag}{H:Hp}{Z Z':Zone}{d:D}{j:Option Nat}{x y:V}(hx:InT K H Z (.agg s ds) x)(hy:In K H Z' d y)(h:s.key d j):∃a r,x=.ref a/\DGet H a y r/\(∀v,r=some v->∃i d',j=some i/\ds[i]? =some d'/\InT K H Z d' v)/\r.isSome=j.isSome:=by
 obtain⟨a,xs,rfl,hs,_,hi⟩:=inT_agg.mp hx
 have key:∀{κ:Type} [DecidableEq κ] (ks:List κ) (k:κ),ks.length=xs.length->j=ks.findIdx? (· =k)->(∀v,valV (ks.zip xs) k=some v->∃i d',j=some i/\ds[i]? =some d'/\InT K H Z d' v)/\(valV (ks.zip xs) k).isSome=j.isSome:=fun ks k hl hj=>by
  have hd:=hi.length
  rw[valV_zip ks xs k hl, <-hj]
  cases hq:j with
  |none=>exact⟨fun v e=>(by cases e),rfl⟩
  |some i=>
   have hlt:i<ks.length:=by
    rw[hq]at hj
    exact(List.findIdx?_eq_some_iff_getElem.mp hj.symm).1
   have hx:xs[i]? =some xs[i]:=by simp[<-hl,hlt]
   refine⟨fun v e=>?_,by simp[<-hl,hlt]⟩
   have e:xs[i]? =some v:=e
   obtain⟨v',e1,e2⟩:=hi.get (i:=i) (d:=ds[i]) (by simp[hd, <-hl,hlt])
   rw[e1]at e
   cases e
   exact⟨i,_,rfl,by simp[hd, <-hl,hlt],e2⟩
 cases s with
 |k ks=>
  obtain⟨k,rfl,hj⟩:=h
  rw[in_kD hy]
  obtain⟨e1,e2⟩:=key ks k hs.1 hj
  exact⟨a,_,rfl,.k hs.2,e1,e2⟩
 |t ks=>
  obtain⟨k,rfl,hj⟩:=h
  obtain⟨b,ys,rfl,eb,jj⟩:=in_tup.mp hy
  rw[ins_kD jj]at eb
  obtain⟨e1,e2⟩:=key ks k hs.1 hj
  exact⟨a,_,rfl,.t hs.2 eb,e1,e2⟩
 |o C fs=>exact h.elim
 |f b ks=>
  obtain⟨k,rfl,hj⟩:=h
  rw[in_kD hy]
  obtain⟨e1,e2⟩:=key ks k hs.1 hj
  exact⟨a,_,rfl,.inl ⟨_,k,.inr ⟨b,hs.2⟩,rfl,rfl⟩,e1,e2⟩
theorem t_gin{j:Option Nat}(ha:E X m1 ρ a dk)(hb:EG X ρ b (.agg s ds))(hk:s.key dk j)(hu:X.A.units+1<cLine)(hm:behindInMarks .In b=false:=by rfl):T X ρ (.Compare a [.In] [b] pos) j.isSome:=
 PT.mono (pt_cmp (pc_din hu ha hb) hm) fun σ H Q z0=>el13 z0 fun Z oz en k=>⟨Z,oz,en,fun y H1 s1 i1=>⟨Z,oz.same s1,en.same s1,fun x H2 s2 i2=>by
  obtain⟨a,r,rfl,g,_,hr⟩:=gget i2 ((i1.plain oz).same s2) hk
  exact⟨a,r,rfl,g,r.isSome,rfl,hr▸k H2 (s1.trans s2)⟩⟩⟩
theorem t_gnotin{j:Option Nat}(ha:E X m1 ρ a dk)(hb:EG X ρ b (.agg s ds))(hk:s.key dk j)(hu:X.A.units+1<cLine)(hm:behindInMarks .NotIn b=false:=by rfl):T X ρ (.Compare a [.NotIn] [b] pos) (!j.isSome):=
 PT.mono (pt_cmp (pc_dnotin hu ha hb) hm) fun σ H Q z0=>el13 z0 fun Z oz en k=>⟨Z,oz,en,fun y H1 s1 i1=>⟨Z,oz.same s1,en.same s1,fun x H2 s2 i2=>by
  obtain⟨a,r,rfl,g,_,hr⟩:=gget i2 ((i1.plain oz).same s2) hk
  exact⟨a,r,rfl,g,!r.isSome,rfl,hr▸k H2 (s1.trans s2)⟩⟩⟩
theorem e_gsub{j:Nat}(ho:EG X ρ o (.agg s ds))(hi:E X m2 ρ e dk)(hk:s.key dk (some j))(hj:ds[j]? =some d)(hn:d.nag=true)(hu:X.A.units+1<cLine)(hs:NoSl e:=by intro _ _;rfl):E X false ρ (.Subscript o e pos) d:=
 PE.mono (pe_dget hu ho hi hs) fun σ H Q z0=>el13 z0 fun Z oz en k=>⟨Z,oz,en,fun x H1 s1 i1=>⟨Z,oz.same s1,en.same s1,fun y H2 s2 i2=>by
  obtain⟨a,r,rfl,g,hv,hr⟩:=gget (i1.same s2) (i2.plain (oz.same s1)) hk
  cases r with
  |none=>cases hr
  |some v=>
   obtain⟨i,d',e1,e2,e3⟩:=hv v rfl
   cases e1
   rw[hj]at e2
   cases e2
   exact⟨a,v,rfl,g,k _ H2 (s1.trans s2) (e3.inn hn)⟩⟩⟩
end
section
variable{X:Cx}{F:Fn}{ρ:Rho}{Q:EndD}{rest:List Stmt}{e key:Expr}{pos p sp:Pos}{m1 m2:Bool}
theorem StIn.oa{K:PySem.W.Frag}{H:Hp}{σ hv:St}{hρ:Rho}{A:Nat->List Addr}{i:Nat}{fr:Bool}{s:Sh}{ds:List D}(S:StIn K F H (σ++hv) (ρ++hρ) A)(hl:σ.length=ρ.length)(h:ρ[i]? =some (some (.gen (oaS fr s ds)))):
 ∃l xs,σ[i]? =some (some (.ref l))/\A i=[l]/\s.at H l xs/\InTs K H (zn F (Owned A) fr) ds xs:=by
 have hi:i<ρ.length:=(List.getElem?_eq_some_iff.mp h).1
 obtain⟨v,a,l,xs,e1,rfl,e2,e3⟩:=S.at' i _ (by rw[getElem?_append_left hi];exact h)
 rw[getElem?_append_left (by omega)]at a
 exact⟨l,xs,a,e1,e2,e3⟩
theorem put_oa{K:PySem.W.Frag}{hv:St}{hρ:Rho}{σ:St}{H:Hp}{A:Nat->List Addr}{i:Nat}{l:Addr}{fr:Bool}{xs:List V}{m m':MO}{s:Sh}{ds:List D}(hl:σ.length=ρ.length)(S:StIn K F H (σ++hv) (ρ++hρ) A)(h:σ[i]? =some (some (.ref l)))(hA:A i=[l])(hx:H l=some m.ho)
 (hs:s.at (upd H l m'.ho) l xs)(j:InTs K H (zn F (Owned A) fr) ds xs):StOk K F hv hρ (fun r=>r=ρ.set i (some (.gen (oaS fr s ds)))) σ (upd H l m'.ho):=by
 have hi:i<σ.length:=(List.getElem?_eq_some_iff.mp h).1
 refine⟨_,putA A i [l],by simp[hl],?_,rfl⟩
 have key:=S.re (i:=i) (v:=.ref l) (sl:=.gen (oaS fr s ds)) (l:=[l]) (H2:=upd H l m'.ho) (by rw[List.length_append];omega) (by rw[List.length_append];omega) (S.same.writeM (xs:=m) (S.new i l (by rw[hA];simp)) hx) (fun b u e _ hb=>?_) nodup1 (fun a ha=>?_) ⟨l,xs,rfl,rfl,hs,?_⟩
 . rw[set_self (by rw[getElem?_append_left hi];exact h),set_app (by omega)]at key
   exact key
 . rw[hA]at hb
   have:b≠l:=by simpa using hb
   rw[upd_ne this];exact e
 . have:a=l:=by simpa using ha
   subst this
   exact⟨.inl (by rw[hA];simp),m',upd_same⟩
 . have eqA:putA A i [l]=A:=by
    funext k
    by_cases q:k=i
    . rw[q,putA_same,hA]
    . rw[putA_ne q]
   rw[eqA]
   refine j.carry (Carry.writeM (xs:=m) hx ?_)
   unfold zn
   cases fr
   . exact fun z=>z.2 ⟨i,by rw[hA];simp⟩
   . exact fun z=>z.2 ⟨i,by rw[hA];simp⟩
theorem sd_oaNewK(i:Nat){x:Str}{p2:Pos}(fr:Bool)(hr:SD X F rest (ρ.set i (some (.gen (oaS fr (.k []) [])))) Q)(hN:X.N.Nodup)(hi:X.N[i]? =some x:=by rfl)
 (hx:Loc X.env.scope x:=by first|exact Or.inl rfl|exact Or.inr rfl)(hρ:i<ρ.length:=by exact of_decide_eq_true rfl)(hs:swapsWith (.Dict [] [] p2) (some (.Name x p)) pos.line X.env=pure false:=by rfl)(hf:X.fn x=true\/X.env.scope.names.lookup x=some .local:=by first|exact .inl rfl|exact .inr rfl):
 SD X F (.Assign [.Name x p] (.Dict [] [] p2) pos::rest) ρ Q:=
 sd_then (PS.mono (ps_set hN hi hx (e_dnewK (ρ:=view true false ρ)) hs hf) fun Q' σ H z0=>el33 z0 fun hv hρ' A hl S f=>⟨_,vz_open S true false,S.env hl true false,fun v H1 s1 i1=>by
  obtain⟨l,rfl,e1,e2⟩:=in_dct.mp i1
  refine f.nx _ H1 ⟨_,putA A i [l],by simp[hl],?_,rfl⟩
  rw[<-set_app (by omega), <-set_app hρ]
  exact S.put (by rw[List.length_append];omega) (by rw[List.length_append];omega) s1 nodup1 (fun a ha=>by
   have:a=l:=by simpa using ha
   subst this
   exact⟨e2,.d (.k []),e1⟩) ⟨l,[],rfl,rfl,⟨rfl,e1⟩,inTs_nil.mpr rfl⟩⟩) hr
def Sh.new(s:Sh)(d:D)(s':Sh):Prop:=match s with
 |.k ks=>∃k,d=kD k/\k∉ks/\ks.length<sizeLine/\s'=.k (ks++[k])
 |.t ks=>∃k,d=.tup (k.map kD)/\k∉ks/\ks.length<sizeLine/\s'=.t (ks++[k])
 |.o _ _=>False
 |.f _ _=>False
theorem gput{K:PySem.W.Frag}{H:Hp}{Z':Zone}{d:D}{s s':Sh}{xs:List V}{v y:V}{a:Addr}(hs:s.at H a xs)(hy:In K H Z' d y)(h:s.new d s'):∃m m':MO,H a=some m.ho/\DPut H a y v (upd H a m'.ho)/\s'.at (upd H a m'.ho) a (xs++[v]):=by
 have key:∀{κ:Type} [DecidableEq κ] (ks:List κ) (k:κ),ks.length=xs.length->k∉ks->putK (ks.zip xs) k v=(ks++[k]).zip (xs++[v]):=fun ks k hl hk=>by
  rw[putK_new]
  . rw[List.zip_append hl];rfl
  . rw[valV_zip ks xs k hl,List.findIdx?_eq_none_iff.mpr fun x hx=>by simp;exact fun z=>hk (z▸hx)]
    rfl
 cases s with
 |k ks=>
  obtain⟨k,rfl,hk,hz,rfl⟩:=h
  refine⟨.d (.k _),.d (.k (putK (ks.zip xs) k v)),hs.2,?_,by rw[List.length_append,List.length_append,hs.1];rfl,?_⟩
  . rw[in_kD hy]
    exact .k hs.2 (by rw[List.length_zip];omega)
  . rw[<-key ks k hs.1 hk];exact upd_same
 |t ks=>
  obtain⟨k,rfl,hk,hz,rfl⟩:=h
  obtain⟨b,ys,rfl,eb,jj⟩:=in_tup.mp hy
  rw[ins_kD jj]at eb
  refine⟨.d (.t _),.d (.t (putK (ks.zip xs) k v)),hs.2,.t hs.2 eb (by rw[List.length_zip];omega),by rw[List.length_append,List.length_append,hs.1];rfl,?_⟩
  rw[<-key ks k hs.1 hk];exact upd_same
 |o C fs=>exact h.elim
 |f b ks=>exact h.elim
theorem sd_gput(i:Nat){x:Str}{s s':Sh}{ds:List D}(fr:Bool){dk dv:D}(h:ρ[i]? =some (some (.gen (oaS fr s ds))):=by rfl)(hk:E X m1 (view true false ρ) key dk)(he:E X m2 (view false fr ρ) e dv)(hp:s.new dk s')(hu:X.A.units+1<cLine)
 (hr:SD X F rest (ρ.set i (some (.gen (oaS fr s' (ds++[dv]))))) Q)(hN:X.N[i]? =some x:=by rfl)(hvis:Vis X.env.scope x:=by first|exact Or.inl rfl|exact Or.inr (Or.inl rfl)|exact Or.inr (Or.inr rfl))(hd:(x==("__debug__":Str))=false:=by decide)(hcd:(x==("__classdict__":Str))=false:=by decide)
 (hsw:swapsWith e (some (.Subscript (.Name x p) key sp)) pos.line X.env=pure false:=by rfl):SD X F (.Assign [.Subscript (.Name x p) key sp] e pos::rest) ρ Q:=by
 refine sd_then (PS.mono (ps_dput hu (pe_var hN hvis hd hcd) hk he hsw) fun Q' σ H ⟨hv',hρ,A,hl,S,f⟩=>?_) hr
 obtain⟨l,xs,e1,e2,e3,e4⟩:=S.oa hl h
 refine⟨_,vz_open S false fr,S.env hl false fr,fun w H1 s1 i1=>?_⟩
 have i1:In X.K H1 (zn F (Owned A) fr) dv w:=i1.plain (vz_open S false fr)
 refine⟨.ref l,e1,_,(vz_open S true false).same s1,(S.env hl true false).same s1,fun y H2 s2 i2=>?_⟩
 have s12:=s1.trans s2
 obtain⟨m0,q1,q2⟩:=Sh.mo e3
 have hat:s.at H2 l xs:=q2 H2 (s12.at q1 m0.nt)
 obtain⟨m,m',z1,z2,z3⟩:=gput (v:=w) hat i2 hp
 exact⟨l,_,rfl,z2,f.nx _ _ (put_oa hl (S.grow s12) e1 e2 z1 z3 ((e4.same s12).append (InTs.one (i1.same s2).top)))⟩
end
end Y
namespace Y
open PySem PySem.Spec PyProof.Rows L2
section
variable{prog:Program}{w:World}{A:Around}{E:Value->Shared->Prop}{s:Shared}{d S:Addr}{ep:Nat}{es:Array DictEntry}{sm:Array (Option Value)}
abbrev dctO(es:Array DictEntry)(ep:Nat)(sm:Array (Option Value)):Obj:=⟨.type "dict",none,.dict es ep,sm⟩
theorem keys_walk{it:Addr}(hh:A.handled=none)(ne:d≠it):Walks prog w A it [it,d] [it] es.size (fun i v=>(es[i]?).map (·.key)=some v) (fun i h=>h.IsKeyIter it d i es.size ep/\h.get? d=some (dctO es ep sm)) where
 sub:=fun b hb=>by rw[List.mem_singleton.mp hb];exact mem_cons_self
 frame:=fun i h h' ⟨⟨o,e1,e2⟩,st⟩ k=>⟨⟨o,k it (by simp) _ e1,e2⟩,k d (by simp) _ st⟩
 item:=fun i s Q E hi ⟨st,sd⟩ q=>keys_item st sd hi fun h' k1 k2=>q _ h' s.toks (by simp[hi]) ⟨k1,(k2.2 d ne).trans sd⟩ fun b o hb e=>(k2.2 b fun z=>hb (by rw[z];exact List.mem_singleton.mpr rfl)).trans e
 done:=fun s Q E ⟨st,sd⟩ q=>keys_end hh st sd (Nat.le_refl _) fun h' k1=>q h' s.toks fun b o hb e=>k1 b o (fun z=>hb (by rw[z];exact List.mem_singleton.mpr rfl)) e
 self:=fun i s Q E ⟨st,_⟩ q=>wpAny_pyIter_slot st.typeIs F.slot_dict_keyiterator_iter (wpAny_call_entry F.slot_dict_keyiterator_iter st.typeIs F.entry_dict_keyiterator_iter (wpAny_pure ⟨_,rfl,"dict_keyiterator",_,st.typeIs,F.slot_dict_keyiterator_next.lookup,q⟩) (F.args_dict_keyiterator_iter_1 _))
theorem dkeys_extend{R:Result->Shared->Prop}{c0:Nat}{res:Value}(hh:A.handled=none)(hn:(d==sysModules)=false)(hd:s.heap.get? d=some (dctO es ep sm))(hS:s.heap.get? S=some {cls:=.type "list",data:=.seq #[] c0})(hSa:S≠d)(hz:es.size+2<=sizeLine)
 (hR:∀h' tk acc c,(∀b o,b≠S->s.heap.get? b=some o->h'.get? b=some o)->h'.get? S=some {cls:=.type "list",dict:=none,data:=.seq acc c,slots:= #[]}->acc.toList=es.toList.map (·.key)->R (.ok (.ret res)) {s with heap:=h',toks:=tk}):
 wpAny (model prog w) A.in1 (Builtin.List.listExtendWith (.ref S) (.ref d) res) (AftR prog w A R) (fun e s'=>R (.error e) s') s:=by
 have Ty:s.TypeIs (.ref d) "dict":=⟨_,hd,rfl⟩
 have same:Builtin.List.listSameRef (.ref S) (.ref d)=false:=by simp[Builtin.List.listSameRef,hSa]
 have hh1:A.in1.handled=none:=hh
 unfold Builtin.List.listExtendWith
 refine wpAny_bind (wpAny_typeOf Ty ?_)
 rw[if_neg (by rw[same];decide)]
 have ld:=lt_size hd
 have lS:=lt_size hS
 refine wpAny_bind (keys_iter hn hd ?_)
 generalize hh2:s.heap.push {cls:=.type "dict_keyiterator",data:=.fields #[.ref d,.int 0 0,.int es.size 0,.int ep 0]}=h1
 have k1:∀b o,s.heap.get? b=some o->h1.get? b=some o:=fun b o e=>by rw[<-hh2];exact get?_push_of_some _ e
 have it1:h1.IsKeyIter s.heap.objs.size d 0 es.size ep:=by rw[<-hh2];exact⟨_,get?_push_size _ rfl,rfl,rfl⟩
 have T1:Shared.TypeIs {s with heap:=h1} (.ref d) "dict":=⟨_,k1 _ _ hd,rfl⟩
 refine wpAny_bind (wpAny_holding (PySem.W.kdl_hint_dict T1 ?_))
 rw[if_pos (by decide)]
 refine wpAny_bind (wpAny_rule (wpAny_bind ?_))
 have W:=keys_walk (prog:=prog) (w:=w) (A:=A.in1) (es:=es) (ep:=ep) (sm:=sm) (d:=d) (it:=s.heap.objs.size) hh1 (Nat.ne_of_lt ld)
 have nS:∀b∈[s.heap.objs.size,d],b≠S:=fun b hb z=>by
  simp only[mem_cons,not_mem_nil,or_false]at hb
  rcases hb with e|e
  . exact absurd lS (by rw[<-z,e];exact Nat.lt_irrefl _)
  . exact hSa (z.symm.trans e)
 refine touch (s:={s with heap:=h1}) (k1 _ _ hS) fun h2 c2 oth hS3=>?_
 refine wpAny_pure ⟨plainId_quiet PySem.F.plain_extend_loop _,codeAny_extend_loopS W.toS (by omega) S (fun z=>nS S z rfl) res es.size 0 _ #[] _ rfl (Nat.zero_le _) (W.frame 0 _ _ ⟨it1,k1 _ _ hd⟩ fun b hb o e=>oth b o (nS b hb) e) hS3 (ItemsOf.nil _) fun s' acc c m e1 e2=>?_⟩
 obtain⟨h',g',d',tk',os'⟩:=s'
 have q1:g'=s.gens:=m.gens
 have q2:d'=s.drawn:=m.drawn
 have q3:os'=s.os:=m.os
 subst q1 q2 q3
 refine hR h' tk' acc c (fun b o hb e=>m.heap b o (fun z=>?_) (oth b o hb (k1 b o e))) e1 ?_
 . rcases mem_cons.mp z with z|z
   . exact hb z
   . exact absurd (lt_size e) (by rw[List.mem_singleton.mp z];exact Nat.lt_irrefl _)
 . apply List.ext_getElem?
   intro i
   by_cases hi:i<acc.size
   . have:=e2.2 i acc[i] (Array.getElem?_eq_getElem hi)
     rw[getElem?_map,Array.getElem?_toList,Array.getElem?_toList,Array.getElem?_eq_getElem hi]
     exact this.symm
   . have h1:=e2.1
     rw[List.getElem?_eq_none (by rw[Array.length_toList];omega),List.getElem?_eq_none (by rw[length_map,Array.length_toList];omega)]
theorem dkeys_collect{Q:List Value->Shared->Prop}(hh:A.handled=none)(hn:(d==sysModules)=false)(hd:s.heap.get? d=some (dctO es ep sm))(hz:es.size+2<=sizeLine)
 (q:∀h' tk,(∀b o,s.heap.get? b=some o->h'.get? b=some o)->Q (es.toList.map (·.key)) {s with heap:=h',toks:=tk}):wpAny (model prog w) A (collect (.ref d)) Q E s:=by
 have la:=lt_size hd
 unfold collect
 refine wpAny_bind (wpAny_runValue (codeAny_builtin PySem.F.entry_proto_collect ?_))
 rw[Around.under_plainId PySem.F.plain_proto_collect _]
 refine wpAny_bind (m:=newList []) (wpAny_newObj_type (wpAny_pure ⟨plainId_quiet PySem.F.plain_list_iadd _,codeAny_builtin PySem.F.entry_list_iadd ?_⟩))
 rw[Around.under_plainId PySem.F.plain_list_iadd _]
 have hS:(s.heap.push {cls:=.type "list",data:=.seq ([]:List Value).toArray}).get? s.heap.objs.size=some {cls:=.type "list",data:=.seq #[]}:=get?_push_size _ rfl
 have run:=dkeys_extend (prog:=prog) (w:=w) (A:=A) (s:={s with heap:=s.heap.push {cls:=.type "list",data:=.seq ([]:List Value).toArray}}) (res:=.ref s.heap.objs.size) (R:=fun r s'=>∃h' tk acc c,r=.ok (.ret (.ref s.heap.objs.size))/\s'={s with heap:=h',toks:=tk}/\(∀b o,s.heap.get? b=some o->h'.get? b=some o)/\h'.get? s.heap.objs.size=some {cls:=.type "list",dict:=none,data:=.seq acc c,slots:= #[]}/\acc.toList=es.toList.map (·.key))
  hh hn (get?_push_of_some _ hd) hS (Nat.ne_of_gt la) hz fun h' tk acc c k1 k2 k3=>⟨h',tk,acc,c,rfl,rfl,fun b o e=>k1 b o (Nat.ne_of_lt (lt_size e)) (get?_push_of_some _ e),k2,k3⟩
 show wpAny _ A.in1 (Builtin.List.listExtendWith (.ref s.heap.objs.size) (.ref d) (.ref s.heap.objs.size)) _ _ _
 refine wpAny_mono run (fun x s' z=>?_) fun e s' z=>?_
 . cases x with
   |done f=>
    obtain⟨h',tk,acc,c,e,rfl,k1,k2,k3⟩:=z
    cases e
    exact wpAny_bind (wpAny_load k2 (wpAny_pure (k3▸q h' tk k1)))
   |again c=>
    refine⟨z.1,codeAny_mono z.2 fun r s2 y=>?_⟩
    obtain⟨h',tk,acc,c,rfl,rfl,k1,k2,k3⟩:=y
    exact wpAny_bind (wpAny_load k2 (wpAny_pure (k3▸q h' tk k1)))
 . obtain⟨_,_,_,_,e',_⟩:=z
   cases e'
end
end Y
namespace Y
open PySem PySem.Spec PyProof.Rows L2 PySem.SeqAt
variable[Tabs]
section
variable{X:Cx}{ρ:List (Option D)}{m1:Bool}{o:Expr}{p pos:Pos}{P:D->Prop}{kd:SortKind}{kvs:List (List Key×V)}
theorem ins_kVs{K:PySem.W.Frag}{H:Hp}{Z:Zone}:∀k:List Key,Ins K H Z (k.map kD) (k.map kV)
 |[]=>ins_nil.mpr rfl
 |q::k=>ins_cons.mpr ⟨_,_,rfl,kV_in q,ins_kVs k⟩
end
end Y
namespace Y
open PySem PySem.Spec PyProof.Rows L2
variable[Tabs]
inductive AS where
 |l(ds:List D)
 |k(ks:List Key)(ds:List D)
def AS.d:AS->D
 |.l ds=>.lst ds
 |.k ks ds=>.agg (.k ks) ds
def AS.at(K:PySem.W.Frag)(H:Hp)(Z:Zone)(a:Addr):AS->Prop
 |.l ds=>∃xs,H a=some (.lst xs)/\Ins K H Z ds xs
 |.k ks ds=>∃xs,(Sh.k ks).at H a xs/\InTs K H Z ds xs
abbrev Obf:=List (Str×AS)
def obD(C:Addr)(fs:Obf):D:=.agg (.o C (fs.map (·.1))) (fs.map (·.2.d))
abbrev Prt:=Str×AS×Addr
def psF(ps:List Prt):Obf:=ps.map fun q=>(q.1,q.2.1)
def psA(ps:List Prt):List Addr:=ps.map fun q=>q.2.2
def psV(ps:List Prt):List (Str×V):=ps.map fun q=>(q.1,.ref q.2.2)
section
variable{K:PySem.W.Frag}{H H':Hp}{Z Z':Zone}{a:Addr}{s:AS}
theorem AS.mo(h:s.at K H Z a):∃m:MO,H a=some m.ho:=by
 cases s with
 |l ds=>obtain⟨xs,e,_⟩:=h;exact⟨.l xs,e⟩
 |k ks ds=>obtain⟨xs,e,_⟩:=h;exact⟨.d (.k _),e.2⟩
theorem AS.carry(h:s.at K H Z a)(k:∀m:MO,H a=some m.ho->H' a=some m.ho)(c:Carry K H Z H' Z'):s.at K H' Z' a:=by
 cases s with
 |l ds=>obtain⟨xs,e,i⟩:=h;exact⟨xs,k (.l xs) e,i.carry c⟩
 |k ks ds=>obtain⟨xs,e,i⟩:=h;exact⟨xs,⟨e.1,k (.d (.k _)) e.2⟩,i.carry c⟩
theorem AS.inT(h:s.at K H Z a)(c:Carry K H Z H Z')(z:Z'.S a):InT K H Z' s.d (.ref a):=by
 cases s with
 |l ds=>obtain⟨xs,e,i⟩:=h;exact(in_lst.mpr ⟨a,xs,rfl,.inl ⟨e,z⟩,i.carry c⟩).top
 |k ks ds=>obtain⟨xs,e,i⟩:=h;exact inT_agg.mpr ⟨a,xs,rfl,e,z,i.carry c⟩
theorem parts_inT(c:Carry K H Z H Z'):∀{ps:List Prt},(∀q∈ps,q.2.1.at K H Z q.2.2/\Z'.S q.2.2)->InTs K H Z' ((psF ps).map (·.2.d)) ((psA ps).map V.ref)
 |[],_=>inTs_nil.mpr rfl
 |q::ps,h=>inTs_cons.mpr ⟨_,_,rfl,AS.inT (h q (by simp)).1 c (h q (by simp)).2,parts_inT c fun r hr=>h r (by simp[hr])⟩
theorem psV_zip(ps:List Prt):psV ps=((psF ps).map (·.1)).zip ((psA ps).map V.ref):=by
 induction ps with
 |nil=>rfl
 |cons q ps ih=>
  simp only[psV,psF,psA,map_cons,List.zip_cons_cons]at ih⊢
  rw[ih]
end
def obS(o:Option Addr)(C:Addr)(fs:Obf):SP where
 p K F H O mine v:=∃b dx ps,(∀a,o=some a->b=a)/\psF ps=fs/\mine=b::psA ps/\v=.ref b/\H b=some (.ins C dx (psV ps))/\ ∀q∈ps,q.2.1.at K H (zn F O false) q.2.2
 vw ow f:=if ow&& !f then some (obD C fs)else none
 carry {K F H H' O O' mine v} h k c:=by
  obtain⟨b,dx,ps,e0,e1,rfl,e2,e3,i⟩:=h
  exact⟨b,dx,ps,e0,e1,rfl,e2,k b (.i C dx _) (by simp) e3,fun q hq=>AS.carry (i q hq) (fun m e=>k _ m (mem_cons_of_mem _ (mem_map.mpr ⟨q,hq,rfl⟩)) e) (c false)⟩
 env {K F H O mine v ow fr' d'} op inS h e:=by
  by_cases q:(ow&& !fr')=true
  . rw[if_pos q]at e
    cases e
    obtain⟨b,dx,ps,_,rfl,rfl,rfl,e3,i⟩:=h
    simp at q
    refine inT_agg.mpr ⟨b,(psA ps).map V.ref,rfl,⟨by simp[psF,psA],dx,by rw[<-psV_zip];exact e3⟩,inS q.1 b (by simp),parts_inT (zn_vz op fun hf=>?_) fun r hr=>⟨i r hr,inS q.1 _ (mem_cons_of_mem _ (mem_map.mpr ⟨r,hr,rfl⟩))⟩⟩
    rw[q.2]at hf;cases hf
  . rw[if_neg q]at e;cases e
def upF(f:Str)(s:AS):Obf->Obf
 |[]=>[(f,s)]
 |(g,t)::r=>if g=f then(g,s)::r else(g,t)::upF f s r
def upP(f:Str)(s:AS)(a:Addr):List Prt->List Prt
 |[]=>[(f,s,a)]
 |(g,t,c)::r=>if g=f then(g,s,a)::r else(g,t,c)::upP f s a r
theorem upP_F(f:Str)(s:AS)(a:Addr):∀ps,psF (upP f s a ps)=upF f s (psF ps)
 |[]=>rfl
 |(g,t,c)::r=>by
  have ih:=upP_F f s a r
  unfold psF at ih⊢
  simp only[upP,upF,map_cons]
  split
  . rfl
  . simp only[map_cons,ih]
theorem upP_V(f:Str)(s:AS)(a:Addr):∀ps,psV (upP f s a ps)=putF f (.ref a) (psV ps)
 |[]=>rfl
 |(g,t,c)::r=>by
  have ih:=upP_V f s a r
  unfold psV at ih⊢
  simp only[upP,putF,map_cons]
  split
  . rfl
  . simp only[map_cons,ih]
theorem upP_mem{f:Str}{s:AS}{a:Addr}{q:Prt}:∀{ps},q∈upP f s a ps->(q.2.1=s/\q.2.2=a)\/q∈ps
 |[],h=>.inl (by rw[List.mem_singleton.mp h];exact⟨rfl,rfl⟩)
 |(g,t,c)::r,h=>by
  unfold upP at h
  split at h
  . rcases mem_cons.mp h with rfl|h
    . exact .inl ⟨rfl,rfl⟩
    . exact .inr (mem_cons_of_mem _ h)
  . rcases mem_cons.mp h with rfl|h
    . exact .inr mem_cons_self
    . exact(upP_mem h).imp id (mem_cons_of_mem _)
theorem upP_nd{f:Str}{s:AS}{a:Addr}:∀{ps},(psA ps).Nodup->a∉psA ps->(psA (upP f s a ps)).Nodup
 |[],_,_=>by simp[upP,psA]
 |(g,t,c)::r,h,n=>by
  unfold psA at h n⊢
  rw[map_cons]at h n
  obtain⟨h1,h2⟩:=nodup_cons.mp h
  have n1:a≠c:=fun z=>n (by rw[z];exact mem_cons_self)
  have n2:a∉r.map (fun q=>q.2.2):=fun z=>n (mem_cons_of_mem _ z)
  unfold upP
  split
  . rw[map_cons];exact nodup_cons.mpr ⟨n2,h2⟩
  . rw[map_cons]
    refine nodup_cons.mpr ⟨fun z=>?_,upP_nd h2 n2⟩
    obtain⟨q,hq,e⟩:=mem_map.mp z
    rcases upP_mem hq with⟨_,e2⟩|z2
    . exact n1 (e2.symm.trans e)
    . exact h1 (mem_map.mpr ⟨q,z2,e⟩)
theorem ps_look{f:Str}{s0:AS}:∀{ps},(psF ps).lookup f=some s0->∃a,(f,s0,a)∈ps/\(psV ps).lookup f=some (.ref a)/\ ∀s,psA (upP f s a ps)=psA ps/\psV (upP f s a ps)=psV ps/\((psA ps).Nodup->∀q∈upP f s a ps,(q.2.1=s/\q.2.2=a)\/q∈ps/\q.2.2≠a)
 |[],h=>by cases h
 |(g,t,c)::r,h=>by
  have e:(psF ((g,t,c)::r)).lookup f=if f==g then some t else(psF r).lookup f:=by
   show((g,t)::psF r).lookup f=_
   rw[lookup_cons]
   cases f==g<;>rfl
  have e':(psV ((g,t,c)::r)).lookup f=if f==g then some (.ref c)else(psV r).lookup f:=by
   show((g,V.ref c)::psV r).lookup f=_
   rw[lookup_cons]
   cases f==g<;>rfl
  rw[e]at h
  by_cases q:f=g
  . subst q
    rw[if_pos (by simp)]at h
    cases h
    refine⟨c,mem_cons_self,by rw[e',if_pos (by simp)],fun s=>?_⟩
    have e1:upP f s c ((f,s0,c)::r)=(f,s,c)::r:=if_pos rfl
    rw[e1]
    refine⟨rfl,rfl,fun nd p hp=>?_⟩
    rcases mem_cons.mp hp with rfl|hp
    . exact .inl ⟨rfl,rfl⟩
    . refine .inr ⟨mem_cons_of_mem _ hp,fun z=>?_⟩
      have nd:(c::psA r).Nodup:=nd
      exact(nodup_cons.mp nd).1 (mem_map.mpr ⟨p,hp,z⟩)
  . have q':¬(f==g)=true:=by simpa using q
    rw[if_neg q']at h
    obtain⟨a,h1,h2,h3⟩:=ps_look h
    refine⟨a,mem_cons_of_mem _ h1,by rw[e',if_neg q'];exact h2,fun s=>?_⟩
    obtain⟨k1,k2,k3⟩:=h3 s
    have e1:upP f s a ((g,t,c)::r)=(g,t,c)::upP f s a r:=if_neg (Ne.symm q)
    rw[e1]
    refine⟨by show c::psA (upP f s a r)=c::psA r;rw[k1],by show(g,V.ref c)::psV (upP f s a r)=(g,V.ref c)::psV r;rw[k2],fun nd p hp=>?_⟩
    have nd:(c::psA r).Nodup:=nd
    obtain⟨n1,n2⟩:=nodup_cons.mp nd
    rcases mem_cons.mp hp with rfl|hp
    . exact .inr ⟨mem_cons_self,fun z=>n1 (mem_map.mpr ⟨_,h1,z.symm⟩)⟩
    . exact(k3 n2 p hp).imp id fun z=>⟨mem_cons_of_mem _ z.1,z.2⟩
theorem InTs.look{K:PySem.W.Frag}{H:Hp}{Z:Zone}{f:Str}{d:D}:∀{ns:List Str} {ds:List D} {xs:List V},InTs K H Z ds xs->(ns.zip ds).lookup f=some d->∃v,(ns.zip xs).lookup f=some v/\InT K H Z d v
 |[],_,_,_,h=>by simp at h
 |_::_,[],_,_,h=>by simp at h
 |n::ns,e::ds,_,i,h=>by
  obtain⟨v,r,rfl,a,j⟩:=inTs_cons.mp i
  rw[List.zip_cons_cons,lookup_cons]at h⊢
  cases q:f==n with
  |true=>rw[q]at h;cases h;exact⟨v,rfl,a⟩
  |false=>rw[q]at h;exact j.look h
section
variable{X:Cx}{ρ:List (Option D)}{e:Expr}{pos:Pos}{C:Addr}{ns:List Str}{ds:List D}{f:Str}{d:D}
theorem eg_fld(he:EG X ρ e (.agg (.o C ns) ds))(hc:Cls X.K C)(hn:NoAttr X.K C f)(hl:(ns.zip ds).lookup f=some d)(hb:attributeBase e f X.env (eval e X.env)=eval e X.env:=by rfl):EG X ρ (.Attribute e f pos) d:=
 PE.mono (pe_fld he hb) fun σ H Q z0=>el13 z0 fun Z oz en k=>⟨Z,oz,en,fun v H1 s1 i1=>by
  obtain⟨a,xs,rfl,⟨h1,dx,h2⟩,_,i⟩:=inT_agg.mp i1
  obtain⟨v,h3,h4⟩:=i.look hl
  exact⟨a,C,dx,_,v,rfl,h2,hc,hn,h3,k v H1 s1 h4⟩⟩
theorem EG.toE(h:EG X ρ e d)(hn:d.nag=true):E X false ρ e d:=PE.mono h fun σ H Q z0=>el13 z0 fun Z oz en k=>⟨Z,oz,en,fun v H1 s1 i1=>k v H1 s1 (i1.inn hn)⟩
theorem e_fld(he:EG X ρ e (.agg (.o C ns) ds))(hc:Cls X.K C)(hn:NoAttr X.K C f)(hl:(ns.zip ds).lookup f=some d)(ng:d.nag=true)(hb:attributeBase e f X.env (eval e X.env)=eval e X.env:=by rfl):E X false ρ (.Attribute e f pos) d:=EG.toE (eg_fld he hc hn hl hb) ng
theorem E.eg{m:Bool}(h:E X m ρ e d):EG X ρ e d:=PE.mono h fun σ H Q z0=>el13 z0 fun Z oz en k=>⟨Z,oz,en,fun v H1 s1 i1=>k v H1 s1 (i1.plain oz).top⟩
end
section
variable{X:Cx}{F:Fn}{ρ:Rho}{Q:EndD}{rest:List Stmt}{e key:Expr}{pos p sp:Pos}{m1 m2:Bool}{C:Addr}{fs:Obf}{f:Str}{o:Option Addr}
theorem StIn.ob{K:PySem.W.Frag}{H:Hp}{σ hv:St}{hρ:Rho}{A:Nat->List Addr}{i:Nat}(S:StIn K F H (σ++hv) (ρ++hρ) A)(hl:σ.length=ρ.length)(h:ρ[i]? =some (some (.gen (obS o C fs)))):
 ∃b dx ps,(∀a,o=some a->b=a)/\psF ps=fs/\σ[i]? =some (some (.ref b))/\A i=b::psA ps/\H b=some (.ins C dx (psV ps))/\ ∀q∈ps,q.2.1.at K H (zn F (Owned A) false) q.2.2:=by
 have hi:i<ρ.length:=(List.getElem?_eq_some_iff.mp h).1
 obtain⟨v,a,b,dx,ps,e0,e1,e2,rfl,e3,e4⟩:=S.at' i _ (by rw[getElem?_append_left hi];exact h)
 rw[getElem?_append_left (by omega)]at a
 exact⟨b,dx,ps,e0,e1,a,e2,e3,e4⟩
theorem putA_self{A:Nat->List Addr}{i:Nat}{l:List Addr}(h:A i=l):putA A i l=A:=by
 funext k
 by_cases q:k=i
 . rw[q,putA_same,h]
 . rw[putA_ne q]
theorem put_ob{K:PySem.W.Frag}{hv:St}{hρ:Rho}{σ:St}{H:Hp}{A:Nat->List Addr}{i:Nat}{b dx a:Addr}{ps:List Prt}{s:AS}{m m':MO}(hl:σ.length=ρ.length)(S:StIn K F H (σ++hv) (ρ++hρ) A)(ho:∀a,o=some a->b=a)(h:σ[i]? =some (some (.ref b)))(hA:A i=b::psA ps)(hb:H b=some (.ins C dx (psV ps)))
 (hp:∀q∈ps,q.2.1.at K H (zn F (Owned A) false) q.2.2)(ha:a∈psA ps)(hs1:psA (upP f s a ps)=psA ps)(hs2:psV (upP f s a ps)=psV ps)(hs3:(psA ps).Nodup->∀q∈upP f s a ps,(q.2.1=s/\q.2.2=a)\/q∈ps/\q.2.2≠a)
 (hx:H a=some m.ho)(hn:∀Z:Zone,¬Z.S a->Carry K H Z (upd H a m'.ho) Z->Z=zn F (Owned A) false->s.at K (upd H a m'.ho) Z a):StOk K F hv hρ (fun r=>r=ρ.set i (some (.gen (obS o C (upF f s (psF ps)))))) σ (upd H a m'.ho):=by
 have hi:i<σ.length:=(List.getElem?_eq_some_iff.mp h).1
 have own:a∈A i:=by rw[hA];exact mem_cons_of_mem _ ha
 have nd:=S.nd i
 rw[hA]at nd
 obtain⟨n1,n2⟩:=nodup_cons.mp nd
 have nz:¬(zn F (Owned A) false).S a:=fun z=>z.2 ⟨i,own⟩
 have cw:Carry K H (zn F (Owned A) false) (upd H a m'.ho) (zn F (Owned A) false):=Carry.writeM (xs:=m) hx nz
 refine⟨_,putA A i (A i),by simp[hl],?_,rfl⟩
 have key:=S.re (i:=i) (v:=.ref b) (sl:=.gen (obS o C (upF f s (psF ps)))) (l:=A i) (H2:=upd H a m'.ho) (by rw[List.length_append];omega) (by rw[List.length_append];omega) (S.same.writeM (xs:=m) (S.new i a own) hx) (fun c u e _ hc=>?_) (S.nd i) (fun c hc=>⟨.inl hc,?_⟩) ?_
 . rw[set_self (by rw[getElem?_append_left hi];exact h),set_app (by omega)]at key
   exact key
 . have:c≠a:=fun z=>hc (by rw[z];exact own)
   rw[upd_ne this];exact e
 . by_cases z:c=a
   . rw[z,upd_same];exact⟨m',rfl⟩
   . rw[upd_ne z];exact S.lst i c hc
 . rw[putA_self rfl]
   refine⟨b,dx,upP f s a ps,ho,upP_F f s a ps,by rw[hs1];exact hA,rfl,?_,fun q hq=>?_⟩
   . have:b≠a:=fun z=>n1 (by rw[z];exact ha)
     rw[upd_ne this,hs2];exact hb
   . rcases hs3 n2 q hq with⟨z1,z2⟩|⟨z1,z2⟩
     . rw[z1,z2];exact hn _ nz cw rfl
     . exact AS.carry (hp q z1) (fun mm e=>by rw[upd_ne z2];exact e) cw
theorem sd_fldApp(i:Nat){x:Str}{ap cp fp:Pos}{ds:List D}{d:D}{fs':Obf}(hc:Cls X.K C)(hn:NoAttr X.K C f)(h:ρ[i]? =some (some (.gen (obS o C fs))))(hf:fs.lookup f=some (.l ds))(he:E X m1 (view false false ρ) e d)(hz:ds.length<1000)(hfs:upF f (.l (ds++[d])) fs=fs')
 (hr:SD X F rest (ρ.set i (some (.gen (obS o C fs')))) Q)
 (hN:X.N[i]? =some x:=by rfl)(hv:Vis X.env.scope x:=by first|exact Or.inl rfl|exact Or.inr (Or.inl rfl)|exact Or.inr (Or.inr rfl))(hd:(x==("__debug__":Str))=false:=by decide)(hcd:(x==("__classdict__":Str))=false:=by decide)
 (hb0:attributeBase (.Name x p) f X.env (eval (.Name x p) X.env)=eval (.Name x p) X.env:=by rfl)
 (hbase:attributeBase (.Attribute (.Name x p) f fp) "append" X.env (eval (.Attribute (.Name x p) f fp) X.env)=eval (.Attribute (.Name x p) f fp) X.env:=by rfl)(hline:(ap.endLine==cp.line)=true:=by rfl)
 (hs:starEach [e] X.env=[(false,eval e X.env)]:=by rfl)(hsw:swapsWith (.Call (.Attribute (.Attribute (.Name x p) f fp) "append" ap) [e] [] cp) none pos.line X.env=pure false:=by rfl):
 SD X F (.Expr (.Call (.Attribute (.Attribute (.Name x p) f fp) "append" ap) [e] [] cp) pos::rest) ρ Q:=by
 subst hfs
 refine sd_then (PS.mono (ps_expr (pe_bm PySem.F.plainAttrs_list PySem.F.slot_list_append PySem.F.type_list_append mt_append (pe_fld (pe_var hN hv hd hcd) hb0) (pa_cons he pa_nil (by rw[hs];rfl)) hbase (by rw[hs];rfl) hline (by rw[hs];rfl) rfl) hsw) ?_) hr
 rintro Q' σ H ⟨hv,hρ,A,hl,S,ff⟩
 obtain⟨b,dx,ps,e0,rfl,e1,e2,e3,e4⟩:=S.ob hl h
 obtain⟨a,h1,h2,h3⟩:=ps_look hf
 obtain⟨xs,ha,j⟩:=e4 _ h1
 have ha:H a=some (.lst xs):=ha
 refine⟨.ref b,e1,b,C,dx,_,.ref a,rfl,e3,hc,hn,h2,.inl ⟨rfl,xs,SqL.of ha⟩,_,vz_open S false false,S.env hl false false,fun v H1 s1 i1=>?_⟩
 have i2:In X.K H1 (zn F (Owned A) false) d v:=i1.plain (vz_open S false false)
 obtain⟨k1,k2,k3⟩:=h3 (.l (ds++[d]))
 refine⟨a,xs,v,rfl,rfl,s1.at ha,by rw[<-j.length];exact small1000 (by omega),ff.nx _ _ (put_ob (m:=.l xs) (m':=.l (xs++[v])) hl (S.grow s1) e0 e1 e2 (s1.at e3) (fun q hq=>AS.carry (e4 q hq) (fun m e=>s1.at e m.nt) (.same s1)) (mem_map.mpr ⟨_,h1,rfl⟩) k1 k2 k3 (s1.at ha) fun Z nz c ez=>?_)⟩
 subst ez
 exact⟨_,upd_same,(((j.same s1).append (Ins.one i2)).carry c)⟩
theorem sd_fldPut(i:Nat){x:Str}{fp:Pos}{ks:List Key}{ds:List D}{k:Key}{d:D}{fs':Obf}(hc:Cls X.K C)(hn:NoAttr X.K C f)(h:ρ[i]? =some (some (.gen (obS o C fs))))(hf:fs.lookup f=some (.k ks ds))(hk:E X m1 (view true false ρ) key (kD k))(he:E X m2 (view false false ρ) e d)
 (hnew:k∉ks)(hz:ks.length<1000)(hfs:upF f (.k (ks++[k]) (ds++[d])) fs=fs')(hu:X.A.units+1<cLine)(hr:SD X F rest (ρ.set i (some (.gen (obS o C fs')))) Q)
 (hN:X.N[i]? =some x:=by rfl)(hv:Vis X.env.scope x:=by first|exact Or.inl rfl|exact Or.inr (Or.inl rfl)|exact Or.inr (Or.inr rfl))(hd:(x==("__debug__":Str))=false:=by decide)(hcd:(x==("__classdict__":Str))=false:=by decide)
 (hb0:attributeBase (.Name x p) f X.env (eval (.Name x p) X.env)=eval (.Name x p) X.env:=by rfl)
 (hsw:swapsWith e (some (.Subscript (.Attribute (.Name x p) f fp) key sp)) pos.line X.env=pure false:=by rfl):
 SD X F (.Assign [.Subscript (.Attribute (.Name x p) f fp) key sp] e pos::rest) ρ Q:=by
 subst hfs
 refine sd_then (PS.mono (ps_dput hu (pe_fld (pe_var hN hv hd hcd) hb0) hk he hsw) fun Q' σ H ⟨hv',hρ,A,hl,S,ff⟩=>?_) hr
 obtain⟨b,dx,ps,e0,rfl,e1,e2,e3,e4⟩:=S.ob hl h
 obtain⟨a,h1,h2,h3⟩:=ps_look hf
 obtain⟨xs,ha,j⟩:=e4 _ h1
 refine⟨_,vz_open S false false,S.env hl false false,fun w H1 s1 i1=>?_⟩
 have i1:In X.K H1 (zn F (Owned A) false) d w:=i1.plain (vz_open S false false)
 refine⟨.ref b,e1,b,C,dx,_,.ref a,rfl,s1.at e3,hc,hn,h2,_,(vz_open S true false).same s1,(S.env hl true false).same s1,fun y H2 s2 i2=>?_⟩
 have s12:=s1.trans s2
 have ha2:(Sh.k ks).at H2 a xs:=⟨ha.1,s12.at ha.2⟩
 have hnw:(Sh.k ks).new (kD k) (.k (ks++[k])):=⟨k,rfl,hnew,by rw[sizeLine_eq];omega,rfl⟩
 obtain⟨m,m',z1,z2,z3⟩:=gput (v:=w) ha2 i2 hnw
 obtain⟨k1,k2,k3⟩:=h3 (.k (ks++[k]) (ds++[d]))
 refine⟨a,_,rfl,z2,ff.nx _ _ (put_ob hl (S.grow s12) e0 e1 e2 (s12.at e3) (fun q hq=>AS.carry (e4 q hq) (fun m e=>s12.at e m.nt) (.same s12)) (mem_map.mpr ⟨_,h1,rfl⟩) k1 k2 k3 z1 fun Z nz c ez=>?_)⟩
 subst ez
 exact⟨_,z3,((j.same s12).append (InTs.one (i1.same s2).top)).carry c⟩
end
theorem valV_has{κ:Type}[DecidableEq κ]{ks:List κ}{xs:List V}{k:κ}(hl:ks.length=xs.length)(hk:k∈ks):∃v,valV (ks.zip xs) k=some v:=by
 rw[valV_zip ks xs k hl]
 cases q:ks.findIdx? (· =k)with
 |none=>have:=List.findIdx?_eq_none_iff.mp q k hk;simp at this
 |some j=>
  have hj:=(List.findIdx?_eq_some_iff_getElem.mp q).1
  exact⟨xs[j],by simp[<-hl,hj]⟩
section
variable{K:PySem.W.Frag}{H:Hp}{Z:Zone}{k:Key}
def outK(k:Key)(kp:List (Key×D)):List (Key×D):=kp.filter fun q=>decide (q.1≠k)
theorem drop_zip:∀{kp:List (Key×D)} {xs:List V},InTs K H Z (kp.map (·.2)) xs->∃ys,dropK ((kp.map (·.1)).zip xs) k=((outK k kp).map (·.1)).zip ys/\InTs K H Z ((outK k kp).map (·.2)) ys
 |[],_,h=>⟨[],rfl,inTs_nil.mpr rfl⟩
 |q::kp,_,h=>by
  obtain⟨v,r,rfl,a,j⟩:=inTs_cons.mp h
  obtain⟨ys,e1,e2⟩:=drop_zip j
  unfold dropK outK at e1⊢
  unfold outK at e2
  rw[map_cons,List.zip_cons_cons,List.filter_cons,List.filter_cons]
  by_cases z:q.1=k
  . have:¬decide (q.1≠k)=true:=by simp[z]
    rw[if_neg this,if_neg this]
    exact⟨ys,e1,e2⟩
  . have:decide (q.1≠k)=true:=by simp[z]
    rw[if_pos this,if_pos this,e1]
    exact⟨v::ys,rfl,inTs_cons.mpr ⟨v,ys,rfl,a,e2⟩⟩
end
section
variable{X:Cx}{F:Fn}{ρ:Rho}{Q:EndD}{rest:List Stmt}{e key:Expr}{pos p sp:Pos}{m1 m2:Bool}{C:Addr}{fs:Obf}{f:Str}{o:Option Addr}
theorem sd_fldPop(i:Nat){x:Str}{ap cp fp:Pos}{kp:List (Key×D)}{k:Key}{fs':Obf}(hc:Cls X.K C)(hn:NoAttr X.K C f)(h:ρ[i]? =some (some (.gen (obS o C fs))))(hf:fs.lookup f=some (.k (kp.map (·.1)) (kp.map (·.2))))(he:E X m1 (view true false ρ) e (kD k))(hk:k∈kp.map (·.1))
 (hfs:upF f (.k ((outK k kp).map (·.1)) ((outK k kp).map (·.2))) fs=fs')(hr:SD X F rest (ρ.set i (some (.gen (obS o C fs')))) Q)
 (hN:X.N[i]? =some x:=by rfl)(hv:Vis X.env.scope x:=by first|exact Or.inl rfl|exact Or.inr (Or.inl rfl)|exact Or.inr (Or.inr rfl))(hd:(x==("__debug__":Str))=false:=by decide)(hcd:(x==("__classdict__":Str))=false:=by decide)
 (hb0:attributeBase (.Name x p) f X.env (eval (.Name x p) X.env)=eval (.Name x p) X.env:=by rfl)
 (M:M1 X (.Attribute (.Name x p) f fp) "pop" ap e cp:=by exact⟨rfl,rfl,rfl,rfl⟩)(hsw:swapsWith (.Call (.Attribute (.Attribute (.Name x p) f fp) "pop" ap) [e] [] cp) none pos.line X.env=pure false:=by rfl):
 SD X F (.Expr (.Call (.Attribute (.Attribute (.Name x p) f fp) "pop" ap) [e] [] cp) pos::rest) ρ Q:=by
 subst hfs
 refine sd_then (PS.mono (ps_expr (pe_dpop1 (pe_fld (pe_var hN hv hd hcd) hb0) he M) hsw) ?_) hr
 rintro Q' σ H ⟨hv,hρ,A,hl,S,ff⟩
 obtain⟨b,dx,ps,e0,rfl,e1,e2,e3,e4⟩:=S.ob hl h
 obtain⟨a,h1,h2,h3⟩:=ps_look hf
 obtain⟨xs,ha,j⟩:=e4 _ h1
 refine⟨.ref b,e1,b,C,dx,_,.ref a,rfl,e3,hc,hn,h2,a,rfl,.inl ⟨_,.inl ha.2⟩,_,vz_open S true false,S.env hl true false,fun y H1 s1 i1=>?_⟩
 obtain⟨v,hval⟩:=valV_has (k:=k) ha.1 hk
 obtain⟨ys,g1,g2⟩:=drop_zip (k:=k) (j.same s1)
 obtain⟨k1,k2,k3⟩:=h3 (.k ((outK k kp).map (·.1)) ((outK k kp).map (·.2)))
 refine⟨_,k,v,s1.at ha.2,in_kD (i1.plain (vz_open S true false)),hval,ff.nx _ _ (put_ob (m:=.d (.k _)) (m':=.d (.k _)) hl (S.grow s1) e0 e1 e2 (s1.at e3) (fun q hq=>AS.carry (e4 q hq) (fun m e=>s1.at e m.nt) (.same s1)) (mem_map.mpr ⟨_,h1,rfl⟩) k1 k2 k3 (s1.at ha.2) fun Z nz c ez=>?_)⟩
 subst ez
 refine⟨ys,⟨by have:=g2.length;simpa using this,?_⟩,g2.carry c⟩
 rw[g1]at*
 exact upd_same
theorem sd_gpop(i:Nat){x:Str}{ap cp:Pos}(fr:Bool){kp:List (Key×D)}{k:Key}(h:ρ[i]? =some (some (.gen (oaS fr (.k (kp.map (·.1))) (kp.map (·.2))))))(he:E X m1 (view true false ρ) e (kD k))(hk:k∈kp.map (·.1))
 (hr:SD X F rest (ρ.set i (some (.gen (oaS fr (.k ((outK k kp).map (·.1))) ((outK k kp).map (·.2)))))) Q)
 (hN:X.N[i]? =some x:=by rfl)(hv:Vis X.env.scope x:=by first|exact Or.inl rfl|exact Or.inr (Or.inl rfl)|exact Or.inr (Or.inr rfl))(hd:(x==("__debug__":Str))=false:=by decide)(hcd:(x==("__classdict__":Str))=false:=by decide)
 (M:M1 X (.Name x p) "pop" ap e cp:=by exact⟨rfl,rfl,rfl,rfl⟩)(hsw:swapsWith (.Call (.Attribute (.Name x p) "pop" ap) [e] [] cp) none pos.line X.env=pure false:=by rfl):
 SD X F (.Expr (.Call (.Attribute (.Name x p) "pop" ap) [e] [] cp) pos::rest) ρ Q:=by
 refine sd_then (PS.mono (ps_expr (pe_dpop1 (pe_var hN hv hd hcd) he M) hsw) ?_) hr
 rintro Q' σ H ⟨hv,hρ,A,hl,S,ff⟩
 obtain⟨l,xs,e1,e2,e3,j⟩:=S.oa hl h
 refine⟨.ref l,e1,l,rfl,.inl ⟨_,.inl e3.2⟩,_,vz_open S true false,S.env hl true false,fun y H1 s1 i1=>?_⟩
 obtain⟨v,hval⟩:=valV_has (k:=k) e3.1 hk
 obtain⟨ys,g1,g2⟩:=drop_zip (k:=k) (j.same s1)
 refine⟨_,k,v,s1.at e3.2,in_kD (i1.plain (vz_open S true false)),hval,ff.nx _ _ (put_oa (m:=.d (.k _)) (m':=.d (.k _)) hl (S.grow s1) e1 e2 (s1.at e3.2) ?_ g2)⟩
 refine⟨by have:=g2.length;simpa using this,?_⟩
 rw[g1]at*
 exact upd_same
def NewAt(d:D)(s:AS):Prop:=∀(K:PySem.W.Frag) (H0 H:Hp) (v:V),In K H (nw H0) d v->∃l,v=.ref l/\H0 l=none/\ ∀Z:Zone,s.at K H Z l
theorem newAt_l{ds:List D}(fl:flats ds=true):NewAt (.lst ds) (.l ds):=fun K H0 H v i=>by
 obtain⟨l,xs,rfl,at',j⟩:=in_lst.mp i
 rcases at' with z|z
 . exact⟨l,rfl,z.2,fun Z=>⟨xs,z.1,j.flat' fl⟩⟩
 . exact nwF z.1
theorem newAt_d:NewAt (.dct (.k [])) (.k [] []):=fun K H0 H v i=>by
 obtain⟨l,rfl,e,z⟩:=in_dct.mp i
 exact⟨l,rfl,z,fun Z=>⟨[],⟨rfl,e⟩,inTs_nil.mpr rfl⟩⟩
theorem sd_fldSet(i:Nat){x:Str}{fp:Pos}{d:D}{s:AS}{fs':Obf}(hc:Cls X.K C)(hn:NoAttr X.K C f)(h:ρ[i]? =some (some (.gen (obS o C fs))))(he:E X true (view true false ρ) e d)(hna:NewAt d s)(hz:fs.length<1000)(hfs:upF f s fs=fs')(hr:SD X F rest (ρ.set i (some (.gen (obS o C fs')))) Q)
 (hN:X.N[i]? =some x:=by rfl)(hv:Vis X.env.scope x:=by first|exact Or.inl rfl|exact Or.inr (Or.inl rfl)|exact Or.inr (Or.inr rfl))(hd:(x==("__debug__":Str))=false:=by decide)(hcd:(x==("__classdict__":Str))=false:=by decide)
 (hsw:swapsWith e (some (.Attribute (.Name x p) f fp)) pos.line X.env=pure false:=by rfl):SD X F (.Assign [.Attribute (.Name x p) f fp] e pos::rest) ρ Q:=by
 subst hfs
 refine sd_then (PS.mono (ps_fld (pe_var hN hv hd hcd) he hsw) ?_) hr
 rintro Q' σ H ⟨hv,hρ,A,hl,S,ff⟩
 obtain⟨b,dx,ps,e0,rfl,e1,e2,e3,e4⟩:=S.ob hl h
 have hi:i<σ.length:=(List.getElem?_eq_some_iff.mp e1).1
 refine⟨_,vz_open S true false,S.env hl true false,fun y H1 s1 i1=>?_⟩
 obtain⟨l,rfl,hl0,hat⟩:=hna X.K H H1 y i1
 obtain⟨m,hm⟩:=AS.mo (hat anyZ)
 have nd:=S.nd i
 rw[e2]at nd
 obtain⟨n1,n2⟩:=nodup_cons.mp nd
 have lno:l∉b::psA ps:=fun z=>by
  obtain⟨m,e⟩:=S.lst i l (by rw[e2];exact z)
  rw[hl0]at e;cases e
 have lb:l≠b:=fun z=>lno (by rw[z];exact mem_cons_self)
 have S1:=S.grow s1
 have mem':∀{a:Addr},a∈psA (upP f s l ps)->a=l\/a∈psA ps:=fun{a} ha=>by
  obtain⟨q,hq,rfl⟩:=mem_map.mp ha
  rcases upP_mem hq with z|z
  . exact .inl z.2
  . exact .inr (mem_map.mpr ⟨q,z,rfl⟩)
 have nb:b∉psA (upP f s l ps):=fun z=>(mem' z).elim (fun z=>lb z.symm) n1
 refine⟨.ref b,e1,b,C,dx,_,rfl,s1.at e3,hc,hn,by simpa[psV,psF]using hz,ff.nx _ _ ⟨_,putA A i (b::psA (upP f s l ps)),by simp[hl],?_,rfl⟩⟩
 have keep:∀a (o:HO),a≠b->H1 a=some o->upd H1 b (.ins C dx (putF f (.ref l) (psV ps))) a=some o:=fun a o n e=>by rw[upd_ne n];exact e
 have key:=S.re (i:=i) (v:=.ref b) (sl:=.gen (obS o C (upF f s (psF ps)))) (l:=b::psA (upP f s l ps)) (H2:=upd H1 b (.ins C dx (putF f (.ref l) (psV ps)))) (by rw[List.length_append];omega) (by rw[List.length_append];omega)
  ((S.same.trans s1).writeM (xs:=.i C dx _) (S.new i b (by rw[e2];exact mem_cons_self)) (s1.at e3)) (fun c u e n hc=>keep c u (fun z=>hc (by rw[e2,z];exact mem_cons_self)) (s1.get c u e n)) (nodup_cons.mpr ⟨nb,upP_nd n2 fun z=>lno (mem_cons_of_mem _ z)⟩) (fun c hc=>?_) ?_
 . rw[set_self (by rw[getElem?_append_left hi];exact e1),set_app (by omega)]at key
   exact key
 . rcases mem_cons.mp hc with rfl|hc
   . exact⟨.inl (by rw[e2];exact mem_cons_self),.i C dx _,upd_same⟩
   . rcases mem' hc with rfl|hc
     . exact⟨.inr hl0,m,keep _ _ lb hm⟩
     . have ho:c∈A i:=by rw[e2];exact mem_cons_of_mem _ hc
       obtain⟨m',e⟩:=S1.lst i c ho
       exact⟨.inl ho,m',keep _ _ (fun z=>n1 (by rw[<-z];exact hc)) e⟩
 . have cw:Carry X.K H (zn F (Owned A) false) (upd H1 b (.ins C dx (putF f (.ref l) (psV ps)))) (zn F (Owned (putA A i (b::psA (upP f s l ps)))) false):=carry_re S (fun c u e n hc=>keep c u (fun z=>hc (by rw[e2,z];exact mem_cons_self)) (s1.get c u e n)) (fun a ha=>by
    rcases mem_cons.mp ha with rfl|ha
    . exact .inl (by rw[e2];exact mem_cons_self)
    . rcases mem' ha with rfl|ha
      . exact .inr hl0
      . exact .inl (by rw[e2];exact mem_cons_of_mem _ ha)) false
   refine⟨b,dx,upP f s l ps,e0,upP_F f s l ps,rfl,rfl,by rw[upP_V];exact upd_same,fun q hq=>?_⟩
   rcases upP_mem hq with⟨z1,z2⟩|z
   . rw[z1,z2]
     refine AS.carry (hat ⟨true,fun _=>False⟩) (fun mm e=>keep _ _ lb e) ⟨fun a m e z=>z.elim,fun m=>Bool.noConfusion (show true=false from m),fun a xs e=>?_⟩
     exact keep a _ (fun z=>by rw[z,s1.at e3]at e;cases e) e
   . have qa:q.2.2≠b:=fun w=>n1 (by rw[<-w];exact mem_map.mpr ⟨q,z,rfl⟩)
     exact AS.carry (e4 q z) (fun mm e=>keep _ _ qa (s1.at e mm.nt)) cw
end
theorem rm_tabsMs{H:Hp}{as:List Addr}(hl:∀a∈as,∃m:MO,H a=some m.ho)(t:TabsOk H):TabsOk (rmH H as):=fun P hP=>by
 obtain⟨ps,e,tr,k⟩:=t P hP
 have no:∀{b:Addr} {o:HO},H b=some o->(∀m:MO,o≠m.ho)->b∉as:=fun{b o} q n z=>by
  obtain⟨m,e⟩:=hl b z
  rw[q]at e
  exact n m (Option.some.inj e)
 refine⟨ps,by rw[rm_out (no e (by intro m z;rcases m with xs|(kvs|kvs)|_<;>cases z))];exact e,tr,fun pos cv q=>?_⟩
 obtain⟨c,rfl,hc⟩:=k pos cv q
 exact⟨c,rfl,by rw[rm_out (no hc (by intro m z;rcases m with xs|(kvs|kvs)|_<;>cases z))];exact hc⟩
theorem same_rmMs{H0 H:Hp}{as:List Addr}(s:Same H0 H)(hn:∀a∈as,H0 a=none)(hl:∀a∈as,∃m:MO,H a=some m.ho):Same H0 (rmH H as):=by
 have no:∀{b:Addr} {o:HO},H0 b=some o->b∉as:=fun{b o} q z=>by rw[hn b z]at q;cases q
 exact⟨fun b o e n=>by rw[rm_out (no e)];exact s.get b o e n,fun b ps e=>by rw[rm_out (no e)];exact s.tbl b ps e,fun t=>rm_tabsMs hl (s.tabs t)⟩
def spB(K:PySem.W.Frag)(C:Addr)(G:Obf->List D->Obf->D->Prop):Sp:=fun vs H Q _=>∃(Z:Zone) (xs:List V) (b dx:Addr) (ps:List Prt) (ds:List D) (fs':Obf) (d:D),vs=.ref b::xs/\Z.Open H/\Ins K H Z ds xs/\H b=some (.ins C dx (psV ps))/\(b::psA ps).Nodup/\
 (∀a∈b::psA ps,¬Z.S a)/\(∀q∈ps,q.2.1.at K H Z q.2.2)/\G (psF ps) ds fs' d/\
 ∀(H':Hp) (dx':Addr) (ps':List Prt) (rs:List Addr) (v:V),psF ps'=fs'->Same (rmH H (b::psA ps)) H'->H' b=some (.ins C dx' (psV ps'))->(b::psA ps'++rs).Nodup->(∀a∈b::psA ps'++rs,(a∈b::psA ps\/H a=none)/\ ∃m:MO,H' a=some m.ho)->
  (∀q∈ps',q.2.1.at K H' ⟨Z.m,fun a=>(Z.S a\/a∈b::psA ps)/\a∉b::psA ps'++rs⟩ q.2.2)->In K H' ⟨true,fun a=>a∈rs⟩ d v->Q v H'
def startB(N:List Str)(ds:List D)(b C:Addr)(fs:Obf):Rho:=some (.gen (obS (some b) C fs))::(ds.map (fun d=>some (.pl false d))++List.replicate (N.length-(ds.length+1)) none)
theorem startB_in{K:PySem.W.Frag}{Z:Zone}{H:Hp}{N:List Str}{ds:List D}{xs:List V}{b C dx:Addr}{ps:List Prt}(oz:Z.Open H)(h:Ins K H Z ds xs)(hb:H b=some (.ins C dx (psV ps)))(nd:(b::psA ps).Nodup)(nz:∀a∈b::psA ps,¬Z.S a)(hp:∀q∈ps,q.2.1.at K H Z q.2.2):
 StIn K ⟨true,⟨Z.m,fun a=>Z.S a\/a∈b::psA ps⟩,rmH H (b::psA ps)⟩ H (L2.start N (.ref b::xs)++[]) (startB N ds b C (psF ps)++[]) (putA (fun _=>[]) 0 (b::psA ps)):=by
 have own:∀{i:Nat} {a:Addr},a∈putA (fun _=>[]) 0 (b::psA ps) i->i=0/\a∈b::psA ps:=fun{i a} ha=>by
  by_cases q:i=0
  . rw[q,putA_same]at ha;exact⟨q,ha⟩
  . rw[putA_ne q]at ha;cases ha
 have mos:∀a∈b::psA ps,∃m:MO,H a=some m.ho:=fun a ha=>by
  rcases mem_cons.mp ha with rfl|ha
  . exact⟨.i C dx _,hb⟩
  . obtain⟨q,hq,rfl⟩:=mem_map.mp ha
    exact AS.mo (hp q hq)
 have cz:Carry K H Z H (zn ⟨true,⟨Z.m,fun a=>Z.S a\/a∈b::psA ps⟩,rmH H (b::psA ps)⟩ (Owned (putA (fun _=>[]) 0 (b::psA ps))) false):=⟨fun a m q z=>⟨q,.inl z,fun⟨j,hj⟩=>nz a (own hj).2 z⟩,fun m=>⟨m,fun _ _ q=>q⟩,fun _ _ q=>q⟩
 refine⟨same_un,⟨fun a q=>?_,rm_tabsMs mos oz.tb⟩,fun i=>?_,fun i j a ha hb=>(own ha).1.trans (own hb).1.symm,fun i a ha=>rm_in (own ha).2,fun i a ha=>mos a (own ha).2,fun i sl e=>?_⟩
 . rcases rm_none q with z|z
   . exact .inr z
   . exact .inl (oz.op a z)
 . by_cases q:i=0
   . rw[q,putA_same];exact nd
   . rw[putA_ne q];exact List.nodup_nil
 . rw[append_nil]at e⊢
   unfold startB at e
   unfold L2.start
   cases i with
   |zero=>
    cases e
    exact⟨.ref b,rfl,b,dx,ps,fun a e=>Option.some.inj e,rfl,putA_same,rfl,hb,fun q hq=>AS.carry (hp q hq) (fun _ e=>e) cz⟩
   |succ i=>
    rw[List.getElem?_cons_succ]at e
    have hlen:=h.length
    by_cases hi:i<ds.length
    . rw[getElem?_append_left (by simpa using hi),getElem?_map,List.getElem?_eq_getElem hi]at e
      have e':some (Slot.pl false ds[i])=some sl:=by simpa using e
      cases e'
      obtain⟨v,e1,e2⟩:=h.get (i:=i) (d:=ds[i]) (by simp[hi])
      refine⟨v,by rw[map_cons,cons_append,List.getElem?_cons_succ,getElem?_append_left (by rw[length_map];omega),getElem?_map,e1];rfl,?_⟩
      exact In.carry cz e2
    . rw[getElem?_append_right (by simpa using hi),List.getElem?_replicate]at e
      split at e<;>cases e
def BkO(K:PySem.W.Frag)(F:Fn)(b C:Addr)(fs':Obf)(d:D)(mine:List Addr)(H':Hp)(v:V):Prop:=∃(dx':Addr) (ps':List Prt) (rs:List Addr),psF ps'=fs'/\mine=b::psA ps'/\H' b=some (.ins C dx' (psV ps'))/\
 (∀q∈ps',q.2.1.at K H' ⟨F.Z.m,fun a=>F.Z.S a/\a∉mine++rs⟩ q.2.2)/\rs.Nodup/\(∀a∈rs,a∉mine/\F.H a=none/\ ∃m:MO,H' a=some m.ho)/\In K H' ⟨true,fun a=>a∈rs⟩ d v
def endB(K:PySem.W.Frag)(F:Fn)(b C:Addr)(fs':Obf)(d:D):EndD where
 nx r:=d=.non/\r[0]? =some (some (.gen (obS (some b) C fs')))
 rt _:=False
 rtS _ A H' v:=BkO K F b C fs' d (A 0) H' v
section
variable{P:Program}{w:World}{K:PySem.W.Frag}{mg:Str->Option Value}{base:Heap}
theorem fnB{x qual:Str}{st:Stmt}{f C:Addr}{fd:FuncData}{N ps:List Str}{k:Nat}{G:Obf->List D->Obf->D->Prop}(Fx:Fun K x qual st f fd)(S:FnScope N ps (defScope st))(hlen:∀fs ds fs' d,G fs ds fs' d->ds.length+1=ps.length)(hN:ps.length<=N.length)
 (body:∀(cdv:Value) (A:Around) (outer:List Env) (s:Shared) (H:Hp) (E:XK) (F:Fn) (b:Addr) (fs:Obf) (ds:List D) (fs':Obf) (d:D),Room k (A.deeper (envOfC qual (defScope st) s.heap.objs.size f cdv))->G fs ds fs' d->
  SD (cxOf CX0 P w K mg base N qual (defScope st) f cdv A outer s H E).nox F (defBody st) (startB N ds b C fs) (endB K F b C fs' d)):FnOk P w K mg base CX0 (k+1) f fd ps (spB K C G):=by
 refine Fx.ok S (fun vs H Q E ⟨Z,xs,b,dx,qs,ds,fs',d,e,oz,i,_,_,_,_,g,kk⟩=>?_) (fun cdv A outer s H vs Q E hr ⟨Z,xs,b,dx,qs,ds,fs',d,e,oz,i,hb,nd,nz,hp,g,kk⟩=>?_)
 . rw[e,length_cons, <-i.length];exact hlen _ _ _ _ g
 . subst e
   have hil:=i.length
   have hln:=hlen _ _ _ _ g
   have fin:∀{σ:L2.St} {r:Rho} {A':Nat->List Addr} {H':Hp} {v:V},StIn K ⟨true,⟨Z.m,fun a=>Z.S a\/a∈b::psA qs⟩,rmH H (b::psA qs)⟩ H' (σ++[]) (r++[]) A'->BkO K ⟨true,⟨Z.m,fun a=>Z.S a\/a∈b::psA qs⟩,rmH H (b::psA qs)⟩ b C fs' d (A' 0) H' v->Q v H':=fun{σ r A' H' v} S' ⟨dx',ps',rs,e1,e2,e3,e4,e5,e6,e7⟩=>by
    have nd':=S'.nd 0
    rw[e2]at nd'
    refine kk H' dx' ps' rs v e1 S'.same e3 ?_ (fun a ha=>?_) (fun q hq=>?_) e7
    . refine List.nodup_append.mpr ⟨nd',e5,fun a ha c hc z=>(e6 c hc).1 ?_⟩
      rw[e2, <-z];exact ha
    . rcases mem_append.mp ha with ha|ha
      . have h0:a∈A' 0:=by rw[e2];exact ha
        exact⟨rm_none (S'.new 0 a h0),S'.lst 0 a h0⟩
      . exact⟨rm_none (e6 a ha).2.1,(e6 a ha).2.2⟩
    . have:=e4 q hq
      rw[e2]at this
      exact this
   refine⟨_,body cdv A outer s H E _ b _ ds fs' d hr g,[],[],_,?_,startB_in oz i hb nd nz hp,⟨rfl,fun σ H' ⟨r,A',hl',S',hd0,e⟩=>?_,fun σ H' ⟨r,A',hl,S',e⟩=>e.elim,fun σ H' ⟨r,A',hl,S',e⟩=>e.elim,fun _ _ _ _ _ e=>e.elim,fun _ _ _ _ _ _ _ _ e=>e.elim,fun _ _ _ _ _ _ _ _ _ _ _ _ _ e=>e.elim,fun σ H' r A' v hl S' e=>fin S' e⟩⟩
   . simp[L2.start,startB];omega
   . obtain⟨b',dx',ps',h0,h1,h2,h3,h4,h5⟩:=S'.ob hl' e
     cases h0 b rfl
     subst hd0
     refine fin S' ⟨dx',ps',[],h1,h3,h4,fun q hq=>AS.carry (h5 q hq) (fun _ e=>e) ⟨fun a m q z=>⟨q,z.1,fun w=>z.2 ⟨0,by simpa using w⟩⟩,fun m=>⟨m,fun _ _ q=>q⟩,fun _ _ q=>q⟩,List.nodup_nil,fun a ha=>by simp at ha,in_non.mpr rfl⟩
end
section
variable{X:Cx}{F:Fn}{ρ:Rho}{Q:EndD}{rest:List Stmt}{e:Expr}{es:List Expr}{ds:List D}{pos p py cp ap:Pos}{m1:Bool}{b C:Addr}{fs fs':Obf}{o:Option Addr}
theorem sd_retB{d:D}(h:ρ[0]? =some (some (.gen (obS (some b) C fs'))))(he:E X true (view true false ρ) e d):SD X F (.Return (some e) pos::rest) ρ (endB X.K F b C fs' d):=
 sd_seq (N:=fun _=>False) (PS.mono (ps_ret he) fun Q' σ H z0=>el33 z0 fun hv hρ A hl S f=>⟨_,vz_open S true false,S.env hl true false,fun v H1 s1 i1=>by
  obtain⟨b',dx,ps,e0,e1,e2,e3,e4,e5⟩:=S.ob hl h
  cases e0 b rfl
  obtain⟨as,q1,q2⟩:=In.collect (Z:=nw H) rfl (show In X.K H1 (nw H) d v from i1)
  obtain⟨rs,nd,hrs⟩:=nub as
  refine f.rtS σ H1 ρ A v hl (S.grow s1) ⟨dx,ps,rs,e1,e3,s1.at e4,fun q hq=>AS.carry (e5 q hq) (fun m e=>s1.at e m.nt) ⟨fun a m q z=>⟨s1.at q m.nt,z.1,fun w=>?_⟩,fun m=>⟨m,fun _ _ q=>q.same s1⟩,fun _ _ q=>s1.at q⟩,nd,fun a ha=>?_,q2.carry ⟨fun a m q z=>⟨q,(hrs a).mpr z⟩,fun m=>Bool.noConfusion (show true=false from m),fun _ _ q=>q⟩⟩
  . rcases mem_append.mp w with w|w
    . exact z.2 ⟨0,w⟩
    . have n0:H a=none:=(q1 a ((hrs a).mp w)).1
      rw[n0]at q;cases q
  . have n0:H a=none:=(q1 a ((hrs a).mp ha)).1
    refine⟨fun z=>?_,S.same.free n0,(q1 a ((hrs a).mp ha)).2⟩
    obtain⟨m,q⟩:=S.lst 0 a z
    rw[n0]at q;cases q⟩) fun _ n=>n.elim
theorem sd_retB2(j:Nat){x:Str}{ds:List D}(h:ρ[0]? =some (some (.gen (obS (some b) C fs'))))(hj:ρ[j]? =some (some (.ow true ds)))(fl:flats ds=true)(j0:j≠0)(hN:X.N[j]? =some x:=by rfl)(hv:Vis X.env.scope x:=by first|exact Or.inl rfl|exact Or.inr (Or.inl rfl)|exact Or.inr (Or.inr rfl))
 (hd:(x==("__debug__":Str))=false:=by decide)(hcd:(x==("__classdict__":Str))=false:=by decide):SD X F (.Return (some (.Name x p)) pos::rest) ρ (endB X.K F b C fs' (.lst ds)):=
 sd_seq (N:=fun _=>False) (PS.mono (ps_ret (pe_var hN hv hd hcd)) fun Q' σ H z0=>el33 z0 fun hv hρ A hl S f=>by
  obtain⟨b',dx,ps,e0,e1,e2,e3,e4,e5⟩:=S.ob hl h
  cases e0 b rfl
  obtain⟨l,xs,g1,g2,g3,g4⟩:=S.ow hl hj
  have hlj:l∈A j:=by rw[g2];simp
  refine⟨.ref l,g1,f.rtS σ H ρ A (.ref l) hl S ⟨dx,ps,[l],e1,e3,e4,fun q hq=>AS.carry (e5 q hq) (fun m e=>e) ⟨fun a m q z=>⟨q,z.1,fun w=>?_⟩,fun m=>⟨m,fun _ _ q=>q⟩,fun _ _ q=>q⟩,nodup1,fun a ha=>?_,in_lst.mpr ⟨l,xs,rfl,.inl ⟨g3,by simp⟩,g4.flat' fl⟩⟩⟩
  . rcases mem_append.mp w with w|w
    . exact z.2 ⟨0,w⟩
    . rw[List.mem_singleton.mp w]at z
      exact z.2 ⟨j,hlj⟩
  . rw[List.mem_singleton.mp ha]
    exact⟨fun z=>j0 (S.one j 0 l hlj z),S.new j l hlj,.l xs,g3⟩) fun _ n=>n.elim
structure DefB(P:Program)(w:World)(K:PySem.W.Frag)(mg:Str->Option Value)(base:Heap)(k:Nat)(C:Addr)(x:Str)(G:Obf->List D->Obf->D->Prop):Prop where
 ex:∃f fd ps,FnOk P w K mg base CX0 k f fd ps (spB K C G)/\Meth K C x f/\Binds K fd ps []
theorem nolook{ps:List Prt}{m:Str}:(psF ps).lookup m=none->(psV ps).lookup m=none:=by
 induction ps with
 |nil=>exact fun _=>rfl
 |cons q ps ih=>
  intro h
  have h:List.lookup m ((q.1,q.2.1)::psF ps)=none:=h
  show List.lookup m ((q.1,V.ref q.2.2)::psV ps)=none
  rw[lookup_cons]at h⊢
  cases z:m==q.1 with
  |true=>rw[z]at h;cases h
  |false=>rw[z]at h;exact ih h
theorem call_back{K:PySem.W.Frag}{hv:St}{hρ:Rho}{σ:St}{H H1 H':Hp}{A:Nat->List Addr}{i:Nat}{dx':Addr}{ps ps':List Prt}{rs l2:List Addr}(S:StIn K F H (σ++hv) (ρ++hρ) A)(hA:A i=b::psA ps)(s1:Same H H1)(hi:i<ρ.length)(hiv:i<σ.length)(sm:Same (rmH H1 (b::psA ps)) H')(hb:H' b=some (.ins C dx' (psV ps')))
 (nd:(b::psA ps'++rs).Nodup)(ha:∀a∈b::psA ps'++rs,(a∈b::psA ps\/H1 a=none)/\ ∃m:MO,H' a=some m.ho)(h2:∀a∈l2,a∈rs)(n2:l2.Nodup)(sl:Slot)
 (hsl:SlotIn K F H' (Owned (putA A i (b::psA ps'++l2))) (b::psA ps'++l2) (.ref b) sl):StIn K F H' ((σ++hv).set i (some (.ref b))) ((ρ++hρ).set i (some sl)) (putA A i (b::psA ps'++l2)):=by
 have mos:∀a∈b::psA ps,∃m:MO,H1 a=some m.ho:=fun a ha=>by
  obtain⟨m,e⟩:=S.lst i a (by rw[hA];exact ha)
  exact⟨m,s1.at e m.nt⟩
 refine S.re (by rw[List.length_append];omega) (by rw[List.length_append];omega) ((same_rmMs (S.same.trans s1) (fun a ha=>S.new i a (by rw[hA];exact ha)) mos).trans sm) (fun c o e n hc=>sm.get c o (by rw[rm_out (by rw[hA]at hc;exact hc)];exact s1.get c o e n) n) ?_ (fun a h=>?_) hsl
 . refine List.nodup_append.mpr ⟨(List.nodup_append.mp nd).1,n2,fun a h1 c hc=>(List.nodup_append.mp nd).2.2 a h1 c (h2 c hc)⟩
 . have h':a∈b::psA ps'++rs:=by
    rcases mem_append.mp h with h|h
    . exact List.mem_append_left _ h
    . exact mem_append_right _ (h2 a h)
   obtain⟨z,m⟩:=ha a h'
   refine⟨?_,m⟩
   rw[hA]
   exact z.imp id s1.free
theorem call_zone{K:PySem.W.Frag}{vs:St}{ρ':Rho}{H H1 H':Hp}{A:Nat->List Addr}{i:Nat}{mine l rs:List Addr}(S:StIn K F H vs ρ' A)(hA:A i=mine)(s1:Same H H1)(hl:∀a∈l,(a∈mine\/H1 a=none)/\a∈rs):
 Carry K H' ⟨(zn F (Owned A) false).m,fun a=>((zn F (Owned A) false).S a\/a∈mine)/\a∉rs⟩ H' (zn F (Owned (putA A i l)) false):=by
 refine⟨fun a m q z=>⟨q,?_,fun⟨k,hk⟩=>?_⟩,fun m=>⟨m,fun _ _ q=>q⟩,fun _ _ q=>q⟩
 . rcases z.1 with z|z
   . exact z.1
   . exact S.opn.op a (S.new i a (by rw[hA];exact z))
 . by_cases ki:k=i
   . rw[ki,putA_same]at hk
     exact z.2 (hl a hk).2
   . rw[putA_ne ki]at hk
     rcases z.1 with z|z
     . exact z.2 ⟨k,hk⟩
     . exact ki (S.one k i a hk (by rw[hA];exact z))
end
def tMB(K:PySem.W.Frag)(C:Addr)(m:Str)(G:Obf->List D->Obf->D->Prop)(i:Nat)(ρ:List (Option D))(ds:List D):TE:=fun σ H Q=>∃(b dx:Addr) (fs:List (Str×V)),σ[i]? =some (some (.ref b))/\H b=some (.ins C dx fs)/\fs.lookup m=none/\
 ∃Z:Zone,Z.Open H/\EnvIn K H Z σ ρ/\ ∀vs H1,Same H H1->Ins K H1 Z ds vs->spB K C G (.ref b::vs) H1 Q E0
section
variable{X:Cx}{F:Fn}{ρ:Rho}{Q:EndD}{rest:List Stmt}{e ce:Expr}{es:List Expr}{ds:List D}{pos p py cp ap:Pos}{C:Addr}{fs fs':Obf}{o:Option Addr}{k:Nat}{m y x:Str}{G:Obf->List D->Obf->D->Prop}{rv:List (Option D)}{i:Nat}{d:D}
theorem pe_mb(Df:DefB X.prog X.w X.K X.mg X.base k C m G)(hc:Cls X.K C)(hr:Room k X.A)(ha:EA X rv (e::es) ds)
 (hN:X.N[i]? =some y:=by rfl)(hv:Vis X.env.scope y:=by first|exact Or.inl rfl|exact Or.inr (Or.inl rfl)|exact Or.inr (Or.inr rfl))(hd:(y==("__debug__":Str))=false:=by decide)(hcd:(y==("__classdict__":Str))=false:=by decide)
 (hst:starEach (e::es) X.env=(false,eval e X.env)::starEach es X.env:=by rfl)(hpl:(backTo cp (starEach es X.env)).any (·.1)=false:=by rfl){pl:Sem Bool}
 (ht:eval (.Call (.Attribute (.Name y py) m ap) (e::es) [] cp) X.env=(do
  let ov<-eval (.Name y py) X.env
  standAt ap.atName
  let(f,first)<-holding [ov] (getMethod ov m pl)
  callWith cp f first (backTo cp (starEach (e::es) X.env)) (backToKw cp (keywordEach [] X.env))):=by rfl):
 PE X (.Call (.Attribute (.Name y py) m ap) (e::es) [] cp) (tMB X.K C m G i rv ds):=by
 obtain⟨f,fd,ps,h1,h2,h3⟩:=Df.ex
 refine PE.mono (pe_meth (pe_var hN hv hd hcd) hc h2 h1 hr h3 .nil pass0 ha hst hpl ht) fun σ H Q ⟨b,dx,fs,e1,e2,e3,Z,oz,en,kq⟩=>⟨.ref b,e1,b,dx,fs,rfl,e2,e3,Z,oz,en,fun vs H1 s1 i1=>?_⟩
 show spB X.K C G (.ref b::(vs++[])) H1 Q E0
 rw[append_nil]
 exact kq vs H1 s1 i1
theorem pe_mb0(Df:DefB X.prog X.w X.K X.mg X.base k C m G)(hc:Cls X.K C)(hr:Room k X.A)
 (hN:X.N[i]? =some y:=by rfl)(hv:Vis X.env.scope y:=by first|exact Or.inl rfl|exact Or.inr (Or.inl rfl)|exact Or.inr (Or.inr rfl))(hd:(y==("__debug__":Str))=false:=by decide)(hcd:(y==("__classdict__":Str))=false:=by decide){pl:Sem Bool}
 (ht:eval (.Call (.Attribute (.Name y py) m ap) [] [] cp) X.env=(do
  let ov<-eval (.Name y py) X.env
  standAt ap.atName
  let(f,first)<-holding [ov] (getMethod ov m pl)
  callWith cp f first (backTo cp (starEach [] X.env)) (backToKw cp (keywordEach [] X.env))):=by rfl):
 PE X (.Call (.Attribute (.Name y py) m ap) [] [] cp) (tMB X.K C m G i rv []):=by
 obtain⟨f,fd,ps,h1,h2,h3⟩:=Df.ex
 refine PE.mono (pe_meth0 (pe_var hN hv hd hcd) hc h2 h1 hr h3 .nil pass0 ht) fun σ H Q ⟨b,dx,fs,e1,e2,e3,Z,oz,en,kq⟩=>⟨.ref b,e1,b,dx,fs,rfl,e2,e3,?_⟩
 exact kq [] H (Same.refl H) (ins_nil.mpr rfl)
theorem sd_callB(i:Nat)(ow:Bool)(hp:PE X ce (tMB X.K C m G i (view ow false ρ) ds))(h:ρ[i]? =some (some (.gen (obS o C fs))))(hm:fs.lookup m=none)(g:G fs ds fs' d)(hr:SD X F rest (ρ.set i (some (.gen (obS o C fs')))) Q)
 (hsw:swapsWith ce none pos.line X.env=pure false:=by rfl)(hfl:ow=true->flats ds=true:=by intro h;first|rfl|cases h):SD X F (.Expr ce pos::rest) ρ Q:=by
 refine sd_then (PS.mono (ps_expr hp hsw) ?_) hr
 rintro Q' σ H ⟨hv,hρ,A,hl,S,ff⟩
 obtain⟨b,dx,ps,e0,rfl,e1,e2,e3,e4⟩:=S.ob hl h
 have hi:i<σ.length:=(List.getElem?_eq_some_iff.mp e1).1
 refine⟨b,dx,_,e1,e3,nolook hm,_,vz_open S ow false,S.env hl ow false,fun vs H1 s1 i1=>?_⟩
 have i1:Ins X.K H1 (vz F (Owned A) false false) ds vs:=by
  cases ow
  . exact i1
  . exact i1.flat' (hfl rfl)
 refine⟨_,vs,b,dx,ps,ds,fs',d,rfl,(vz_open S false false).same s1,i1,s1.at e3,by rw[<-e2];exact S.nd i,fun a ha z=>z.2 ⟨i,by rw[e2];exact ha⟩,fun q hq=>AS.carry (e4 q hq) (fun m e=>s1.at e m.nt) (.same s1),g,fun H' dx' ps' rs v h1 sm h2 nd ha hq _=>ff.nx _ _ ⟨_,putA A i (b::psA ps'++[]),by simp[hl],?_,rfl⟩⟩
 subst h1
 have key:=call_back (l2:=[]) S e2 s1 (by omega) hi sm h2 nd ha (fun a z=>by cases z) List.nodup_nil (.gen (obS o C (psF ps'))) ⟨b,dx',ps',e0,rfl,append_nil _,rfl,h2,fun q hq'=>AS.carry (hq q hq') (fun _ e=>e) (call_zone S e2 s1 fun a h=>?_)⟩
 . rw[set_self (by rw[getElem?_append_left hi];exact e1),set_app (by omega)]at key
   exact key
 . rw[append_nil]at h
   have h':=List.mem_append_left rs h
   exact⟨(ha a h').1,h'⟩
theorem sd_makeB(j:Nat){f:Addr}{fd:FuncData}{ps:List Str}{cn:Str}(M:Mk X.K C f)(Fk:FnOk X.prog X.w X.K X.mg X.base CX0 k f fd ps (spB X.K C G))(hr0:Room (k+1) X.A)(hg:Gl X cn)(hmg:X.mg cn=some (.ref C))(hb:Binds X.K fd ps [])(g:G [] [] fs' .non)(hr:SD X F rest (ρ.set j (some (.gen (obS none C fs')))) Q)
 (hN:X.N.Nodup)(hi:X.N[j]? =some x:=by rfl)(hx:Loc X.env.scope x:=by first|exact Or.inl rfl|exact Or.inr rfl)(hρj:j<ρ.length:=by exact of_decide_eq_true rfl)(hdb:(cn==("__debug__":Str))=false:=by decide)(hs:swapsWith (.Call (.Name cn py) [] [] cp) (some (.Name x p)) pos.line X.env=pure false:=by rfl)(hf:X.fn x=true\/X.env.scope.names.lookup x=some .local:=by first|exact .inl rfl|exact .inr rfl):
 SD X F (.Assign [.Name x p] (.Call (.Name cn py) [] [] cp) pos::rest) ρ Q:=by
 refine sd_then (PS.mono (ps_set hN hi hx (pe_make0 M Fk hr0 hg hmg hb .nil pass0 hdb) hs hf) ?_) hr
 rintro Q' σ H ⟨hv,hρ,A,hl,S,ff⟩
 intro b dx hb0 hd0 ne
 have s1:Same H (upd (upd H dx (.own b)) b (.ins C dx [])):=(same_new hd0).trans (same_new (by rw[upd_ne (Ne.symm ne)];exact hb0))
 have hb1:(upd (upd H dx (.own b)) b (.ins C dx [])) b=some (.ins C dx []):=upd_same
 have oz:=(zn_open S false).same s1
 refine⟨⟨(zn F (Owned A) false).m,fun a=>(zn F (Owned A) false).S a/\a≠b⟩,[],b,dx,[],[],fs',.non,rfl,⟨fun a q=>⟨oz.op a q,fun z=>by rw[z,hb1]at q;cases q⟩,oz.tb⟩,ins_nil.mpr rfl,hb1,by simp[psA],fun a ha z=>z.2 (by simpa[psA]using ha),fun q hq=>(by cases hq),g,fun H' dx' ps' rs v h1 sm h2 nd ha hq iv=>⟨in_non.mp iv,ff.nx _ _ ⟨_,putA A j (b::psA ps'),by simp[hl],?_,rfl⟩⟩⟩
 subst h1
 have mine:∀a∈b::psA ps',H a=none/\ ∃m:MO,H' a=some m.ho:=fun a h=>by
  obtain⟨z,m⟩:=ha a (List.mem_append_left _ h)
  refine⟨?_,m⟩
  rcases z with z|z
  . rw[List.mem_singleton.mp (show a∈[b]from z)];exact hb0
  . exact s1.free z
 have sH:Same H H':=(same_rmMs s1 (fun a h=>by rw[List.mem_singleton.mp (show a∈[b]from h)];exact hb0) fun a h=>⟨.i C dx [],by rw[List.mem_singleton.mp (show a∈[b]from h)];exact hb1⟩).trans sm
 rw[<-set_app (by omega), <-set_app hρj]
 refine S.put (by rw[List.length_append];omega) (by rw[List.length_append];omega) sH (List.nodup_append.mp nd).1 mine ⟨b,dx',ps',fun a z=>(by cases z),rfl,rfl,rfl,h2,fun q hq'=>AS.carry (hq q hq') (fun _ e=>e) ⟨fun a mm q z=>⟨q,?_,fun⟨k,hk⟩=>?_⟩,fun mm=>⟨mm,fun _ _ q=>q⟩,fun _ _ q=>q⟩⟩
 . rcases z.1 with z1|z1
   . exact z1.1.1
   . exact absurd (List.mem_append_left _ (by rw[List.mem_singleton.mp (show a∈[b]from z1)];exact mem_cons_self)) z.2
 . by_cases kj:k=j
   . rw[kj,putA_same]at hk
     exact z.2 (List.mem_append_left _ hk)
   . rw[putA_ne kj]at hk
     rcases z.1 with z1|z1
     . exact z1.1.2 ⟨k,hk⟩
     . exact z.2 (List.mem_append_left _ (by rw[List.mem_singleton.mp (show a∈[b]from z1)];exact mem_cons_self))
end
def spAg(K:PySem.W.Frag)(m:Bool)(G:List D->D->Prop):Sp:=fun vs H Q _=>∃(Z:Zone) (ds:List D) (d:D),Z.Open H/\InTs K H Z ds vs/\G ds d/\ ∀v H',Same H H'->In K H' (out m Z H) d v->Q v H'
def EAT(X:Cx)(ρ:List (Option D))(es:List Expr)(ds:List D):Prop:=PA X es (fun σ H Q=>∃Z:Zone,Z.Open H/\EnvIn X.K H Z σ ρ/\ ∀vs H',Same H H'->InTs X.K H' Z ds vs->Q vs H')
section
variable{X:Cx}{ρ:List (Option D)}{m m1:Bool}{e o:Expr}{es:List Expr}{d:D}{ds:List D}{pos p ap cp:Pos}
theorem eat_nil:EAT X ρ [] []:=PA.mono pa_nil fun σ H Q z0=>el13 z0 fun Z oz en k=>k [] H (Same.refl H) (inTs_nil.mpr rfl)
theorem eat_cons(ha:EG X ρ e d)(hr:EAT X ρ es ds)(hs:starEach (e::es) X.env=(false,eval e X.env)::starEach es X.env:=by rfl):EAT X ρ (e::es) (d::ds):=
 PA.mono (pa_cons ha hr hs) fun σ H Q z0=>el13 z0 fun Z oz en k=>⟨Z,oz,en,fun v H1 s1 i1=>⟨Z,oz.same s1,en.same s1,fun vs H2 s2 i2=>k (v::vs) H2 (s1.trans s2) (inTs_cons.mpr ⟨v,vs,rfl,i1.same s2,i2⟩)⟩⟩
theorem eat_one(ha:EG X ρ e d)(hs:starEach (e::[]) X.env=(false,eval e X.env)::starEach [] X.env:=by rfl):EAT X ρ [e] [d]:=eat_cons ha eat_nil hs
end
structure DefM(P:Program)(w:World)(K:PySem.W.Frag)(mg:Str->Option Value)(base:Heap)(k:Nat)(C:Addr)(x:Str)(m:Bool)(G:List D->D->Prop):Prop where
 ex:∃f fd ps,FnOk P w K mg base CX0 k f fd ps (spAg K m G)/\Meth K C x f/\Binds K fd ps []
structure DefA(P:Program)(w:World)(K:PySem.W.Frag)(mg:Str->Option Value)(base:Heap)(k:Nat)(x:Str)(m:Bool)(G:List D->D->Prop):Prop where
 ex:∃f fd ps,FnOk P w K mg base CX0 k f fd ps (spAg K m G)/\mg x=some (.ref f)/\keepIn K (.ref f)=true/\Binds K fd ps []
theorem InTs.nolook{K:PySem.W.Frag}{H:Hp}{Z:Zone}{f:Str}:∀{ns:List Str} {ds:List D} {xs:List V},InTs K H Z ds xs->(ns.zip ds).lookup f=none->(ns.zip xs).lookup f=none
 |[],_,_,_,_=>rfl
 |_::_,[],_,i,_=>by rw[inTs_nil.mp i];rfl
 |n::ns,e::ds,_,i,h=>by
  obtain⟨v,r,rfl,a,j⟩:=inTs_cons.mp i
  rw[List.zip_cons_cons,lookup_cons]at h⊢
  cases q:f==n with
  |true=>rw[q]at h;cases h
  |false=>rw[q]at h;exact j.nolook h
section
variable{X:Cx}{ρ:List (Option D)}{m m1:Bool}{e o:Expr}{es:List Expr}{d:D}{ds:List D}{pos p ap cp:Pos}{k:Nat}{C:Addr}{x:Str}{G:List D->D->Prop}{ns:List Str}{os:List D}
theorem e_callA(Df:DefA X.prog X.w X.K X.mg X.base k x m G)(hr:Room k X.A)(ha:EAT X ρ (e::es) ds)(h:G ds d)(hg:Gl X x:=by rfl)(hdb:(x==("__debug__":Str))=false:=by decide)
 (he:starEach (e::es) X.env=(false,eval e X.env)::starEach es X.env:=by rfl)(hpl:(backTo pos (starEach es X.env)).any (·.1)=false:=by rfl):E X m ρ (.Call (.Name x p) (e::es) [] pos) d:=by
 obtain⟨f,fd,ps,a,b,c,dd⟩:=Df.ex
 exact PE.mono (pe_call a hr hg b c dd .nil pass0 ha hdb he hpl) fun σ H Q z0=>el13 z0 fun Z oz en k=>⟨Z,oz,en,fun vs H1 s1 i1=>by
  show spAg X.K m G (vs++[]) H1 Q E0
  rw[append_nil]
  exact⟨Z,ds,d,oz.same s1,i1,h,fun v H' s' i=>k v H' (s1.trans s') (i.later s1)⟩⟩
theorem e_meth(Df:DefM X.prog X.w X.K X.mg X.base k C x m G)(hc:Cls X.K C)(hr:Room k X.A)(ho:EG X ρ o (.agg (.o C ns) os))(hm:(ns.zip os).lookup x=none)(ha:EAT X ρ (e::es) ds)(h:G (.agg (.o C ns) os::ds) d)
 (hst:starEach (e::es) X.env=(false,eval e X.env)::starEach es X.env:=by rfl)(hpl:(backTo cp (starEach es X.env)).any (·.1)=false:=by rfl){pl:Sem Bool}
 (ht:eval (.Call (.Attribute o x ap) (e::es) [] cp) X.env=(do
  let ov<-eval o X.env
  standAt ap.atName
  let(f,first)<-holding [ov] (getMethod ov x pl)
  callWith cp f first (backTo cp (starEach (e::es) X.env)) (backToKw cp (keywordEach [] X.env))):=by rfl):E X m ρ (.Call (.Attribute o x ap) (e::es) [] cp) d:=by
 obtain⟨f,fd,ps,h1,h2,h3⟩:=Df.ex
 refine PE.mono (pe_meth ho hc h2 h1 hr h3 .nil pass0 ha hst hpl ht) fun σ H Q ⟨Z,oz,en,kq⟩=>⟨Z,oz,en,fun v H1 s1 i1=>?_⟩
 obtain⟨a,xs,rfl,⟨g1,dx,g2⟩,g3,g4⟩:=inT_agg.mp i1
 refine⟨a,dx,_,rfl,g2,g4.nolook hm,Z,oz.same s1,en.same s1,fun vs H2 s2 i2=>?_⟩
 show spAg X.K m G (.ref a::(vs++[])) H2 Q E0
 rw[append_nil]
 exact⟨Z,_,d,oz.same (s1.trans s2),inTs_cons.mpr ⟨_,_,rfl,i1.same s2,i2⟩,h,fun v H' s' i=>kq v H' ((s1.trans s2).trans s') (i.later (s1.trans s2))⟩
theorem e_meth0(Df:DefM X.prog X.w X.K X.mg X.base k C x m G)(hc:Cls X.K C)(hr:Room k X.A)(ho:EG X ρ o (.agg (.o C ns) os))(hm:(ns.zip os).lookup x=none)(h:G [.agg (.o C ns) os] d){pl:Sem Bool}
 (ht:eval (.Call (.Attribute o x ap) [] [] cp) X.env=(do
  let ov<-eval o X.env
  standAt ap.atName
  let(f,first)<-holding [ov] (getMethod ov x pl)
  callWith cp f first (backTo cp (starEach [] X.env)) (backToKw cp (keywordEach [] X.env))):=by rfl):E X m ρ (.Call (.Attribute o x ap) [] [] cp) d:=by
 obtain⟨f,fd,ps,h1,h2,h3⟩:=Df.ex
 refine PE.mono (pe_meth0 ho hc h2 h1 hr h3 .nil pass0 ht) fun σ H Q ⟨Z,oz,en,kq⟩=>⟨Z,oz,en,fun v H1 s1 i1=>?_⟩
 obtain⟨a,xs,rfl,⟨g1,dx,g2⟩,g3,g4⟩:=inT_agg.mp i1
 refine⟨a,dx,_,rfl,g2,g4.nolook hm,?_⟩
 exact⟨Z,_,d,oz.same s1,InTs.one i1,h,fun v H' s' i=>kq v H' (s1.trans s') (i.later s1)⟩
end
def slotAg(d:D):Slot:=if d.nag then .pl false d else .gen (agS false d)
def startAg(N:List Str)(ds:List D):Rho:=ds.map (fun d=>some (slotAg d))++List.replicate (N.length-ds.length) none
theorem startAg_in{K:PySem.W.Frag}{Z:Zone}{H:Hp}{m:Bool}{N:List Str}{ds:List D}{vs:List V}(oz:Z.Open H)(h:InTs K H Z ds vs):StIn K ⟨m,Z,H⟩ H (L2.start N vs++[]) (startAg N ds++[]) (fun _=>[]):=by
 refine⟨Same.refl H,oz,fun _=>List.nodup_nil,fun i j a ha=>by simp at ha,fun i a ha=>by simp at ha,fun i a ha=>by simp at ha,fun i sl e=>?_⟩
 rw[append_nil]at e⊢
 unfold startAg at e
 unfold L2.start
 by_cases hi:i<ds.length
 . rw[getElem?_append_left (by simpa using hi),getElem?_map]at e
   have hd:ds[i]? =some ds[i]:=by simp[hi]
   rw[hd]at e
   have e':some (slotAg ds[i])=some sl:=by simpa using e
   cases e'
   obtain⟨v,a,b⟩:=h.get hd
   have hv:i<vs.length:=(List.getElem?_eq_some_iff.mp a).1
   refine⟨v,by rw[getElem?_append_left (by simpa using hv),getElem?_map,a];rfl,?_⟩
   have c:Carry K H Z H (zn ⟨m,Z,H⟩ (Owned fun _=>[]) false):=Carry.of (Same.refl H) (fun a xs e z=>⟨z,fun⟨j,hj⟩=>by simp at hj⟩) fun m=>m
   unfold slotAg
   split
   . next n=>exact In.carry c (b.inn n)
   . exact InT.carry c b
 . rw[getElem?_append_right (by simpa using hi),List.getElem?_replicate]at e
   split at e<;>cases e
section
variable{P:Program}{w:World}{K:PySem.W.Frag}{mg:Str->Option Value}{base:Heap}
theorem fnAg{x qual:Str}{st:Stmt}{f:Addr}{fd:FuncData}{N ps:List Str}{k:Nat}{m:Bool}{G:List D->D->Prop}(Fx:Fun K x qual st f fd)(S:FnScope N ps (defScope st))(hlen:∀ds d,G ds d->ds.length=ps.length)
 (body:∀(cdv:Value) (A:Around) (outer:List Env) (s:Shared) (H:Hp) (E:XK) (Z:Zone) (ds:List D) (d:D),Room k (A.deeper (envOfC qual (defScope st) s.heap.objs.size f cdv))->G ds d->
  SD (cxOf CX0 P w K mg base N qual (defScope st) f cdv A outer s H E).nox ⟨m,Z,H⟩ (defBody st) (startAg N ds) {nx:=fun _=>d=.non,rt:=fun d'=>d'=d}):FnOk P w K mg base CX0 (k+1) f fd ps (spAg K m G):=by
 refine Fx.ok S (fun vs H Q E ⟨Z,ds,d,oz,i,g,kk⟩=>?_) (fun cdv A outer s H vs Q E hr ⟨Z,ds,d,oz,i,g,kk⟩=>?_)
 . rw[<-i.length];exact hlen ds d g
 . refine⟨_,body cdv A outer s H E Z ds d hr g,[],[],fun _=>[],?_,startAg_in oz i,⟨rfl,fun σ H' ⟨r,A',hl,S',e⟩=>?_,fun σ H' ⟨r,A',hl,S',e⟩=>e.elim,fun σ H' ⟨r,A',hl,S',e⟩=>e.elim,fun v d' H' s' i' e=>?_,fun _ _ _ _ _ _ _ _ e=>e.elim,fun _ _ _ _ _ _ _ _ _ _ _ _ _ e=>e.elim,fun _ _ _ _ _ _ _ e=>e.elim⟩⟩
   . have:=i.length
     simp[L2.start,startAg];omega
   . subst e
     exact kk .non H' S'.same (in_non.mpr rfl)
   . subst e
     exact kk v H' s' i'
theorem fnAgC{x qual:Str}{st:Stmt}{f c:Addr}{fd:FuncData}{N ps:List Str}{k:Nat}{m:Bool}{G:List D->D->Prop}(Fx:FunC K x qual st f fd c)(S:FnScope N ps (defScope st))(hlen:∀ds d,G ds d->ds.length=ps.length)
 (body:∀(A:Around) (outer:List Env) (s:Shared) (H:Hp) (E:XK) (Z:Zone) (ds:List D) (d:D),Room k (A.deeper (envOfC qual (defScope st) s.heap.objs.size f (.ref c)))->G ds d->
  SD (cxOf CX0 P w K mg base N qual (defScope st) f (.ref c) A outer s H E).nox ⟨m,Z,H⟩ (defBody st) (startAg N ds) {nx:=fun _=>d=.non,rt:=fun d'=>d'=d}):FnOk P w K mg base CX0 (k+1) f fd ps (spAg K m G):=by
 obtain⟨oc,od,kV,doc,pm,an,ct,osl,rfl,lk,hcd⟩:=Fx.ex
 refine fn_of lk hcd S (fun vs H Q E ⟨Z,ds,d,oz,i,g,kk⟩=>?_) fun A outer s H vs Q E hr ⟨Z,ds,d,oz,i,g,kk⟩=>?_
 . rw[<-i.length];exact hlen ds d g
 . refine⟨_,PSs.nox (body A outer s H E Z ds d hr g),[],[],fun _=>[],?_,startAg_in oz i,⟨rfl,fun σ H' ⟨r,A',hl,S',e⟩=>?_,fun σ H' ⟨r,A',hl,S',e⟩=>e.elim,fun σ H' ⟨r,A',hl,S',e⟩=>e.elim,fun v d' H' s' i' e=>?_,fun _ _ _ _ _ _ _ _ e=>e.elim,fun _ _ _ _ _ _ _ _ _ _ _ _ _ e=>e.elim,fun _ _ _ _ _ _ _ e=>e.elim⟩⟩
   . have:=i.length
     simp[L2.start,startAg];omega
   . subst e
     exact kk .non H' S'.same (in_non.mpr rfl)
   . subst e
     exact kk v H' s' i'
end
end Y
namespace Y
open PySem PySem.Spec PyProof.Rows L2 PySem.SeqAt
variable[Tabs]
section
variable{P:Program}{w:World}{K:PySem.W.Frag}{mg:Str->Option Value}{base:Heap}
theorem hok_keep{H H':Hp}{h:Heap}{d:Addr}{m:MO}(ok:HOk P w H h)(hd:H d=some m.ho)(e:∀b,b≠d->H' b=H b)(hd':∀o,H' d=some o->ObjOk P w H' h d o):HOk P w H' h:=fun b o q=>by
 by_cases z:b=d
 . subst z;exact hd' o q
 . rw[e b z]at q
   have keep:∀{c:Addr} {u:HO},H c=some u->(∀m:MO,u≠m.ho)->H' c=some u:=fun{c u} q n=>by
    rw[e c fun w=>by rw[w,hd]at q;exact n m (Option.some.inj q).symm];exact q
   exact(ok b o q).stay (fun _ _ _ q=>q) (fun c q=>keep q (by intro m z;rcases m with xs|(kvs|kvs)|_<;>cases z)) fun c xs q=>keep q (by intro m z;rcases m with xs|(kvs|kvs)|_<;>cases z)
theorem FnOk.frozen{k:Nat}{f:Addr}{fd:FuncData}{ps:List Str}{sp sp':Sp}(F:FnOk P w K mg base CX0 k f fd ps sp')
 (h:∀vs H Q E,sp vs H Q E->∃d kvs,H d=some (.dK kvs)/\ ∀o,sp' vs (upd H d (.frz o (.dK kvs))) (fun v H'=>Q v (upd H' d (.dK kvs))) E):FnOk P w K mg base CX0 k f fd ps sp where
 len vs H Q E q:=by
  obtain⟨d,kvs,_,q'⟩:=h vs H Q E q
  exact F.len _ _ _ _ (q' ⟨.none,none,.plain, #[]⟩)
 run A outer s H args us vs Q E hr e0 hb rv hs:=by
  obtain⟨d,kvs,hd,q'⟩:=h vs H Q E hs
  obtain⟨o,ho⟩:∃o,s.heap.get? d=some o:=by
   obtain⟨_,_,_,_,o,_,_,h1,_⟩:=dk_of e0.hok hd
   exact⟨o,h1⟩
  have ne:∀{b:Addr},H b=none->b≠d:=fun{b} q z=>by rw[z,hd]at q;cases q
  have okF:HOk P w (upd H d (.frz o (.dK kvs))) s.heap:=hok_keep (m:=.d (.k kvs)) e0.hok hd (fun b z=>upd_ne z) fun u q=>by
   rw[upd_same]at q
   cases q
   refine⟨ho,(e0.hok d _ hd).stay (fun _ _ _ q=>q) (fun c q=>?_) fun c xs q=>?_⟩
   . rw[upd_ne fun z=>by rw[z,hd]at q;cases q];exact q
   . rw[upd_ne fun z=>by rw[z,hd]at q;cases q];exact q
  have e1:Env0 P w K mg base A outer s (upd H d (.frz o (.dK kvs))):=⟨e0.frames,e0.mod,fun b u q=>⟨(e0.bs b u q).1,by rw[upd_ne (ne (e0.bs b u q).2)];exact(e0.bs b u q).2⟩,e0.bsz,e0.funs,fun b hb=>by rw[upd_ne (ne (e0.frf b hb))];exact e0.frf b hb,okF,e0.bare⟩
  refine codeAny_mono (F.run A outer s _ args us vs _ E hr e1 hb rv (q' o)) fun r s' hq=>?_
  cases r with
  |error e=>exact hq
  |ok fl=>
   cases fl with
   |next=>exact hq
   |brk=>exact hq
   |cont=>exact hq
   |ret u=>
    obtain⟨v,H',os,bare,un,hok,r',q⟩:=hq
    have hd':H' d=some (.frz o (.dK kvs)):=un.frzs d o _ upd_same
    refine⟨v,upd H' d (.dK kvs),os,bare,⟨fun b u e n hb hx=>?_,fun b u e n hb hx=>?_,fun b u e n hx=>?_,un.there,fun b xs e=>?_,fun b u u' e=>?_,fun b pp e=>?_⟩,hok_keep (m:=.d (.f o kvs)) hok hd' (fun b z=>upd_ne z) fun u q=>?_,r',q⟩
    . exact un.keep b u e (by rw[upd_ne (ne n)];exact n) hb hx
    . exact un.slot b u e (by rw[upd_ne (ne n)];exact n) hb hx
    . rw[upd_ne (ne n)];exact un.free b u e (by rw[upd_ne (ne n)];exact n) hx
    . have z:b≠d:=fun z=>by rw[z,hd]at e;cases e
      rw[upd_ne z];exact un.tups b xs (by rw[upd_ne z];exact e)
    . have z:b≠d:=fun z=>by rw[z,hd]at e;cases e
      rw[upd_ne z];exact un.frzs b u u' (by rw[upd_ne z];exact e)
    . have z:b≠d:=fun z=>by rw[z,hd]at e;cases e
      rw[upd_ne z];exact un.tbls b pp (by rw[upd_ne z];exact e)
    . rw[upd_same]at q
      cases q
      refine((hok d _ hd').2).stay (fun _ _ _ q=>q) (fun c q=>?_) fun c xs q=>?_
      . rw[upd_ne fun z=>by rw[z,hd']at q;cases q];exact q
      . rw[upd_ne fun z=>by rw[z,hd']at q;cases q];exact q
end
theorem pairs_keys{P:Program}{w:World}:∀{es:List DictEntry} {kvs:List (Key×V)} {vs:List (Key×Value)},KV kvs vs->Pairs (mixKind P w) es vs->Vals (kvs.map fun q=>kV q.1) (es.map (·.key))
 |_,_,_,.nil,.nil=>.nil
 |_,_,_,.cons r t,.cons h1 _ t2=>by
  refine .cons ?_ (pairs_keys t t2)
  have h2:=rel_of_is h1
  rw[<-r.1]at h2
  exact h2
def ItF(d:Addr)(b:Obj)(kvs:List (Key×V)):It:=⟨fun i H=>i<kvs.length/\H d=some (.frz b (.dK kvs)),fun i H x H'=>H'=H/\ ∃kv,kvs[i]? =some kv/\x=kV kv.1,fun i H=>kvs.length<=i/\H d=some (.frz b (.dK kvs))⟩
theorem vals_get{xs:List V}{us:List Value}(r:Vals xs us):∀{i:Nat} {x:V},xs[i]? =some x->∃u,us[i]? =some u/\RelV x u:=by
 induction r with
 |nil=>intro i x h;simp at h
 |cons a r ih=>
  intro i x h
  cases i with
  |zero=>cases h;exact⟨_,rfl,a⟩
  |succ i=>simpa using ih (i:=i) (by simpa using h)
theorem turn_frz{P:Program}{w:World}{K:PySem.W.Frag}{tg:Expr}(it d:Addr){es:Array DictEntry}{ep:Nat}{sm:Array (Option Value)}{kvs:List (Key×V)}(rv:Vals (kvs.map fun q=>kV q.1) (es.toList.map (·.key))):
 Turn P w K tg (ItF d (dctO es ep sm) kvs) [it] it (fun i h=>h.IsKeyIter it d i es.size ep) where
 mem:=by simp
 obj:=fun i h ⟨o,e,c,dt⟩ b hb=>by
  obtain rfl:b=it:=by simpa using hb
  exact⟨o,e,fun v z=>by rw[dt]at z;cases z⟩
 keep:=fun i h h' ⟨o,ho,r⟩ k=>⟨o,k it (by simp) o ho,r⟩
 item:=by
  intro X hP hw hK hc i pins s σ H E I hf st hg
  subst hP hw hK
  obtain⟨f0,f1,f2,f3,f4,f5⟩:=hf it (by simp)
  obtain⟨hg,hd⟩:i<kvs.length/\H d=some (.frz (dctO es ep sm) (.dK kvs)):=hg
  have hz:kvs.length=es.size:=by have:=rv.length;simpa using this
  have hi:i<es.size:=by omega
  obtain⟨u,hu,ru⟩:=vals_get rv (i:=i) (x:=kV kvs[i].1) (by simp[hg])
  have key:es[i].key=u:=by simpa[hi]using hu
  refine keys_item st ((show ObjOk X.prog X.w H s.heap d (.frz (dctO es ep sm) (.dK kvs))from I.hok d _ hd)).1 hi fun h' st' sb=>?_
  rw[key]
  have I1:Inv X pins σ H {s with heap:=h'}:=I.turned (t':=s.toks) (fun b o hb e=>(sb.2 b hb).trans e) f0 f1 f3 f4 f5
  obtain⟨o,e,c,dt⟩:=id st'
  exact⟨_,rfl,go_of (s:={s with heap:=h'}) e c dt (by decide) ⟨kV kvs[i].1,H,I1,ru,⟨rfl,kvs[i],by simp[hg],rfl⟩,st',fun b hb=>(hf b hb).1⟩⟩
 done:=by
  intro X hP hw hK hc i pins s σ H E I hf st hg
  subst hP hw hK
  obtain⟨f0,f1,f2,f3,f4,f5⟩:=hf it (by simp)
  obtain⟨hg,hd⟩:kvs.length<=i/\H d=some (.frz (dctO es ep sm) (.dK kvs)):=hg
  have hz:kvs.length=es.size:=by have:=rv.length;simpa using this
  exact keys_end (I.ok.hd hc) st ((show ObjOk X.prog X.w H s.heap d (.frz (dctO es ep sm) (.dK kvs))from I.hok d _ hd)).1 (by omega) fun h' eb=>⟨rfl,I.turned (t':=s.toks) (fun b o hb e=>eb b o hb e) f0 f1 f3 f4 f5⟩
 self:=fun _ _ _ _ _ st h=>wpAny_pyIter_keyiter st h
section
variable{X:Cx}{ρ:List (Option D)}{m m1:Bool}{e o:Expr}{tg:Expr}{p pos:Pos}{b:Obj}{ks:List Key}{ds:List D}
theorem it_frz(he:EG X ρ e (.agg (.f b ks) ds)):IT X tg false ρ e (ks.map kD):=by
 intro pins s σ H R I ⟨Z,oz,en,k⟩
 refine thn (he pins s σ H (fun v H1=>Same H H1/\InT X.K H1 Z (.agg (.f b ks) ds) v) I ⟨Z,oz,en,fun v H1 s1 i1=>⟨s1,i1⟩⟩) fun u s1 ⟨x,H1,I1,rx,sm,i1⟩=>?_
 obtain⟨d,xs,rfl,⟨hl,hd⟩,hz,_⟩:=inT_agg.mp i1
 obtain rfl:u=Value.ref d:=rx
 obtain⟨hget,_⟩:=(show ObjOk X.prog X.w H1 s1.heap d (.frz b (.dK (ks.zip xs)))from I1.hok d _ hd)
 obtain⟨_,nS,vs,kv,⟨c,dc,da,sl⟩,es,ep,h1,⟨h2,h3,h3'⟩,h4,_,h6,_⟩:=dk_rd I1.hok (.inr ⟨b,hd⟩)
 subst h2 h3 h3' h4
 rw[hget]at h1
 cases h1
 have rv:=pairs_keys kv h6
 have fp:∀c∈[s1.heap.objs.size],FpOk X pins H1 c:=fun c hc=>by
  obtain rfl:c=s1.heap.objs.size:=by simpa using hc
  exact I1.fpOk (Nat.le_refl _) (I1.hok.fresh (Nat.le_refl _))
 have lz:(ks.zip xs).length=ks.length:=by rw[List.length_zip];omega
 refine keys_iter nS hget ⟨s1.heap.objs.size,[s1.heap.objs.size],_,ItF d (dctO es ep #[]) (ks.zip xs),H1,rfl,I1.kept (t':=s1.toks) fun b o e=>get?_push_of_some _ e,turn_frz (sm:= #[]) _ d rv,⟨_,get?_push_size _ rfl,rfl,rfl⟩,fp,k _ H1 [.ref d] [.dct (.f (dctO es ep #[]) (ks.zip xs))] sm (Ins.one (in_dct.mpr ⟨d,rfl,hd,hz⟩)) ⟨fun Z2 H2 o2 j2 i dd e=>?_,fun Z2 H2 o2 j2=>?_⟩⟩
 . obtain⟨w,r,e1,j3,_⟩:=ins_cons.mp j2
   cases e1
   obtain⟨d',e2,hd2,_⟩:=in_dct.mp j3
   cases e2
   obtain⟨kk,hks,rfl⟩:∃q,ks[i]? =some q/\kD q=dd:=by simpa[getElem?_map]using e
   have hi:i<ks.length:=(List.getElem?_eq_some_iff.mp hks).1
   refine⟨⟨by omega,hd2⟩,fun y H3 ⟨e1,q,e2,e3⟩=>?_⟩
   subst e1 e3
   obtain⟨q1,q2⟩:=List.getElem?_zip_eq_some.mp (show(ks.zip xs)[i]? =some (q.1,q.2)from e2)
   rw[hks]at q1
   cases q1
   exact⟨Same.refl _,kV_in _⟩
 . obtain⟨w,r,e1,j3,_⟩:=ins_cons.mp j2
   cases e1
   obtain⟨d',e2,hd2,_⟩:=in_dct.mp j3
   cases e2
   exact⟨by rw[lz,length_map];exact Nat.le_refl _,hd2⟩
theorem call_sortedDK:CallR X (.builtin "sorted") (fun xs H Q=>∃(d:Addr) (kvs:List (Key×V)) (P:D->Prop) (kd:SortKind),xs=[V.ref d]/\Rd H d (.dK kvs)/\Lin P/\KindOf P kd/\(∀q∈kvs,P (kD q.1)/\X.A.units+2+(kD q.1).dep<cLine)/\kvs.length<64/\X.A.handled=none/\
 ∀a H' ys,H a=none->H'=upd H a (.lst ys)->(∀Z:Zone,Ins X.K H' Z (srt id (kvs.map fun q=>kD q.1)) ys)->Q (.ref a) H'):=by
 intro pins s σ H xs us Q I r h
 obtain⟨d,kvs,P,kd,rfl,hd,L,kk,hP,h64,hh,fin⟩:=h
 obtain⟨u,rfl,ru⟩:=vals1 r
 cases ru
 obtain⟨_,nS,vs,kv,⟨c,dc,da,sl⟩,es,ep,h1,⟨h2,h3,h3'⟩,h4,_,h6,_⟩:=dk_rd I.hok hd
 subst h2 h3 h3' h4
 have rv:=pairs_keys kv h6
 have hl:es.size=kvs.length:=by have:=rv.length;simpa using this.symm
 refine Calls.call_function_entry kind_sorted plain_sorted entry_sorted (args_sorted1 _) ?_
 unfold Builtin.«sorted»
 refine wpAny_bind (m:=checkCount "sorted" 1 1 _) (wpAny_pure ?_)
 refine wpAny_bind (dkeys_collect (show X.A.in1.handled=none from hh) nS h1 (by rw[sizeLine_eq];omega) fun h' tk keep=>?_)
 have I1:Inv X pins σ H {s with heap:=h',toks:=tk}:=I.kept keep
 refine wpAny_bind (wpAny_newList ?_ (by rw[length_map,Array.length_toList,sizeLine_eq];omega))
 generalize hbs:es.toList.map (·.key)=bs at rv
 have hbl:bs.length=kvs.length:=by rw[<-rv.length,length_map]
 have hoL:(h'.push (seqObj "list" bs.toArray 0)).get? h'.objs.size=some (seqObj "list" bs.toArray 0):=get?_push_size _ rfl
 have kp:∀b o,h'.get? b=some o->(h'.push (seqObj "list" bs.toArray 0)).get? b=some o:=fun b o e=>get?_push_of_some _ e
 have jU:∀Z:Zone,Ins X.K H Z (kvs.map fun q=>kD q.1) (kvs.map fun q=>kV q.1):=fun Z=>by
  have:=ins_kVs (K:=X.K) (H:=H) (Z:=Z) (kvs.map (·.1))
  rwa [map_map,map_map]at this
 refine wpAny_bind (wpAny_holding (wpAny_call_entry slot_list_sort ⟨_,hoL,rfl⟩ entry_list_sort (sort_plain (s:={s with heap:=h',toks:=tk}) (Z:=⟨true,fun _=>True⟩) (t1:=tk) L kk (fun d hd=>by
  obtain⟨q,hq,rfl⟩:=mem_map.mp hd
  exact hP q hq) I1 (jU _) rv (by rw[hbl];omega) kp (Nat.le_refl _) hoL fun s3 prs I3 pp e3=>⟨_,rfl,?_⟩) (args_list_sort _)))
 have Ha:H h'.objs.size=none:=I1.hok.fresh (Nat.le_refl _)
 refine wpAny_pure ⟨_,rfl,.ref h'.objs.size,_,I3,rfl,fin _ _ _ Ha rfl fun Z=>?_⟩
 have j0:=ins_of_mem fun z hz=>ins_zip (jU Z) z (pp.mem_iff.mp hz)
 rw[e3]at j0
 exact j0.same (same_new Ha)
theorem e_sortedDK{P:D->Prop}{kd:SortKind}{s:Sh}(hsh:s=.k ks\/s=.f b ks)(ho:EG X ρ o (.agg s ds))(L:Lin P)(kk:KindOf P kd)(hP:∀k∈ks,P (kD k)/\X.A.units+2+(kD k).dep<cLine)(h64:ks.length<64)(hh:X.A.handled=none)(hm:X.mg "sorted"=none)
 (hg:Gl X "sorted":=by rfl)(hs:starEach [o] X.env=[(false,eval o X.env)]:=by rfl):
 E X true ρ (.Call (.Name "sorted" p) [o] [] pos) (.lst (srt id (ks.map kD))):=
 PE.mono (pe_callB call_sortedDK hg hm boot_sorted (pa_cons ho pa_nil (by rw[hs];rfl)) (by decide) (by decide) (by rw[hs];rfl) rfl) fun σ H Q z0=>el13 z0 fun Z oz en k=>⟨Z,oz,en,fun x H1 s1 i1=>by
  obtain⟨d,xs,rfl,e,_,_⟩:=inT_agg.mp i1
  obtain⟨hl,hd⟩:ks.length=xs.length/\Rd H1 d (.dK (ks.zip xs)):=by
   rcases hsh with rfl|rfl
   . exact⟨e.1,.inl e.2⟩
   . exact⟨e.1,.inr ⟨b,e.2⟩⟩
  have em:(ks.zip xs).map (fun q=>kD q.1)=ks.map kD:=by
   have e1:(ks.zip xs).map (·.1)=ks:=List.map_fst_zip (Nat.le_of_eq hl)
   have e2:(ks.zip xs).map (fun q=>kD q.1)=((ks.zip xs).map (·.1)).map kD:=by rw[map_map];rfl
   rw[e2,e1]
  refine⟨d,_,P,kd,rfl,hd,L,kk,fun q hq=>hP q.1 ?_,by rw[List.length_zip];omega,hh,fun a H' ys ha eH j=>?_⟩
  . exact(List.of_mem_zip (show(q.1,q.2)∈ks.zip xs from hq)).1
  . subst eH
    rw[em]at j
    exact k (.ref a) _ (s1.trans (same_new ha)) (in_lst.mpr ⟨a,ys,rfl,.inl ⟨upd_same,s1.free ha⟩,j _⟩)⟩
end
end Y
namespace Y
open PySem PySem.Spec PyProof.Rows L2
variable[Tabs]
abbrev Tx:=List (Str×List (List Str))
def txK(T:Tx):List (Key×D):=T.map fun q=>(.inr q.1,rowsD q.2)
def txA(T:Tx):AS:=.k ((txK T).map (·.1)) ((txK T).map (·.2))
def nmD(T:Tx):List D:=T.map fun q=>.str q.1
def nmL(T:Tx):List Str:=(srt id (nmD T)).map unS
theorem nmL_D(T:Tx):(nmL T).map D.str=srt id (nmD T):=by
 unfold nmL
 rw[map_map]
 conv=>rhs;rw[<-List.map_id (srt id (nmD T))]
 refine map_congr_left fun d hd=>?_
 obtain⟨q,_,rfl⟩:=mem_map.mp ((srt_perm id (nmD T)).mem_iff.mp hd)
 rfl
theorem nmL_perm(T:Tx):(nmL T).Perm (T.map (·.1)):=by
 have h:=(srt_perm id (nmD T)).map unS
 have e:(nmD T).map unS=T.map (·.1):=by
  unfold nmD
  rw[map_map]
  rfl
 rw[e]at h
 exact h
theorem nmL_up{T:Tx}(nd:(T.map (·.1)).Nodup):(nmL T).Pairwise fun x y=>dor .lt (.str x) (.str y)=true:=by
 have h:=srt_up (P:=isStr) (f:=id) lin_str (ds:=nmD T) fun d hd=>by
  obtain⟨q,_,rfl⟩:=mem_map.mp hd
  exact⟨_,rfl⟩
 rw[<-nmL_D,List.pairwise_map]at h
 have n2:(nmL T).Pairwise (· ≠ ·):=(nmL_perm T).nodup_iff.mpr nd
 refine(h.and n2).imp fun{x y} hh=>?_
 cases q:dor .lt (.str x) (.str y)with
 |true=>rfl
 |false=>exact absurd (by have:=lin_str.tt _ _ ⟨x,rfl⟩ ⟨y,rfl⟩ q hh.1;injection this) hh.2
def rwT(T:Tx)(n:Str):List (List Str):=(T.lookup n).getD []
theorem rwT_mem{T:Tx}(nd:(T.map (·.1)).Nodup){q:Str×List (List Str)}(h:q∈T):rwT T q.1=q.2:=by
 unfold rwT
 induction T with
 |nil=>cases h
 |cons p T ih=>
  rw[map_cons]at nd
  obtain⟨n1,n2⟩:=nodup_cons.mp nd
  obtain⟨a,b⟩:=p
  rw[lookup_cons]
  rcases mem_cons.mp h with rfl|h
  . simp
  . have:(q.1==a)=false:=beq_eq_false_iff_ne.mpr fun z=>n1 (by rw[<-z];exact mem_map.mpr ⟨q,h,rfl⟩)
    rw[this]
    exact ih n2 h
def byN(T:Tx):Tx:=(nmL T).map fun n=>(n,rwT T n)
theorem byN_perm{T:Tx}(nd:(T.map (·.1)).Nodup):(byN T).Perm T:=by
 have h:=(nmL_perm T).map fun n=>(n,rwT T n)
 rw[map_map]at h
 have e:T.map ((fun n=>(n,rwT T n))∘(·.1))=T:=by
  conv=>rhs;rw[<-List.map_id T]
  refine map_congr_left fun q hq=>?_
  simp only[Function.comp,id,rwT_mem nd hq]
 rw[e]at h
 exact h
def zR(q:Str×List (List Str)):List ((Str×Nat)×List Str):=q.2.zipIdx.map fun z=>((q.1,z.2),z.1)
def zT(T:Tx):List ((Str×Nat)×List Str):=(byN T).flatMap zR
def orig(T:Tx):List (Str×Nat):=(zT T).map (·.1)
def tog(T:Tx):List (List Str):=(zT T).map (·.2)
def oriD(p:Str×Nat):D:=.tup [.str p.1,.int (p.2:Nat)]
theorem zR_at{q:Str×List (List Str)}{z:(Str×Nat)×List Str}(h:z∈zR q):z.1.1=q.1/\q.2[z.1.2]? =some z.2:=by
 obtain⟨y,hy,rfl⟩:=mem_map.mp h
 have:=List.mem_zipIdx_iff_getElem?.mp hy
 exact⟨rfl,this⟩
theorem zT_at{T:Tx}(nd:(T.map (·.1)).Nodup){z:(Str×Nat)×List Str}(h:z∈zT T):(rwT T z.1.1)[z.1.2]? =some z.2:=by
 obtain⟨q,hq,hz⟩:=List.mem_flatMap.mp h
 obtain⟨e1,e2⟩:=zR_at hz
 rw[e1,rwT_mem nd ((byN_perm nd).mem_iff.mp hq)]
 exact e2
abbrev Pl3:=Str×Nat×Nat
def trD(t:Pl3):D:=.tup [.str t.1,.int (t.2.1:Nat),.int (t.2.2:Nat)]
def tr3(T:Tx)(p:Nat×Nat):Pl3:=(((orig T).getD p.1 ("",0)).1,((orig T).getD p.1 ("",0)).2,p.2)
def plR(z:(Str×Nat)×List Str):List Pl3:=(List.range z.2.length).map fun a=>(z.1.1,z.1.2,a)
def plT(T:Tx):List Pl3:=T.flatMap fun q=>(zR q).flatMap plR
theorem range_flat{α β:Type}(l:List α)(d:α)(g:α->List β):(List.range l.length).flatMap (fun i=>g (l.getD i d))=l.flatMap g:=by
 conv=>rhs;rw[show l=(List.range l.length).map fun i=>l.getD i d from by
  apply List.ext_getElem (by simp)
  intro i h1 h2
  simp[h1]]
 rw[List.flatMap_map]
theorem flatMap_cong{α β:Type}{f g:α->List β}:∀{l:List α},(∀a∈l,f a=g a)->l.flatMap f=l.flatMap g
 |[],_=>rfl
 |a::l,h=>by rw[List.flatMap_cons,List.flatMap_cons,h a (by simp),flatMap_cong fun b hb=>h b (by simp[hb])]
theorem allP_T(T:Tx):(allP (tog T)).map (tr3 T)=plT (byN T):=by
 have e:plT (byN T)=(zT T).flatMap plR:=by
  unfold plT zT
  rw[List.flatMap_assoc]
 have hl:(tog T).length=(zT T).length:=by simp[tog]
 rw[e, <-range_flat (zT T) ((("",0),[]):(Str×Nat)×List Str) plR]
 unfold allP allPn
 rw[List.map_flatMap,hl]
 refine flatMap_cong fun i hi=>?_
 have hi:i<(zT T).length:=by simpa using hi
 unfold plR
 rw[map_map]
 have e1:(tog T).getD i []=(zT T)[i].2:=by simp[tog,hi]
 have e2:(zT T).getD i (("",0),[])=(zT T)[i]:=by simp[hi]
 have e3:(orig T).getD i ("",0)=(zT T)[i].1:=by simp[orig,hi]
 rw[e1,e2]
 refine map_congr_left fun a _=>?_
 simp only[Function.comp,tr3,e3]
theorem plT_perm{T T':Tx}(h:T.Perm T'):(plT T).Perm (plT T'):=h.flatMap_right _
def lt2(x y:Str×Nat):Prop:=dor .lt (.str x.1) (.str y.1)=true\/x.1=y.1/\x.2<y.2
theorem orig_up{T:Tx}(nd:(T.map (·.1)).Nodup):(orig T).Pairwise lt2:=by
 unfold orig zT
 rw[List.map_flatMap]
 refine List.pairwise_flatMap.mpr ⟨fun q _=>?_,?_⟩
 . unfold zR
   rw[map_map,List.pairwise_map]
   have h:q.2.zipIdx.Pairwise fun a b=>a.2<b.2:=by
    have:(q.2.zipIdx.map (·.2)).Pairwise (· < ·):=by
     rw[List.zipIdx_map_snd, <-List.range_eq_range']
     exact List.pairwise_lt_range
    rwa [List.pairwise_map]at this
   exact h.imp fun h=>.inr ⟨rfl,h⟩
 . have h:=nmL_up nd
   unfold byN
   rw[List.pairwise_map]
   refine h.imp fun{x y} h a ha b hb=>.inl ?_
   obtain⟨z,hz,rfl⟩:=mem_map.mp ha
   obtain⟨z',hz',rfl⟩:=mem_map.mp hb
   rw[(zR_at hz).1,(zR_at hz').1]
   exact h
theorem str_as{x y:Str}(h:dor .lt (.str x) (.str y)=true):dor .lt (.str y) (.str x)=false/\x≠y:=by
 refine⟨?_,fun e=>?_⟩
 . cases q:dor .lt (.str y) (.str x)with
   |false=>rfl
   |true=>
    have:=lin_str.tr _ _ _ ⟨x,rfl⟩ ⟨y,rfl⟩ ⟨x,rfl⟩ h q
    rw[lin_str.ir _ ⟨x,rfl⟩]at this;cases this
 . rw[e,lin_str.ir _ ⟨y,rfl⟩]at h;cases h
theorem dor_tr(x y:Str×Nat)(a b:Nat)(h:lt2 x y):dor .lt (trD (x.1,x.2,a)) (trD (y.1,y.2,b))=true/\dor .lt (trD (y.1,y.2,b)) (trD (x.1,x.2,a))=false:=by
 unfold trD
 rcases h with h|⟨h1,h2⟩
 . obtain⟨h3,h4⟩:=str_as h
   have h3':Od.lt.str y.1 x.1=false:=by simpa[dor]using h3
   have h':Od.lt.str x.1 y.1=true:=by simpa[dor]using h
   simp[dor,dors,deq,h4,Ne.symm h4,h',h3']
 . have n1:¬(x.2:Int)=(y.2:Int):=by omega
   have n2:¬(y.2:Int)=(x.2:Int):=by omega
   have n3:¬(y.2<x.2):=by omega
   simp[dor,dors,deq,h1,n1,n2,Od.int,h2,n3]
theorem dor_pl(x y:Nat×Nat)(h:x.1<y.1):dor .lt (plD x) (plD y)=true/\dor .lt (plD y) (plD x)=false:=by
 have n1:¬(x.1:Int)=(y.1:Int):=by omega
 have n2:¬(y.1:Int)=(x.1:Int):=by omega
 have n3:¬(y.1<x.1):=by omega
 unfold plD
 simp[dor,dors,deq,n1,n2,Od.int,h,n3]
theorem tr3_order{T:Tx}(nd:(T.map (·.1)).Nodup){p q:Nat×Nat}(hp:p.1<(tog T).length)(hq:q.1<(tog T).length):dor .lt (trD (tr3 T p)) (trD (tr3 T q))=dor .lt (plD p) (plD q):=by
 have hl:(tog T).length=(orig T).length:=by simp[tog,orig]
 have up:=List.pairwise_iff_getElem.mp (orig_up nd)
 have hp':p.1<(orig T).length:=by omega
 have hq':q.1<(orig T).length:=by omega
 have ep:(orig T).getD p.1 ("",0)=(orig T)[p.1]:=by simp[hp']
 have eq:(orig T).getD q.1 ("",0)=(orig T)[q.1]:=by simp[hq']
 unfold tr3
 rw[ep,eq]
 rcases Nat.lt_trichotomy p.1 q.1 with h|h|h
 . rw[(dor_tr _ _ p.2 q.2 (up p.1 q.1 hp' hq' h)).1,(dor_pl p q h).1]
 . obtain⟨i,a⟩:=p
   obtain⟨j,b⟩:=q
   have h:i=j:=h
   subst h
   simp[trD,plD,dor,dors,deq]
 . rw[(dor_tr _ _ q.2 p.2 (up q.1 p.1 hq' hp' h)).2,(dor_pl q p h).2]
def endT(T:Tx)(t:Pl3):List Str:=((rwT T t.1).getD t.2.1 []).drop t.2.2
theorem endT_tr{T:Tx}(nd:(T.map (·.1)).Nodup){p:Nat×Nat}(hp:p.1<(tog T).length):endT T (tr3 T p)=endAt (tog T) p:=by
 have hz:p.1<(zT T).length:=by simpa[tog]using hp
 have e3:(orig T).getD p.1 ("",0)=(zT T)[p.1].1:=by simp[orig,hz]
 have e1:(tog T).getD p.1 []=(zT T)[p.1].2:=by simp[tog,hz]
 have:=zT_at nd (getElem_mem hz)
 unfold endT tr3 endAt
 rw[e3,e1]
 simp[this]
def ordT(T:Tx)(t:Pl3):D:=.tup [strsD (endT T t),trD t]
def isOrd3(d:D):Prop:=∃(ws:List Str) (t:Pl3),d=.tup [strsD ws,trD t]
theorem lin_ord3:Lin isOrd3:=(lin_tup (lin_pr2 (lin_lst lin_str) (lin_tup (lin_pr2 lin_str lin_int)))).sub fun d ⟨ws,p,e⟩=>by
 subst e
 exact⟨_,rfl,⟨_,rfl,lin_ord.fts_strs ws⟩,⟨_,rfl,⟨p.1,rfl⟩,⟨p.2.1,rfl⟩,⟨p.2.2,rfl⟩,trivial⟩,trivial⟩
theorem kind_ord3:KindOf isOrd3 (tuples' true):=.tup "list" (.inr (.inr rfl)) fun d ⟨ws,p,e⟩=>⟨strsD ws,[trD p],e,rfl,rfl⟩
def keyT(T:Tx):D->D
 |.tup [.str n,.int r,.int c]=>.tup [strsD (endT T (n,r.toNat,c.toNat)),.tup [.str n,.int r,.int c]]
 |_=>.non
theorem keyT_tr(T:Tx)(t:Pl3):keyT T (trD t)=ordT T t:=by simp[keyT,trD,ordT]
def endsT(T:Tx):List Pl3:=(endsL (tog T)).map (tr3 T)
theorem endsT_eq{T:Tx}(nd:(T.map (·.1)).Nodup):(endsT T).map trD=srt (keyT T) ((plT T).map trD):=by
 refine srt_one (P:=isOrd3) lin_ord3 (fun d hd=>?_) (fun a ha b hb e=>?_) ?_ ?_
 . obtain⟨t,_,rfl⟩:=mem_map.mp hd
   rw[keyT_tr]
   exact⟨_,t,rfl⟩
 . obtain⟨t,_,rfl⟩:=mem_map.mp ha
   obtain⟨u,_,rfl⟩:=mem_map.mp hb
   rw[keyT_tr,keyT_tr]at e
   unfold ordT at e
   injection e with e
   injection e with _ e
   injection e with e _
 . refine List.Perm.map _ ?_
   unfold endsT
   refine((endsL_perm (tog T)).map (tr3 T)).trans ?_
   rw[allP_T]
   exact plT_perm (byN_perm nd)
 . unfold endsT
   rw[List.pairwise_map,List.pairwise_map]
   have up:=(endsL_up (tog T))
   refine List.Pairwise.imp_of_mem (fun{x y} hx hy h=>?_) up
   have hx':=mem_allP (endsL_mem.mp hx)
   have hy':=mem_allP (endsL_mem.mp hy)
   rw[keyT_tr,keyT_tr]
   unfold ordT
   rw[endT_tr nd hx',endT_tr nd hy']
   have key:dor .lt (.tup [strsD (endAt (tog T) y),trD (tr3 T y)]) (.tup [strsD (endAt (tog T) x),trD (tr3 T x)])=dor .lt (ordD (tog T) y) (ordD (tog T) x):=by
    unfold ordD
    simp only[dor,dors]
    split
    . have l3:Lin (isTup (pr2 isStr isInt)):=lin_tup (lin_pr2 lin_str lin_int)
      have p3:∀t,isTup (pr2 isStr isInt) (trD t):=fun t=>⟨_,rfl,⟨t.1,rfl⟩,⟨t.2.1,rfl⟩,⟨t.2.2,rfl⟩,trivial⟩
      have l2:Lin (isTup fun _=>isInt):=lin_tup fun _=>lin_int
      have p2:∀t,isTup (fun _=>isInt) (plD t):=fun t=>⟨_,rfl,⟨t.1,rfl⟩,⟨t.2,rfl⟩,trivial⟩
      have e1:=tr3_order nd hy' hx'
      have e2:=tr3_order nd hx' hy'
      have hd:deq (trD (tr3 T y)) (trD (tr3 T x))=deq (plD y) (plD x):=by
       by_cases z:y=x
       . subst z;rw[deq_refl,deq_refl]
       . have n1:plD y≠plD x:=fun w=>z (plD_inj w)
         have n2:trD (tr3 T y)≠trD (tr3 T x):=fun w=>by
          rw[w,l3.ir _ (p3 _)]at e1
          rw[w,l3.ir _ (p3 _)]at e2
          exact n1 (l2.tt _ _ (p2 y) (p2 x) e1.symm e2.symm)
         have q1:deq (trD (tr3 T y)) (trD (tr3 T x))=false:=by
          cases q:deq (trD (tr3 T y)) (trD (tr3 T x))with
          |false=>rfl
          |true=>exact absurd (l3.eq _ _ (p3 _) (p3 _) q) n2
         have q2:deq (plD y) (plD x)=false:=by
          cases q:deq (plD y) (plD x)with
          |false=>rfl
          |true=>exact absurd (l2.eq _ _ (p2 _) (p2 _) q) n1
         rw[q1,q2]
      rw[hd]
      split
      . rfl
      . have:=tr3_order nd hy' hx'
        simpa[dor]using this
    . rfl
   rw[key]
   have as:ltE (tog T) y x=false:=by
    cases q:ltE (tog T) y x with
    |false=>rfl
    |true=>
     have t:=lin_ord.tr _ _ _ ⟨_,x,rfl⟩ ⟨_,y,rfl⟩ ⟨_,x,rfl⟩ (show dor .lt (ordD (tog T) x) (ordD (tog T) y)=true from h) q
     rw[lin_ord.ir _ ⟨_,x,rfl⟩]at t;cases t
   exact as
section
variable{X:Cx}{ρ:List (Option D)}{m m1 m2:Bool}{a b:Expr}{ds es:List D}{d:D}{p pos:Pos}
theorem op_catU:OpR X (binaryOp .Add) (fun x y H Q=>∃l b xs zs,x=.ref l/\y=.ref b/\SqT X.K H l xs/\SqT X.K H b zs/\xs≠[]/\zs≠[]/\xs.length+zs.length<=sizeLine/\ ∀p,H p=none->Q (.ref p) (upd H p (.tup (xs++zs)))):=by
 intro pins s σ H x y v u Q I rx ry h
 obtain⟨l,b,xs,zs,rfl,rfl,hH,hB,n1,n2,hz,q⟩:=h
 cases rx
 cases ry
 obtain⟨its,r,⟨⟨c1,d1,a1,s1⟩,e1,hc1,n1',hd1⟩,z1⟩:=I.tuple hH
 obtain⟨its2,r2,⟨⟨c2,d2,a2,s2⟩,e2,hc2,n2',hd2⟩,z2⟩:=I.tuple hB
 dsimp only at hc1 hd1 hc2 hd2
 subst hc1 hd1 hc2 hd2
 have h1:=r.length
 have h2:=r2.length
 have ne1:its≠[]:=fun z=>n1 (List.eq_nil_of_length_eq_zero (by rw[h1,z];rfl))
 have ne2:its2≠[]:=fun z=>n2 (List.eq_nil_of_length_eq_zero (by rw[h2,z];rfl))
 refine concat_meets ⟨_,e1,rfl⟩ ⟨_,e2,rfl⟩ noFill_tuple_add seq_tuple_add F.slot_tuple_add F.entry_tuple_add (F.args_tuple_add_2 _ _) (tuple_addW2 l b its.toArray its2.toArray n1' n2' d1 d2 s1 s2 (by simpa using ne1) (by simpa using ne2) (by rw[size_toArray,size_toArray];omega)) ⟨e1,e2,?_⟩
 have ea:its.toArray++its2.toArray=(its++its2).toArray:=by simp
 rw[ea]
 exact⟨.ref _,_,I.laid (o:=.tup (xs++zs)) (t':=s.toks) (fun _ _ q=>get?_push_of_some _ q) (Nat.le_refl _) ⟨by rw[List.length_append];omega,_,r.append r2,⟨_,get?_push_size _ rfl,rfl,_,rfl⟩⟩,rfl,q _ I.fresh⟩
theorem e_catT(ha:E X m1 ρ a (.tup ds))(hb:E X m2 ρ b (.tup es))(n1:ds≠[])(n2:es≠[])(hz:ds.length+es.length<=1000)(hf:m=true->flats ds=true/\flats es=true:=by intro h;first|cases h|exact⟨rfl,rfl⟩):E X m ρ (.BinOp a .Add b pos) (.tup (ds++es)):=
 PE.mono (pe_op op_catU ha hb) fun σ H Q z0=>el13 z0 fun Z oz en k=>⟨Z,oz,en,fun x H1 s1 i1=>⟨Z,oz.same s1,en.same s1,fun y H2 s2 i2=>by
  have s:=s1.trans s2
  obtain⟨p,xs,rfl,lq,j⟩:=in_tup.mp (In.same s2 (i1.plain oz))
  obtain⟨p',ys,rfl,lq',j'⟩:=in_tup.mp (i2.plain (oz.same s1))
  have l1:=j.length
  have l2:=j'.length
  refine⟨p,p',xs,ys,rfl,rfl,.inl (.inl lq),.inl (.inl lq'),fun z=>n1 (List.eq_nil_of_length_eq_zero (by rw[l1,z];rfl)),fun z=>n2 (List.eq_nil_of_length_eq_zero (by rw[l2,z];rfl)),Nat.le_trans (by omega) (Nat.le_of_lt (small1000 (Nat.le_refl _))),fun q hq=>k (.ref q) _ (s.trans (same_new hq)) ?_⟩
  have i0:In X.K (upd H2 q (.tup (xs++ys))) Z (.tup (ds++es)) (.ref q):=in_tup.mpr ⟨q,_,rfl,upd_same,(j.append j').same (same_new hq)⟩
  cases m
  . exact i0
  . refine In.flat' (flats_all fun d hd=>?_) i0
    rcases mem_append.mp hd with hd|hd
    . exact flats_mem (hf rfl).1 d hd
    . exact flats_mem (hf rfl).2 d hd⟩⟩
theorem e_slT{lo hi:Option Expr}{l u:Option Int}{p2:Pos}(ha:E X m1 ρ a (.tup ds))(hl:EO X ρ lo l)(hu:EO X ρ hi u)(fl:flats ds=true)(hw:(cut ds l u).length≠ds.length):E X m ρ (.Subscript a (.Slice lo hi none p2) pos) (.tup (cut ds l u)):=
 PE.mono (pe_slice sl_tup ha hl hu) fun σ H Q z0=>el13 z0 fun Z oz en k=>⟨Z,oz,en,fun x H1 s1 i1=>⟨Z,oz.same s1,en.same s1,fun H2 s2=>⟨Z,oz.same (s1.trans s2),en.same (s1.trans s2),fun H3 s3=>by
  have s:=(s1.trans s2).trans s3
  have i3:In X.K H3 (out m1 Z H) (.tup ds) x:=In.same (s2.trans s3) i1
  obtain⟨p,xs,rfl,lq,j⟩:=in_tup.mp i3
  have jc:=j.cut l u
  have e1:=j.length
  have e2:=jc.length
  refine⟨p,xs,rfl,.inl (.inl lq),fun z=>hw ?_,fun q hq=>k (.ref q) _ (s.trans (same_new hq)) ?_⟩
  . unfold Y.cut
    rw[e1,z.1,z.2,List.drop_zero,Nat.sub_zero,List.take_of_length_le (by omega)]
    exact e1
  . refine In.flat' (Z:=out m1 Z H) ?_ (in_tup.mpr ⟨q,_,rfl,upd_same,jc.same (same_new hq)⟩)
    refine flats_all fun d hd=>flats_mem fl d ?_
    unfold Y.cut at hd
    exact List.mem_of_mem_drop (List.mem_of_mem_take hd)⟩⟩⟩
end
structure ClsOk(K:PySem.W.Frag)(mg:Str->Option Value)(c:Str)(C:Addr)(fs:List Str):Prop where
 cl:Cls K C
 no:∀f∈fs,NoAttr K C f
 mg:mg c=some (.ref C)
theorem Def.alias{P:Program}{w:World}{K:PySem.W.Frag}{mg:Str->Option Value}{base:Heap}{k:Nat}{x y:Str}{m:Bool}{G:List D->D->Prop}{f:Addr}(h:Def P w K mg base k x m G)(e:mg y=some (.ref f))(e':mg x=some (.ref f)):Def P w K mg base k y m G:=by
 obtain⟨f',fd,ps,a,b,c,d⟩:=h.ex
 rw[e']at b
 cases b
 exact⟨f,fd,ps,a,e,c,d⟩
abbrev bkF:List Str:=["texts","origins","together","order"]
def orA(T:Tx):AS:=.l ((orig T).map oriD)
def tgA(T:Tx):AS:=.l ((tog T).map strsD)
def odrA(T:Tx):AS:=.l ((endsL (tog T)).map plD)
def fsB(T:Tx):Obf:=[("texts",txA T),("origins",orA T),("together",tgA T),("order",odrA T)]
structure OkT(T:Tx):Prop where
 nd:(T.map (·.1)).Nodup
 few:T.length<64
 tot:tot (tog T)<64
 rows:(tog T).length<500
theorem flats_map{α:Type}{f:α->D}(h:∀a,(f a).flat=true)(l:List α):flats (l.map f)=true:=flats_all fun d hd=>by
 obtain⟨a,_,rfl⟩:=mem_map.mp hd
 exact h a
def gNames(C:Addr)(ds:List D)(d:D):Prop:=∃(fs:Obf) (T:Tx),fs.lookup ("texts":Str)=some (txA T)/\T.length<64/\ds=[obD C fs]/\d=strsD (nmL T)
def gWant(C:Addr)(ds:List D)(d:D):Prop:=∃(T:Tx) (n:Str),n∈T.map (·.1)/\ds=[obD C (fsB T),.str n]/\d=.non
def gRowsM(C:Addr)(ds:List D)(d:D):Prop:=∃(T:Tx) (n:Str),OkT T/\n∈T.map (·.1)/\(rwT T n).length<500/\ds=[obD C (fsB T),.str n]/\d=rowsD (rwT T n)
def toD(t:Nat×List Int):D:=.tup (.int (t.1:Nat)::t.2.map D.int)
def inB(T:Tx)(t:Nat×List Int):D:=.tup ([.str ((orig T).getD t.1 ("",0)).1,.int ((((orig T).getD t.1 ("",0)).2:Nat):Int)]++t.2.map D.int)
def gInBook(C:Addr)(ds:List D)(d:D):Prop:=∃(T:Tx) (ts:List (Nat×List Int)),(∀t∈ts,t.1<(orig T).length/\t.2≠[]/\t.2.length<=2)/\ts.length<=5000/\ds=[obD C (fsB T),.lst (ts.map toD)]/\d=.lst (ts.map (inB T))
def gEndsM(C:Addr)(ds:List D)(d:D):Prop:=∃T:Tx,OkT T/\ds=[obD C (fsB T)]/\d=.lst ((endsT T).map trD)
def numsT(T:Tx)(n:Str):List Int:=((endsT T).zipIdx.filter fun z=>decide (z.1.1=n)).map fun z=>((z.2:Nat):Int)
def gNumsM(C:Addr)(ds:List D)(d:D):Prop:=∃(T:Tx) (n:Str),OkT T/\ds=[obD C (fsB T),.str n]/\d=.lst ((numsT T n).map D.int)
def gArr(fs:Obf)(ds:List D)(fs':Obf)(d:D):Prop:=∃T:Tx,OkT T/\(fs=([("texts",txA T)]:Obf)\/ ∃a b c,fs=([("texts",txA T),("origins",a),("together",b),("order",c)]:Obf))/\ds=[]/\fs'=fsB T/\d=.non
def gInit(fs:Obf)(ds:List D)(fs':Obf)(d:D):Prop:=fs=[]/\ds=[]/\fs'=fsB []/\d=.non
def gPut(fs:Obf)(ds:List D)(fs':Obf)(d:D):Prop:=∃(T:Tx) (n z:Str),n∉T.map (·.1)/\OkT (T++[(n,rowsOfS z)])/\z.length<=2000/\asciiS z/\fs=fsB T/\ds=[.str n,.str z]/\fs'=fsB (T++[(n,rowsOfS z)])/\d=.lst ((numsT (T++[(n,rowsOfS z)]) n).map D.int)
def outT'(T:Tx)(n:Str):Tx:=T.filter fun q=>decide (q.1≠n)
def gTake(fs:Obf)(ds:List D)(fs':Obf)(d:D):Prop:=∃(T:Tx) (n:Str),n∈T.map (·.1)/\OkT T/\OkT (outT' T n)/\fs=fsB T/\ds=[.str n]/\fs'=fsB (outT' T n)/\d=.lst ((numsT T n).map D.int)
theorem outK_txK(T:Tx)(n:Str):outK (.inr n) (txK T)=txK (outT' T n):=by
 unfold outK txK outT'
 rw[filter_map]
 congr 1
 refine List.filter_congr fun q _=>?_
 simp
theorem txK_keys(T:Tx):(txK T).map (·.1)=(T.map (·.1)).map Sum.inr:=by
 unfold txK
 rw[map_map,map_map]
 rfl
theorem txA_put(T:Tx)(n:Str)(r:List (List Str)):txA (T++[(n,r)])=.k ((txK T).map (·.1)++[.inr n]) ((txK T).map (·.2)++[rowsD r]):=by
 unfold txA txK
 simp
theorem key_in{T:Tx}{n:Str}(h:n∈T.map (·.1)):(.inr n:Key)∈(txK T).map (·.1):=by
 rw[txK_keys]
 exact mem_map.mpr ⟨n,h,rfl⟩
theorem key_notin{T:Tx}{n:Str}(h:n∉T.map (·.1)):(.inr n:Key)∉(txK T).map (·.1):=by
 rw[txK_keys]
 intro z
 obtain⟨m,hm,e⟩:=mem_map.mp z
 cases e
 exact h hm
theorem key_at{T:Tx}(nd:(T.map (·.1)).Nodup){n:Str}(h:n∈T.map (·.1)):∃j,(Sh.k ((txK T).map (·.1))).key (.str n) (some j)/\((txK T).map (·.2))[j]? =some (rowsD (rwT T n)):=by
 cases q:((txK T).map (·.1)).findIdx? (· =(.inr n:Key))with
 |none=>
  have:=List.findIdx?_eq_none_iff.mp q _ (key_in h)
  simp at this
 |some j=>
  obtain⟨h1,h2,_⟩:=List.findIdx?_eq_some_iff_getElem.mp q
  have hj:j<T.length:=by simpa[txK]using h1
  refine⟨j,⟨.inr n,rfl,q.symm⟩,?_⟩
  have e:T[j].1=n:=by
   have:=of_decide_eq_true h2
   simpa[txK]using this
  have e2:=rwT_mem nd (getElem_mem hj)
  rw[e]at e2
  simp[txK,hj,e2]
theorem key_none{T:Tx}{n:Str}(h:n∉T.map (·.1)):(Sh.k ((txK T).map (·.1))).key (.str n) none:=by
 refine⟨.inr n,rfl,(List.findIdx?_eq_none_iff.mpr fun x hx=>?_).symm⟩
 simp
 exact fun z=>key_notin h (z▸hx)
theorem look_d{f:Str}:∀{fs:Obf} {s:AS},fs.lookup f=some s->((fs.map (·.1)).zip (fs.map (·.2.d))).lookup f=some s.d
 |[],_,h=>by cases h
 |(g,t)::fs,s,h=>by
  rw[lookup_cons]at h
  rw[map_cons,map_cons,List.zip_cons_cons,lookup_cons]
  cases q:f==g with
  |true=>rw[q]at h;cases h;rfl
  |false=>rw[q]at h;exact look_d h
theorem look_n{f:Str}:∀{fs:Obf},fs.lookup f=none->((fs.map (·.1)).zip (fs.map (·.2.d))).lookup f=none
 |[],_=>rfl
 |(g,t)::fs,h=>by
  rw[lookup_cons]at h
  rw[map_cons,map_cons,List.zip_cons_cons,lookup_cons]
  cases q:f==g with
  |true=>rw[q]at h;cases h
  |false=>rw[q]at h;exact look_n h
theorem strD_room{k:Nat}{A:Around}{x:Str}(r:Room k A):A.units+2+(kD (.inr x)).dep<cLine:=by
 have h:=r.un
 have e:(kD (.inr x)).dep=0:=rfl
 omega
theorem trD_room{k:Nat}{A:Around}{Tt:Tx}{t:Pl3}(r:Room k A):A.units+2+(ordT Tt t).dep<cLine:=by
 have h:=r.un
 have e:(ordT Tt t).dep=2:=by simp[ordT,strsD,trD,D.dep,deps,deps_strs]
 omega
theorem nums_range(T:Tx)(n:Str):numsT T n=((List.range (endsT T).length).filter fun i=>decide (((endsT T).getD i ("",0,0)).1=n)).map fun i=>((i:Nat):Int):=by
 unfold numsT
 have e:(endsT T).zipIdx=(List.range (endsT T).length).map fun i=>((endsT T).getD i ("",0,0),i):=by
  apply List.ext_getElem (by simp)
  intro i h1 h2
  simp at h1
  simp[h1]
 rw[e,filter_map,map_map]
 rfl
theorem key_has{T:Tx}{n:Str}(h:n∈T.map (·.1)):∃j,(Sh.k ((txK T).map (·.1))).key (.str n) (some j):=by
 cases q:((txK T).map (·.1)).findIdx? (· =(.inr n:Key))with
 |none=>
  have:=List.findIdx?_eq_none_iff.mp q _ (key_in h)
  simp at this
 |some j=>exact⟨j,.inr n,rfl,q.symm⟩
theorem endsL_orig{T:Tx}{p:Nat×Nat}(h:p∈endsL (tog T)):p.1<(orig T).length:=by
 have:=mem_allP (endsL_mem.mp h)
 simpa[tog,orig]using this
theorem cut_one{α:Type}(a:α)(l:List α):cut (a::l) (some 1) none=l:=by
 have e:=cut_from (α:=α) (a::l) 1
 simpa using e
def StZ(K:PySem.W.Frag)(F:Fn)(ρ:Rho)(σ:St)(H:Hp)(A:Nat->List Addr):Prop:=∃hv hρ,σ.length=ρ.length/\StIn K F H (σ++hv) (ρ++hρ) A
def tEZ(K:PySem.W.Frag)(F:Fn)(ρ:Rho)(d:D):TE:=fun σ H Q=>∃A,StZ K F ρ σ H A/\ ∀v H1,Same H H1->In K H1 (zn F (Owned A) false) d v->Q v H1
def tIZ(K:PySem.W.Frag)(F:Fn)(ρ:Rho)(ds:List D):TI:=fun σ H R=>∃A,StZ K F ρ σ H A/\ ∀J H1 vs srcs,Same H H1->Ins K H1 (zn F (Owned A) false) srcs vs->Yields K J vs srcs ds->R J H1
section
variable{X:Cx}{F:Fn}{ρ:Rho}{Q:EndD}{rest body:List Stmt}{e key a:Expr}{es:List Expr}{pos p sp pt:Pos}{ds:List D}{m1:Bool}{C:Addr}{fs:Obf}{f:Str}{o:Option Addr}{kt:Nat}
theorem sd_forZ{tg iter:Expr}{g:TG}(G:D->Rho->Rho)(P:Nat->Rho->Prop)(hi:PI X tg iter (tIZ X.K F ρ ds))(h0:P 0 ρ)(hg:PG X tg g)
 (hG:∀n d r (hv:St) (hρ:Rho) (σ:St) (H H1:Hp) (A:Nat->List Addr) (v:V) (Q:St->Hp->Prop),ds[n]? =some d->P n r->σ.length=r.length->StIn X.K F H (σ++hv) (r++hρ) A->Same H H1->In X.K H1 (zn F (Owned A) false) d v->
  (∀σ' H',StOk X.K F hv hρ (fun r'=>r'=G d r) σ' H'->Q σ' H')->g v σ H1 Q)
 (hb:∀n d r,ds[n]? =some d->P n r->SD X F body (G d r) {Q with nx:=P (n+1),ct:=P (n+1),bk:=fun r=>SD X F rest r Q})(hd:∀r,P ds.length r->SD X F rest r Q)
 (hc:X.calm=true:=by rfl)(hs:∀x,foldedSetIterable iter X.env x=pure x:=by intro _;rfl)(hp:PassesOwn (model X.prog X.w) X.A X.env X.xe:=by exact PassesOwn.never):SD X F (.For tg iter body [] pos::rest) ρ Q:=by
 refine sd_seq (N:=fun r=>SD X F rest r Q) ?_ fun _ h=>h
 refine PS.mono (ps_for (g:=g) (tb:=fun Q' σ H=>∃n d r,ds[n]? =some d/\P n r/\tS X.K F (G d r) {Q with nx:=P (n+1),ct:=P (n+1),bk:=fun r=>SD X F rest r Q} Q' σ H) hp hc hi hg
  (fun pins s σ H Q' I ⟨n,d,r,e,pr,q⟩=>hb n d r e pr pins s σ H Q' I q) hs) fun Q' σ H z0=>el33 z0 fun hv hρ A hl S f=>?_
 refine⟨A,⟨hv,hρ,hl,S⟩,fun J H1 vs srcs s1 iz Y=>?_⟩
 have hsv:=iz.length
 refine⟨fun n m σ H=>m=ds.length-n/\n<=ds.length/\ ∃r A,P n r/\σ.length=r.length/\StIn X.K F H (σ++(hv++vs.map some)) (r++(hρ++hid false srcs)) A,⟨_,rfl,Nat.zero_le _,ρ,A,h0,hl,(S.grow s1).hide hl f.hl iz⟩,?_⟩
 rintro n m σ1 H2 ⟨rfl,hn,r,A1,pr,hl1,S1⟩
 have iz1:=S1.srcs hl1 f.hl hsv
 by_cases hlt:n<ds.length
 . have hdn:ds[n]? =some ds[n]:=by simp[hlt]
   obtain⟨go,yl⟩:=Y.go _ H2 (zn_open S1 false) iz1 n ds[n] hdn
   refine .inr ⟨go,StOk X.K F (hv++vs.map some) (hρ++hid false srcs) (P (n+1)),fun σ' H' ⟨r',A',hl',S',p'⟩=>⟨ds.length-(n+1),by omega,rfl,hlt,r',A',p',hl',S'⟩,fun y H3 hy=>?_⟩
   obtain⟨s3,iy⟩:=yl y H3 hy
   refine hG n ds[n] r _ _ σ1 H2 H3 A1 y _ hdn pr hl1 S1 s3 iy fun σ4 H4 ⟨r4,A4,hl4,S4,e4⟩=>?_
   subst e4
   refine⟨n,ds[n],r,hdn,pr,_,_,A4,hl4,S4,⟨by simp[hid,f.hl,hsv],fun _ _ h=>h,fun σ5 H5 ⟨r5,A5,hl5,S5,q5⟩=>f.nx σ5 H5 ⟨r5,A5,hl5,S5.unhide hl5 f.hl,q5⟩,fun _ _ h=>h,f.rt,f.rtT,fun σ6 H6 r6 A6 v6 d6 as6 hl6 S6=>f.rtM σ6 H6 r6 A6 v6 d6 as6 hl6 (S6.unhide hl6 f.hl),fun σ6 H6 r6 A6 v6 hl6 S6=>f.rtS σ6 H6 r6 A6 v6 hl6 (S6.unhide hl6 f.hl)⟩⟩
 . have e:n=ds.length:=by omega
   subst e
   exact .inl ⟨Y.stop _ H2 (zn_open S1 false) iz1,f.nx _ _ ⟨r,A1,hl1,S1.unhide hl1 f.hl,hd r pr⟩⟩
theorem PI.newZ{tg iter:Expr}(h:IT X tg true (view true false ρ) iter ds):PI X tg iter (tIZ X.K F ρ ds):=PI.mono h fun σ H R ⟨A,⟨hv,hρ,hl,S⟩,k⟩=>⟨_,vz_open S true false,S.env hl true false,fun J H1 vs srcs s1 i1 Y=>k J H1 vs srcs s1 (i1.up (zn_open S false)) Y⟩
theorem PI.plZ{tg iter:Expr}{mi:Bool}(h:IT X tg mi (view false false ρ) iter ds):PI X tg iter (tIZ X.K F ρ ds):=PI.mono h fun σ H R ⟨A,⟨hv,hρ,hl,S⟩,k⟩=>⟨_,vz_open S false false,S.env hl false false,fun J H1 vs srcs s1 i1 Y=>k J H1 vs srcs s1 (by
 cases mi
 . exact i1
 . exact i1.up (zn_open S false)) Y⟩
theorem sd_forFz(k:Nat){x:Str}{px:Pos}{iter:Expr}{mi:Bool}(P:Nat->Rho->Prop)(hi:IT X (.Name x px) mi (view false false ρ) iter ds)(fl:∀d∈ds,d.flat=true)(h0:P 0 ρ)(hlen:∀n r,P n r->k<r.length)
 (hb:∀(n:Nat) d r,ds[n]? =some d->P n r->SD X F body (r.set k (some (.pl true d))) {Q with nx:=P (n+1),ct:=P (n+1),bk:=fun r=>SD X F rest r Q})(hd:∀r,P ds.length r->SD X F rest r Q)
 (hN:X.N.Nodup)(hx:X.N[k]? =some x:=by rfl)(hxl:Loc X.env.scope x:=by first|exact Or.inl rfl|exact Or.inr rfl)(hf:X.fn x=true\/X.env.scope.names.lookup x=some .local:=by first|exact .inl rfl|exact .inr rfl)(hc:X.calm=true:=by rfl)
 (hs:∀x,foldedSetIterable iter X.env x=pure x:=by intro _;rfl)(hp:PassesOwn (model X.prog X.w) X.A X.env X.xe:=by exact PassesOwn.never):SD X F (.For (.Name x px) iter body [] pos::rest) ρ Q:=
 sd_forZ (fun d r=>r.set k (some (.pl true d))) P (PI.plZ hi) h0 (pg_name hN hx hxl hf) (fun n d r hv hρ σ H H1 A v q e pr hl S s i h=>h _ _ (put_pl hl S (hlen n r pr) s (i.flat' (fl d (mem_of_getElem? e))))) hb hd hc hs hp
theorem sd_for1Z(k:Nat){x:Str}{px:Pos}{iter:Expr}(P:Nat->Rho->Prop)(hi:PI X (.Name x px) iter (tIZ X.K F ρ ds))(h0:P 0 ρ)(hlen:∀n r,P n r->k<r.length)
 (hb:∀n d r,ds[n]? =some d->P n r->SD X F body (r.set k (some (.pl false d))) {Q with nx:=P (n+1),ct:=P (n+1),bk:=fun r=>SD X F rest r Q})(hd:∀r,P ds.length r->SD X F rest r Q)
 (hN:X.N.Nodup)(hx:X.N[k]? =some x:=by rfl)(hxl:Loc X.env.scope x:=by first|exact Or.inl rfl|exact Or.inr rfl)(hf:X.fn x=true\/X.env.scope.names.lookup x=some .local:=by first|exact .inl rfl|exact .inr rfl)(hc:X.calm=true:=by rfl)
 (hs:∀x,foldedSetIterable iter X.env x=pure x:=by intro _;rfl)(hp:PassesOwn (model X.prog X.w) X.A X.env X.xe:=by exact PassesOwn.never):SD X F (.For (.Name x px) iter body [] pos::rest) ρ Q:=
 sd_forZ (fun d r=>r.set k (some (.pl false d))) P hi h0 (pg_name hN hx hxl hf) (fun n d r hv hρ σ H H1 A v q e pr hl S s i h=>h _ _ (put_pl hl S (hlen n r pr) s i)) hb hd hc hs hp
theorem sd_for2Z(k l:Nat){x y:Str}{px py:Pos}{iter:Expr}(P:Nat->Rho->Prop)(hi:PI X (.Tuple [.Name x px,.Name y py] kt pt) iter (tIZ X.K F ρ ds))(h0:P 0 ρ)(hlen:∀n r,P n r->k<r.length/\l<r.length)(hpair:∀d∈ds,∃d1 d2,d=.tup [d1,d2])
 (hb:∀n d1 d2 r,ds[n]? =some (.tup [d1,d2])->P n r->SD X F body ((r.set k (some (.pl false d1))).set l (some (.pl false d2))) {Q with nx:=P (n+1),ct:=P (n+1),bk:=fun r=>SD X F rest r Q})(hd:∀r,P ds.length r->SD X F rest r Q)
 (hN:X.N.Nodup)(hx:X.N[k]? =some x:=by rfl)(hy:X.N[l]? =some y:=by rfl)(hxl:Loc X.env.scope x:=by first|exact Or.inl rfl|exact Or.inr rfl)(hyl:Loc X.env.scope y:=by first|exact Or.inl rfl|exact Or.inr rfl)
 (hf:X.fn x=true\/X.env.scope.names.lookup x=some .local:=by first|exact .inl rfl|exact .inr rfl)(hf':X.fn y=true\/X.env.scope.names.lookup y=some .local:=by first|exact .inl rfl|exact .inr rfl)(hc:X.calm=true:=by rfl)
 (hs:∀x,foldedSetIterable iter X.env x=pure x:=by intro _;rfl)(hp:PassesOwn (model X.prog X.w) X.A X.env X.xe:=by exact PassesOwn.never)
 (hes:(assignEach [.Name x px,.Name y py] X.env).map (·.2)=[assign (.Name x px) X.env,assign (.Name y py) X.env]:=by rfl)(hes2:(assignEach [.Name y py] X.env).map (·.2)=[assign (.Name y py) X.env]:=by rfl)
 (hen:(assignEach [.Name x px,.Name y py] X.env).length=2:=by rfl)(hst:(assignEach [.Name x px,.Name y py] X.env).findIdx? (·.1)=none:=by rfl):SD X F (.For (.Tuple [.Name x px,.Name y py] kt pt) iter body [] pos::rest) ρ Q:=by
 refine sd_forZ (g:=gTup X.K 2 (gCons (gName k) (gCons (gName l) gNil))) (fun d r=>match d with|.tup [d1,d2]=>(r.set k (some (.pl false d1))).set l (some (.pl false d2))|_=>r) P hi h0
  (pg_tup hc (pgs_cons (pg_name hN hx hxl hf) (pgs_cons (pg_name hN hy hyl hf') pgs_nil (by rw[hes2];rfl)) (by rw[hes,hes2])) hen hst) (fun n d r hv hρ σ H H1 A v q e pr hl S s i h=>?_) (fun n d r e pr=>?_) hd hc hs hp
 . obtain⟨d1,d2,rfl⟩:=hpair d (mem_of_getElem? e)
   obtain⟨a,xs,rfl,t,j⟩:=in_tupS i
   obtain⟨v1,r1,rfl,i1,j1⟩:=ins_cons.mp j
   obtain⟨v2,r2,rfl,i2,j2⟩:=ins_cons.mp j1
   cases ins_nil.mp j2
   refine⟨a,_,rfl,t,rfl,v1,_,rfl,v2,_,rfl,rfl,?_⟩
   exact h _ _ (put_pl (by simp[hl]) (put_plA (fr:=false) hl S (hlen n r pr).1 s i1) (by simpa using(hlen n r pr).2) (Same.refl _) (i2.carry zn_drop))
 . obtain⟨d1,d2,rfl⟩:=hpair d (mem_of_getElem? e)
   exact hb n d1 d2 r e pr
theorem ez_sub(i:Nat){x:Str}{fp:Pos}{ks:List Key}{ds:List D}{dk d:D}{j:Nat}(hc:Cls X.K C)(hn:NoAttr X.K C f)(h:ρ[i]? =some (some (.gen (obS o C fs))))(hf:fs.lookup f=some (.k ks ds))(hk:E X m1 (view true false ρ) key dk)(hj:(Sh.k ks).key dk (some j))(hd':ds[j]? =some d)(ng:d.nag=true)(hu:X.A.units+1<cLine)
 (hN:X.N[i]? =some x:=by rfl)(hv:Vis X.env.scope x:=by first|exact Or.inl rfl|exact Or.inr (Or.inl rfl)|exact Or.inr (Or.inr rfl))(hd:(x==("__debug__":Str))=false:=by decide)(hcd:(x==("__classdict__":Str))=false:=by decide)
 (hb0:attributeBase (.Name x p) f X.env (eval (.Name x p) X.env)=eval (.Name x p) X.env:=by rfl)(hs:NoSl key:=by intro _ _;rfl):PE X (.Subscript (.Attribute (.Name x p) f fp) key sp) (tEZ X.K F ρ d):=
 PE.mono (pe_dget hu (pe_fld (pe_var hN hv hd hcd) hb0) hk hs) fun σ H Q ⟨A,⟨hv,hρ,hl,S⟩,kq⟩=>by
  obtain⟨b,dx,ps,e0,rfl,e1,e2,e3,e4⟩:=S.ob hl h
  obtain⟨a,h1,h2,_⟩:=ps_look hf
  obtain⟨xs,ha,jj⟩:=e4 _ h1
  refine⟨.ref b,e1,b,C,dx,_,.ref a,rfl,e3,hc,hn,h2,_,vz_open S true false,S.env hl true false,fun y H1 s1 i1=>?_⟩
  obtain⟨kk,rfl,hidx⟩:=hj
  obtain⟨v2,w1,w2⟩:=(jj.same s1).get hd'
  have hval:valV (ks.zip xs) kk=some v2:=by rw[valV_zip ks xs kk ha.1, <-hidx];exact w1
  refine⟨a,v2,rfl,?_,kq v2 H1 s1 (w2.inn ng)⟩
  rw[in_kD (i1.plain (vz_open S true false)), <-hval]
  exact .k (s1.at ha.2)
theorem iz_enum{p:Pos}(h:PE X a (tEZ X.K F ρ (.lst ds)))(hm:X.mg "enumerate"=none)(hg:Gl X "enumerate":=by rfl)(hs:starEach [a] X.env=[(false,eval a X.env)]:=by rfl):PI X (.Tuple es kt pt) (.Call (.Name "enumerate" p) [a] [] pos) (tIZ X.K F ρ (enumD ds)):=
 PI.mono (pi_enum hg hm (pa_cons h pa_nil (by rw[hs];rfl)) hs) fun σ H R ⟨A,St,k⟩=>⟨A,St,fun v H1 s1 i1=>by
  obtain⟨l,xs,rfl,at',j⟩:=in_lst.mp i1
  refine⟨l,rfl,⟨xs,at'.sq⟩,k _ H1 [.ref l] [.lst ds] s1 (Ins.one i1) ⟨fun Z2 H2 o2 j2 i d e=>?_,fun Z2 H2 o2 j2=>?_⟩⟩
  . obtain⟨d',e',rfl⟩:=enumD_get e
    obtain⟨w,r,e1,j3,j4⟩:=ins_cons.mp j2
    cases e1
    obtain⟨a',ys,e2,l2,j5⟩:=in_lst.mp j3
    cases e2
    obtain⟨v,e3,iv⟩:=j5.get e'
    refine⟨⟨ys,v,l2.sq,e3⟩,fun x H3 ⟨q,y,hq,ex,hy,eH⟩=>?_⟩
    subst ex eH
    have:=hy ys l2.sq
    rw[e3]at this
    cases this
    exact⟨same_new hq,in_tup.mpr ⟨q,_,rfl,upd_same,ins_cons.mpr ⟨_,_,rfl,in_int.mpr rfl,Ins.one (iv.same (same_new hq))⟩⟩⟩
  . obtain⟨w,r,e1,j3,j4⟩:=ins_cons.mp j2
    cases e1
    obtain⟨a',ys,e2,l2,j5⟩:=in_lst.mp j3
    cases e2
    exact⟨ys,l2.sq,by rw[enumD_len];exact Nat.le_of_eq j5.length.symm⟩⟩
end
def fsL(T:Tx)(R:Obf)(zs:List ((Str×Nat)×List Str)):Obf:=("texts",txA T)::("origins",.l ((zs.map (·.1)).map oriD))::("together",.l ((zs.map (·.2)).map strsD))::R
def zPre(T:Tx)(n m:Nat):List ((Str×Nat)×List Str):=((byN T).take n).flatMap zR++(((byN T)[n]?.map zR).getD []).take m
theorem zPre_zero(T:Tx)(n:Nat):zPre T n 0=((byN T).take n).flatMap zR:=by simp[zPre]
theorem zR_len(q:Str×List (List Str)):(zR q).length=q.2.length:=by simp[zR]
theorem zPre_next{T:Tx}{n:Nat}{q:Str×List (List Str)}(h:(byN T)[n]? =some q):zPre T n q.2.length=zPre T (n+1) 0:=by
 unfold zPre
 rw[h,take_add_one,h]
 simp[List.take_of_length_le,zR_len]
theorem zPre_succ{T:Tx}{n m:Nat}{q:Str×List (List Str)}{row:List Str}(h:(byN T)[n]? =some q)(hm:q.2[m]? =some row):zPre T n (m+1)=zPre T n m++[((q.1,m),row)]:=by
 unfold zPre
 rw[h]
 have e:(zR q)[m]? =some ((q.1,m),row):=by
  unfold zR
  rw[getElem?_map,List.getElem?_zipIdx,hm]
  simp
 simp only[Option.map_some,Option.getD_some]
 rw[take_add_one,e,List.append_assoc]
 rfl
theorem zPre_len{T:Tx}(n m:Nat):(zPre T n m).length<=(zT T).length:=by
 unfold zPre zT
 cases h:(byN T)[n]? with
 |none=>
  simp only[Option.map_none,Option.getD_none,List.take_nil,append_nil]
  conv=>rhs;rw[<-take_append_drop n (byN T),List.flatMap_append,List.length_append]
  omega
 |some q=>
  simp only[Option.map_some,Option.getD_some]
  have hn:n<(byN T).length:=(List.getElem?_eq_some_iff.mp h).1
  have e:byN T=(byN T).take n++q::(byN T).drop (n+1):=by
   have:=take_append_drop n (byN T)
   rw[List.drop_eq_getElem_cons hn]at this
   have hq:(byN T)[n]=q:=(List.getElem?_eq_some_iff.mp h).2
   rw[hq]at this
   exact this.symm
  conv=>rhs;rw[e,List.flatMap_append,List.flatMap_cons,List.length_append,List.length_append]
  rw[List.length_append,length_take]
  omega
theorem zPre_all(T:Tx):zPre T (nmL T).length 0=zT T:=by
 have:(nmL T).length=(byN T).length:=by simp[byN]
 rw[zPre_zero,this,take_length]
 rfl
theorem tog_nil:tog []=[]:=by simp[tog,zT,byN,nmL,nmD,srt]
theorem okT_nil:OkT []:=⟨List.nodup_nil,by decide,by rw[tog_nil];decide,by rw[tog_nil];decide⟩
def sgS(sg:Str)(n:Int):Nat:=(cl sg).getD (n% (sg.length:Int)).toNat 0
def numS(sg:Str)(one other k j:Int):Int:=if j=atB one other then part one (j+2) (sg.length:Int)+k else part one (j+2) (sg.length:Int)
def wordS(sg:Str)(one other k:Int)(n:Nat):Str:=⟨((List.range n).map fun j=>sgS sg (numS sg one other k ((j:Nat):Int))).toArray⟩
def wordsS(sg:Str)(one other:Int):List Str:=if 4<sizeB one/\other%2=1 then(List.range 5).map fun k=>Txt.slice (wordS sg one other 0 (sizeB one).toNat) none (some (sizeB one-((k:Nat):Int)))else(List.range 5).map fun k=>wordS sg one other ((k:Nat):Int) (sizeB one).toNat
def gAlikeS(ds:List D)(d:D):Prop:=∃(one other:Int) (sg:Str),0<sg.length/\sg.length<=100/\ds=[.int one,.int other,.str sg]/\d=strsD (wordsS sg one other)
theorem wordS_len(sg:Str)(one other k:Int)(n:Nat):(wordS sg one other k n).length=n:=by show Array.size _=n;simp[wordS]
theorem wordS_succ(sg:Str)(one other k:Int)(n:Nat):wordS sg one other k (n+1)=wordS sg one other k n++⟨#[sgS sg (numS sg one other k ((n:Nat):Int))]⟩:=by
 apply cl_inj
 rw[cl_append]
 unfold wordS
 simp[cl,range_succ]
theorem sgS_at{sg:Str}(h:0<sg.length)(n:Int):atI (cl sg) (n% (sg.length:Int))=some (sgS sg n):=by
 have h0:=Int.emod_nonneg n (show(sg.length:Int)≠0 by omega)
 have h1:=Int.emod_lt_of_pos n (show(0:Int)<(sg.length:Int) by omega)
 have e:n% (sg.length:Int)=(((n% (sg.length:Int)).toNat:Nat):Int):=by omega
 rw[e]
 refine atI_nat ?_
 unfold sgS
 have hl:(n% (sg.length:Int)).toNat<(cl sg).length:=by rw[cl_len];omega
 rw[List.getD_eq_getElem?_getD,List.getElem?_eq_getElem hl]
 rfl
theorem sgS_mem{sg:Str}(h:0<sg.length)(n:Int):sgS sg n∈cl sg:=by
 have h0:=Int.emod_nonneg n (show(sg.length:Int)≠0 by omega)
 have h1:=Int.emod_lt_of_pos n (show(0:Int)<(sg.length:Int) by omega)
 have hl:(n% (sg.length:Int)).toNat<(cl sg).length:=by rw[cl_len];omega
 unfold sgS
 rw[List.getD_eq_getElem?_getD,List.getElem?_eq_getElem hl]
 exact getElem_mem hl
theorem wordsS_len(sg:Str)(one other:Int):(wordsS sg one other).length=5:=by
 unfold wordsS
 split<;>simp
theorem wordsS_le{sg:Str}{one other:Int}{x:Str}(h:x∈wordsS sg one other):x.length<=14:=by
 have hs:=sizeB_le one
 have hp:=sizeB_pos one
 unfold wordsS at h
 split at h
 . obtain⟨k,_,rfl⟩:=mem_map.mp h
   have:=Txt.slice_le (wordS sg one other 0 (sizeB one).toNat) none (some (sizeB one-((k:Nat):Int)))
   rw[wordS_len]at this
   omega
 . obtain⟨k,_,rfl⟩:=mem_map.mp h
   rw[wordS_len];omega
theorem cl_wordS(sg:Str)(one other k:Int)(n:Nat):cl (wordS sg one other k n)=(List.range n).map fun j=>sgS sg (numS sg one other k ((j:Nat):Int)):=by simp[cl,wordS]
theorem wordS_isW(one other k:Int){n:Nat}(h:0<n):isW (wordS W36 one other k n):=by
 refine⟨fun e=>?_,fun c hc=>?_⟩
 . have:=wordS_len W36 one other k n
   rw[e]at this
   have h0:(("":Str)).length=0:=rfl
   omega
 . rw[cl_wordS]at hc
   obtain⟨j,_,rfl⟩:=mem_map.mp hc
   unfold sgB
   exact decide_eq_true (sgS_mem (by decide) _)
theorem wordsS_isW{one other:Int}{x:Str}(h:x∈wordsS W36 one other):isW x:=by
 have hp:=sizeB_pos one
 unfold wordsS at h
 split at h
 . next hc=>
   obtain⟨k,hk,rfl⟩:=mem_map.mp h
   have hk:k<5:=by simpa using hk
   have w:=wordS_isW one other 0 (n:=(sizeB one).toNat) (by omega)
   have e:=cl_slice_to (wordS W36 one other 0 (sizeB one).toNat) (j:=sizeB one-((k:Nat):Int)) (by omega) (by rw[cl_len,wordS_len];omega)
   refine⟨fun z=>?_,fun c hc'=>?_⟩
   . rw[z]at e
     have e2:=congrArg List.length e
     rw[length_take,cl_len,cl_len,wordS_len]at e2
     have h0:(("":Str)).length=0:=rfl
     omega
   . rw[e]at hc'
     exact w.2 c (List.mem_of_mem_take hc')
 . obtain⟨k,_,rfl⟩:=mem_map.mp h
   exact wordS_isW one other _ (by omega)
def numR(cell:Int)(k:Nat):Int:=(cell%65521+7)*((k:Int)+2)*48271%65537
def pick8(n:Int):Int:=[0,0,0,1,1,2,3,4].getD (n%8).toNat 0
def wdR(ws:List Str)(cell:Int)(k:Nat):Str:=ws.getD (pick8 (numR cell k)).toNat ""
def rowsP(ws:List Str)(cell:Int)(many:Nat):Nat->List (List Str)×List Str
 |0=>([],[])
 |n+1=>if numR cell n/8%4=0/\n+1<many then((rowsP ws cell many n).1++[(rowsP ws cell many n).2++[wdR ws cell n]],[])else((rowsP ws cell many n).1,(rowsP ws cell many n).2++[wdR ws cell n])
def rowsC(ws:List Str)(cell:Int)(many:Nat):List (List Str):=if many=0 then[]else(rowsP ws cell many many).1++[(rowsP ws cell many many).2]
def gRowsC(ds:List D)(d:D):Prop:=∃(ws:List Str) (cell:Int) (many:Nat),ws.length=5/\many<=20/\ds=[strsD ws,.int cell,.int (many:Nat)]/\d=rowsD (rowsC ws cell many)
theorem pick8_lt(n:Int):0<=pick8 n/\pick8 n<5:=by
 have h0:=Int.emod_nonneg n (show(8:Int)≠0 by decide)
 have h1:=Int.emod_lt_of_pos n (show(0:Int)<8 by decide)
 unfold pick8
 generalize n%8=m at*
 have:m=0\/m=1\/m=2\/m=3\/m=4\/m=5\/m=6\/m=7:=by omega
 rcases this with rfl|rfl|rfl|rfl|rfl|rfl|rfl|rfl<;>decide
theorem pick8_at(n:Int):atI ([.int 0,.int 0,.int 0,.int 1,.int 1,.int 2,.int 3,.int 4]:List D) (n%8)=some (.int (pick8 n)):=by
 have h0:=Int.emod_nonneg n (show(8:Int)≠0 by decide)
 have h1:=Int.emod_lt_of_pos n (show(0:Int)<8 by decide)
 unfold pick8
 generalize n%8=m at*
 have:m=0\/m=1\/m=2\/m=3\/m=4\/m=5\/m=6\/m=7:=by omega
 rcases this with rfl|rfl|rfl|rfl|rfl|rfl|rfl|rfl<;>rfl
theorem wdR_mem{ws:List Str}(h5:ws.length=5)(cell:Int)(k:Nat):wdR ws cell k∈ws:=by
 have:=pick8_lt (numR cell k)
 unfold wdR
 have hl:(pick8 (numR cell k)).toNat<ws.length:=by omega
 rw[List.getD_eq_getElem?_getD,List.getElem?_eq_getElem hl]
 exact getElem_mem hl
structure RowsOk(ws:List Str)(n:Nat)(p:List (List Str)×List Str):Prop where
 ne:∀r∈p.1,r≠[]
 mem:∀r∈p.1++[p.2],∀x∈r,x∈ws
 sum:tot p.1+p.2.length=n
theorem rowsP_ok{ws:List Str}(h5:ws.length=5)(cell:Int)(many:Nat):∀n,RowsOk ws n (rowsP ws cell many n)
 |0=>⟨fun r hr=>(by cases hr),fun r hr x hx=>(by rw[List.mem_singleton.mp (show r∈[[]]from hr)]at hx;cases hx),rfl⟩
 |n+1=>by
  obtain⟨h1,h2,h3⟩:=rowsP_ok h5 cell many n
  have hw:=wdR_mem h5 cell n
  unfold rowsP
  split
  . refine⟨fun r hr=>?_,fun r hr x hx=>?_,?_⟩
    . rcases mem_append.mp hr with hr|hr
      . exact h1 r hr
      . rw[List.mem_singleton.mp hr];simp
    . rcases mem_append.mp hr with hr|hr
      . rcases mem_append.mp hr with hr|hr
        . exact h2 r (List.mem_append_left _ hr) x hx
        . rw[List.mem_singleton.mp hr]at hx
          rcases mem_append.mp hx with hx|hx
          . exact h2 _ (mem_append_right _ (List.mem_singleton.mpr rfl)) x hx
          . rw[List.mem_singleton.mp hx];exact hw
      . rw[List.mem_singleton.mp hr]at hx;cases hx
    . simp[tot]at h3⊢;omega
  . refine⟨h1,fun r hr x hx=>?_,?_⟩
    . rcases mem_append.mp hr with hr|hr
      . exact h2 r (List.mem_append_left _ hr) x hx
      . rw[List.mem_singleton.mp hr]at hx
        rcases mem_append.mp hx with hx|hx
        . exact h2 _ (mem_append_right _ (List.mem_singleton.mpr rfl)) x hx
        . rw[List.mem_singleton.mp hx];exact hw
    . simp only[List.length_append,List.length_singleton];omega
theorem rowsP_last{ws:List Str}(cell:Int){many:Nat}(h:0<many):(rowsP ws cell many many).2≠[]:=by
 cases many with
 |zero=>omega
 |succ n=>
  unfold rowsP
  rw[if_neg (by omega)]
  simp
theorem rowsC_ok{ws:List Str}(h5:ws.length=5)(cell:Int)(many:Nat):(∀r∈rowsC ws cell many,r≠[]/\ ∀x∈r,x∈ws)/\tot (rowsC ws cell many)=many:=by
 unfold rowsC
 split
 . next h=>subst h;exact⟨fun r hr=>(by cases hr),rfl⟩
 . next h=>
   obtain⟨h1,h2,h3⟩:=rowsP_ok h5 cell many many
   refine⟨fun r hr=>⟨?_,h2 r hr⟩,?_⟩
   . rcases mem_append.mp hr with hr|hr
     . exact h1 r hr
     . rw[List.mem_singleton.mp hr];exact rowsP_last cell (by omega)
   . simp[tot]at h3⊢;omega
theorem rowsC_good{ws:List Str}(h5:ws.length=5)(hw:∀x∈ws,isW x)(cell:Int)(many:Nat):GoodRows (rowsC ws cell many):=fun r hr=>⟨((rowsC_ok h5 cell many).1 r hr).1,fun x hx=>hw x (((rowsC_ok h5 cell many).1 r hr).2 x hx)⟩
def gapS(c:Int):Str:=([" ",", ","-","  "]:List Str).getD (c%4).toNat ""
def sepS(c:Int):Str:=(["\n","\n\n","\n ; \n"]:List Str).getD (c/8%3).toNat ""
def tlS(c:Int):Str:=(["","\n","."," !\n\n"]:List Str).getD (c/24%4).toNat ""
def lineS(c:Int)(r:List Str):Str:=if c/4%2=1 then Txt.upper (Txt.join (gapS c) r)else Txt.join (gapS c) r
def textS(rows:List (List Str))(c:Int):Str:=Txt.join (sepS c) (rows.map (lineS c))++tlS c
theorem cl_upper{z:Str}(h:∀c∈cl z,c<128):cl (Txt.upper z)=(cl z).map up1:=by
 rw[upper_ascii h]
 show(z.cps.map up1).toList=_
 rw[Array.toList_map]
theorem rows_text{rows:List (List Str)}(h:GoodRows rows){gap sep tl:Str}(u:Bool)(hp:Part (cl gap))(hg:(cl gap).map up1=cl gap)(hq:Quiet (cl sep))(h10:10∈cl sep)(ht:Quiet (cl tl))(a1:∀c∈cl gap,c<128)(a2:∀c∈cl sep,c<128)(a3:∀c∈cl tl,c<128):
 rowsOfS (Txt.join sep (rows.map fun r=>if u then Txt.upper (Txt.join gap r)else Txt.join gap r)++tl)=rows/\asciiS (Txt.join sep (rows.map fun r=>if u then Txt.upper (Txt.join gap r)else Txt.join gap r)++tl):=by
 let g:Nat->Nat:=if u then up1 else id
 have wg:∀r∈rows,∀x∈r,IsW ((cl x).map g)/\((cl x).map g).map lo1=cl x/\ ∀c∈(cl x).map g,c<128:=fun r hr x hx=>by
  have w:=(h r hr).2 x hx
  cases u with
  |true=>
   refine⟨w.up.1,w.up.2,fun c hc=>?_⟩
   obtain⟨k,hk,rfl⟩:=mem_map.mp hc
   exact(up_low k (sg_mem (w.2 k hk))).2.2
  |false=>
   have e:(cl x).map g=cl x:=List.map_id _
   rw[e]
   exact⟨w.w,w.low,w_ascii w⟩
 have line:∀r∈rows,cl (if u then Txt.upper (Txt.join gap r)else Txt.join gap r)=joinL (cl gap) (r.map fun x=>(cl x).map g):=fun r hr=>by
  cases u with
  |true=>
   have asc:∀c∈cl (Txt.join gap r),c<128:=by
    rw[cl_tjoin]
    refine ascii_join a1 fun p hp=>?_
    obtain⟨x,hx,rfl⟩:=mem_map.mp hp
    exact w_ascii ((h r hr).2 x hx)
   show cl (Txt.upper (Txt.join gap r))=_
   rw[cl_upper asc,cl_tjoin,map_joinL,hg,map_map]
   rfl
  |false=>
   show cl (Txt.join gap r)=_
   rw[cl_tjoin]
   congr 1
   refine map_congr_left fun x _=>?_
   exact(List.map_id _).symm
 have ea:cl (Txt.join sep (rows.map fun r=>if u then Txt.upper (Txt.join gap r)else Txt.join gap r)++tl)=joinL (cl sep) ((rows.map fun r=>r.map fun x=>(cl x).map g).map (joinL (cl gap)))++cl tl:=by
  rw[cl_append,cl_tjoin,map_map,map_map]
  congr 2
  exact map_congr_left fun r hr=>line r hr
 have asc:∀c∈cl (Txt.join sep (rows.map fun r=>if u then Txt.upper (Txt.join gap r)else Txt.join gap r)++tl),c<128:=by
  rw[ea]
  intro c hc
  rcases mem_append.mp hc with hc|hc
  . refine ascii_join a2 (fun p hp=>?_) c hc
    obtain⟨r,hr,rfl⟩:=mem_map.mp hp
    obtain⟨r',hr',rfl⟩:=mem_map.mp hr
    refine ascii_join a1 fun p hp=>?_
    obtain⟨x,hx,rfl⟩:=mem_map.mp hp
    exact(wg r' hr' x hx).2.2
  . exact a3 c hc
 refine⟨rows_back asc ?_,asc⟩
 rw[ea,scan_rows hp hq h10 _ _ (fun r hr=>?_) ht,map_map]
 . refine map_congr_left fun r hr=>?_
   simp only[Function.comp,map_map]
   refine map_congr_left fun x hx=>?_
   exact(wg r hr x hx).2.1
 . obtain⟨r',hr',rfl⟩:=mem_map.mp hr
   refine⟨fun e=>(h r' hr').1 (by simpa using e),fun x hx=>?_⟩
   obtain⟨y,hy,rfl⟩:=mem_map.mp hx
   exact(wg r' hr' y hy).1
theorem gap_ok(c:Int):Part (cl (gapS c))/\(cl (gapS c)).map up1=cl (gapS c)/\(∀k∈cl (gapS c),k<128)/\(gapS c).length<=2:=by
 have h0:=Int.emod_nonneg c (show(4:Int)≠0 by decide)
 have h1:=Int.emod_lt_of_pos c (show(0:Int)<4 by decide)
 unfold gapS
 generalize c%4=m at*
 have:m=0\/m=1\/m=2\/m=3:=by omega
 unfold Part
 rcases this with rfl|rfl|rfl|rfl<;>decide+kernel
theorem sep_ok(c:Int):Quiet (cl (sepS c))/\10∈cl (sepS c)/\(∀k∈cl (sepS c),k<128)/\(sepS c).length<=5:=by
 have h0:=Int.emod_nonneg (c/8) (show(3:Int)≠0 by decide)
 have h1:=Int.emod_lt_of_pos (c/8) (show(0:Int)<3 by decide)
 unfold sepS
 generalize c/8%3=m at*
 have:m=0\/m=1\/m=2:=by omega
 unfold Quiet
 rcases this with rfl|rfl|rfl<;>decide+kernel
theorem tl_ok(c:Int):Quiet (cl (tlS c))/\(∀k∈cl (tlS c),k<128)/\(tlS c).length<=4:=by
 have h0:=Int.emod_nonneg (c/24) (show(4:Int)≠0 by decide)
 have h1:=Int.emod_lt_of_pos (c/24) (show(0:Int)<4 by decide)
 unfold tlS
 generalize c/24%4=m at*
 have:m=0\/m=1\/m=2\/m=3:=by omega
 unfold Quiet
 rcases this with rfl|rfl|rfl|rfl<;>decide+kernel
theorem textS_ok{rows:List (List Str)}(h:GoodRows rows)(c:Int):rowsOfS (textS rows c)=rows/\asciiS (textS rows c):=by
 obtain⟨g1,g2,g3,_⟩:=gap_ok c
 obtain⟨s1,s2,s3,_⟩:=sep_ok c
 obtain⟨t1,t2,_⟩:=tl_ok c
 have:=rows_text h (decide (c/4%2=1)) g1 g2 s1 s2 t1 g3 s3 t2
 unfold textS
 have e:lineS c=fun r=>if decide (c/4%2=1)=true then Txt.upper (Txt.join (gapS c) r)else Txt.join (gapS c) r:=by
  funext r
  unfold lineS
  by_cases q:c/4%2=1<;>simp[q]
 rw[e]
 exact this
def nmSg:Str:="abcXYZ012 .:-_~!"
def gWords5(ds:List D)(d:D):Prop:=∃one other:Int,ds=[.int one,.int other]/\d=strsD (wordsS W36 one other)
def gNames5(ds:List D)(d:D):Prop:=∃one other:Int,ds=[.int one,.int other]/\d=strsD (wordsS nmSg one other)
def gTextS(ds:List D)(d:D):Prop:=∃(rows:List (List Str)) (c:Int),GoodRows rows/\(∀r∈rows,∀x∈r,x.length<=14)/\tot rows<=20/\ds=[rowsD rows,.int c]/\d=.str (textS rows c)
def gSortedF(ds:List D)(d:D):Prop:=∃(T:Tx) (b:Obj),OkT T/\ds=[.agg (.f b ((txK T).map (·.1))) ((txK T).map (·.2))]/\d=.lst ((endsT T).map trD)
theorem tot_cons(r:List Str)(rows:List (List Str)):tot (r::rows)=r.length+tot rows:=by simp[tot]
theorem row_len{rows:List (List Str)}{r:List Str}(h:r∈rows):r.length<=tot rows:=by
 induction rows with
 |nil=>cases h
 |cons q rows ih=>
  rw[tot_cons]
  rcases mem_cons.mp h with rfl|h
  . omega
  . have:=ih h;omega
theorem sum_len_le{r:List Str}(h:∀x∈r,x.length<=14):(r.map (·.length)).sum<=r.length*14:=by
 induction r with
 |nil=>simp
 |cons x r ih=>
  have h1:=h x (by simp)
  have h2:=ih fun y hy=>h y (by simp[hy])
  simp only[map_cons,List.sum_cons,length_cons]
  omega
theorem join_gap_len{r:List Str}(h:∀x∈r,x.length<=14)(c:Int):(Txt.join (gapS c) r).length<=r.length*16:=by
 have h1:=tjoin_le (gapS c) r
 have h2:=sum_len_le h
 have h3:=(gap_ok c).2.2.2
 have h4:r.length*(gapS c).length<=r.length*2:=Nat.mul_le_mul_left _ h3
 omega
theorem gap_ascii{r:List Str}(h:∀x∈r,isW x)(c:Int):asciiS (Txt.join (gapS c) r):=by
 intro k hk
 rw[cl_tjoin]at hk
 refine ascii_join (gap_ok c).2.2.1 (fun p hp=>?_) k hk
 obtain⟨x,hx,rfl⟩:=mem_map.mp hp
 exact w_ascii (h x hx)
theorem line_len{r:List Str}(hw:∀x∈r,isW x)(h:∀x∈r,x.length<=14)(c:Int):(lineS c r).length<=r.length*16:=by
 have h1:=join_gap_len h c
 unfold lineS
 split
 . rw[upper_len (gap_ascii hw c)];exact h1
 . exact h1
theorem lines_sum{rows:List (List Str)}(g:GoodRows rows)(h:∀r∈rows,∀x∈r,x.length<=14)(c:Int):((rows.map (lineS c)).map (·.length)).sum<=tot rows*16:=by
 induction rows with
 |nil=>simp
 |cons r rows ih=>
  have h1:=line_len (g r (by simp)).2 (h r (by simp)) c
  have h2:=ih (fun q hq=>g q (by simp[hq])) fun q hq=>h q (by simp[hq])
  rw[tot_cons]
  simp only[map_cons,List.sum_cons]
  omega
theorem good_rows_len{rows:List (List Str)}(g:GoodRows rows):rows.length<=tot rows:=len_le_tot fun r hr=>List.length_pos_iff.mpr (g r hr).1
theorem textS_len{rows:List (List Str)}(g:GoodRows rows)(h:∀r∈rows,∀x∈r,x.length<=14)(c:Int):(textS rows c).length<=tot rows*21+4:=by
 have h1:=tjoin_le (sepS c) (rows.map (lineS c))
 have h2:=lines_sum g h c
 have h3:=(sep_ok c).2.2.2
 have h4:=(tl_ok c).2.2
 have h5:=good_rows_len g
 have h6:(rows.map (lineS c)).length*(sepS c).length<=tot rows*5:=by rw[length_map];exact Nat.mul_le_mul h5 h3
 unfold textS
 rw[<-cl_len,cl_append,List.length_append,cl_len,cl_len]
 omega
theorem gap_at(c:Int):atI ([.str " ",.str ", ",.str "-",.str "  "]:List D) (c%4)=some (.str (gapS c)):=by
 have h0:=Int.emod_nonneg c (show(4:Int)≠0 by decide)
 have h1:=Int.emod_lt_of_pos c (show(0:Int)<4 by decide)
 unfold gapS
 generalize c%4=m at*
 have:m=0\/m=1\/m=2\/m=3:=by omega
 rcases this with rfl|rfl|rfl|rfl<;>rfl
theorem sep_at(c:Int):atI ([.str "\n",.str "\n\n",.str "\n ; \n"]:List D) (c/8%3)=some (.str (sepS c)):=by
 have h0:=Int.emod_nonneg (c/8) (show(3:Int)≠0 by decide)
 have h1:=Int.emod_lt_of_pos (c/8) (show(0:Int)<3 by decide)
 unfold sepS
 generalize c/8%3=m at*
 have:m=0\/m=1\/m=2:=by omega
 rcases this with rfl|rfl|rfl<;>rfl
theorem tl_at(c:Int):atI ([.str "",.str "\n",.str ".",.str " !\n\n"]:List D) (c/24%4)=some (.str (tlS c)):=by
 have h0:=Int.emod_nonneg (c/24) (show(4:Int)≠0 by decide)
 have h1:=Int.emod_lt_of_pos (c/24) (show(0:Int)<4 by decide)
 unfold tlS
 generalize c/24%4=m at*
 have:m=0\/m=1\/m=2\/m=3:=by omega
 rcases this with rfl|rfl|rfl|rfl<;>rfl
def plPre(T:Tx)(n m a:Nat):List Pl3:=(T.take n).flatMap (fun q=>(zR q).flatMap plR)++(((T[n]?.map zR).getD []).take m).flatMap plR++(List.range a).map fun c=>(((T[n]?.map (·.1)).getD ("":Str)),m,c)
theorem plPre_row{T:Tx}{n m:Nat}{q:Str×List (List Str)}{row:List Str}(h:T[n]? =some q)(hm:q.2[m]? =some row):plPre T n m row.length=plPre T n (m+1) 0:=by
 unfold plPre
 rw[h]
 have e:(zR q)[m]? =some ((q.1,m),row):=by
  unfold zR
  rw[getElem?_map,List.getElem?_zipIdx,hm]
  simp
 simp only[Option.map_some,Option.getD_some,List.range_zero,map_nil,append_nil]
 rw[take_add_one,e,List.flatMap_append, <-List.append_assoc]
 simp[plR]
theorem plPre_text{T:Tx}{n:Nat}{q:Str×List (List Str)}(h:T[n]? =some q):plPre T n q.2.length 0=plPre T (n+1) 0 0:=by
 unfold plPre
 rw[h,take_add_one,h]
 simp[List.take_of_length_le,zR_len]
theorem plPre_all(T:Tx):plPre T T.length 0 0=plT T:=by
 unfold plPre plT
 simp
theorem plPre_succ(T:Tx)(n m a:Nat):plPre T n m (a+1)=plPre T n m a++[(((T[n]?.map (·.1)).getD ("":Str)),m,a)]:=by
 unfold plPre
 rw[range_succ,map_append,List.append_assoc,List.append_assoc,List.append_assoc]
 rfl
theorem plT_len{T:Tx}(nd:(T.map (·.1)).Nodup):(plT T).length=tot (tog T):=by
 have h:=congrArg List.length (endsT_eq nd)
 rw[srt_len,length_map,length_map]at h
 unfold endsT at h
 rw[length_map,endsL_len]at h
 exact h.symm
theorem plPre_len{T:Tx}{n m a:Nat}{q:Str×List (List Str)}{row:List Str}(h:T[n]? =some q)(hm:q.2[m]? =some row)(ha:a<=row.length):(plPre T n m a).length<=(plT T).length:=by
 have hn:n<T.length:=(List.getElem?_eq_some_iff.mp h).1
 have e:T=T.take n++q::T.drop (n+1):=by
  have:=take_append_drop n T
  rw[List.drop_eq_getElem_cons hn,(List.getElem?_eq_some_iff.mp h).2]at this
  exact this.symm
 have e1:(zR q)[m]? =some ((q.1,m),row):=by
  unfold zR
  rw[getElem?_map,List.getElem?_zipIdx,hm]
  simp
 have hm':m<(zR q).length:=(List.getElem?_eq_some_iff.mp e1).1
 have e2:zR q=(zR q).take m++((q.1,m),row)::(zR q).drop (m+1):=by
  have:=take_append_drop m (zR q)
  rw[List.drop_eq_getElem_cons hm',(List.getElem?_eq_some_iff.mp e1).2]at this
  exact this.symm
 have l1:(plT T).length=((T.take n).flatMap (fun q=>(zR q).flatMap plR)).length+(((zR q).flatMap plR).length+((T.drop (n+1)).flatMap (fun q=>(zR q).flatMap plR)).length):=by
  unfold plT
  conv=>lhs;rw[e]
  rw[List.flatMap_append,List.flatMap_cons,List.length_append,List.length_append]
 have l2:((zR q).flatMap plR).length=(((zR q).take m).flatMap plR).length+(row.length+(((zR q).drop (m+1)).flatMap plR).length):=by
  conv=>lhs;rw[e2]
  rw[List.flatMap_append,List.flatMap_cons,List.length_append,List.length_append]
  simp[plR]
 unfold plPre
 rw[h]
 simp only[Option.map_some,Option.getD_some,List.length_append,length_map,length_range]
 omega
theorem plT_mem{T:Tx}(nd:(T.map (·.1)).Nodup){t:Pl3}(h:t∈plT T):t.1∈T.map (·.1)/\t.2.1<(rwT T t.1).length:=by
 obtain⟨q,hq,h⟩:=List.mem_flatMap.mp h
 obtain⟨z,hz,h⟩:=List.mem_flatMap.mp h
 obtain⟨a,_,rfl⟩:=mem_map.mp h
 obtain⟨e1,e2⟩:=zR_at hz
 have e3:=rwT_mem nd hq
 refine⟨?_,?_⟩
 . rw[e1];exact mem_map.mpr ⟨q,hq,rfl⟩
 . show z.1.2<(rwT T z.1.1).length
   rw[e1,e3]
   exact(List.getElem?_eq_some_iff.mp e2).1
theorem flatMap_ge{α β:Type}{f:α->List β}:∀{l:List α} {a:α},a∈l->(f a).length<=(l.flatMap f).length
 |b::l,a,h=>by
  rw[List.flatMap_cons,List.length_append]
  rcases mem_cons.mp h with rfl|h
  . omega
  . have:=flatMap_ge (f:=f) h;omega
theorem rows_le{T:Tx}(nd:(T.map (·.1)).Nodup){q:Str×List (List Str)}(h:q∈T):q.2.length<=(tog T).length:=by
 have h1:=flatMap_ge (f:=zR) ((byN_perm nd).mem_iff.mpr h)
 rw[zR_len]at h1
 simpa[tog,zT]using h1
theorem row_le{T:Tx}(nd:(T.map (·.1)).Nodup){q:Str×List (List Str)}{m:Nat}{row:List Str}(h:q∈T)(hm:q.2[m]? =some row):row.length<=tot (tog T):=by
 rw[<-plT_len nd]
 have h1:=flatMap_ge (f:=fun q=>(zR q).flatMap plR) h
 have e:((q.1,m),row)∈zR q:=by
  refine mem_map.mpr ⟨(row,m),?_,rfl⟩
  exact List.mem_zipIdx_iff_getElem?.mpr hm
 have h2:=flatMap_ge (f:=plR) e
 have h3:(plR ((q.1,m),row)).length=row.length:=by simp[plR]
 unfold plT
 omega
section
variable{X:Cx}{F:Fn}{ρ:Rho}{Q:EndD}{rest body:List Stmt}{e o c1:Expr}{es:List Expr}{d:D}{ds ds':List D}{pos p ap cp sp np np2:Pos}{m1 m2:Bool}{x:Str}{fs:Obf}{C:Addr}{os:List (Option D)}{I:List Nat}{h i:Nat}
def zI(F:Fn)(A:Nat->List Addr)(I:List Nat):Zone:=⟨F.Z.m,fun a=>(F.Z.S a/\ ¬Owned A a)\/ ∃i∈I,a∈A i⟩
theorem zI_carry{K:PySem.W.Frag}{H:Hp}{A:Nat->List Addr}:Carry K H (zn F (Owned A) false) H (zI F A I):=⟨fun a m q z=>⟨q,.inl z⟩,fun m=>⟨m,fun _ _ q=>q⟩,fun _ _ q=>q⟩
end
section
variable{X:Cx}{F:Fn}{ρ:Rho}{Q:EndD}{rest body orelse:List Stmt}{c:Expr}{pos:Pos}{ds:List D}
theorem sd_ifP(N:Rho->Prop){b:Bool}(hc:T X (view true false ρ) c b)(h1:b=true->SD X F body ρ {Q with nx:=N})(h2:b=false->SD X F orelse ρ {Q with nx:=N})(h3:∀r,N r->SD X F rest r Q):SD X F (.If c body orelse pos::rest) ρ Q:=by
 refine sd_seq (N:=N) ?_ h3
 cases b with
 |true=>
  exact PS.mono (ps_if hc (h1 rfl) (pss_never (sts:=orelse))) fun Q' σ H z0=>el33 z0 fun hv hρ A hl S f=>⟨_,vz_open S true false,S.env hl true false,fun H1 s1=>by
   refine iteT ?_;exact⟨hv,hρ,A,hl,S.grow s1,f⟩⟩
 |false=>
  exact PS.mono (ps_if hc (pss_never (sts:=body)) (h2 rfl)) fun Q' σ H z0=>el33 z0 fun hv hρ A hl S f=>⟨_,vz_open S true false,S.env hl true false,fun H1 s1=>by
   refine iteF ?_;exact⟨hv,hρ,A,hl,S.grow s1,f⟩⟩
end
theorem nd_len{α:Type}[DecidableEq α]:∀{l m:List α},l.Nodup->(∀x∈l,x∈m)->l.length<=m.length
 |[],_,_,_=>Nat.zero_le _
 |a::l,m,nd,h=>by
  obtain⟨n1,n2⟩:=nodup_cons.mp nd
  have ha:=h a (by simp)
  have h1:=nd_len (l:=l) (m:=m.erase a) n2 fun x hx=>(List.mem_erase_of_ne fun(z:x=a)=>n1 (z▸hx)).mpr (h x (by simp[hx]))
  rw[List.length_erase_of_mem ha]at h1
  have:0<m.length:=List.length_pos_of_mem ha
  rw[length_cons]
  omega
theorem zR_tot(q:Str×List (List Str)):((zR q).flatMap plR).length=tot q.2:=by
 have key:∀(rows:List (List Str)) (k:Nat),(((rows.zipIdx k).map fun z=>((q.1,z.2),z.1)).flatMap plR).length=tot rows:=by
  intro rows
  induction rows with
  |nil=>intro k;rfl
  |cons r rows ih=>
   intro k
   rw[List.zipIdx_cons,map_cons,List.flatMap_cons,List.length_append,ih,tot_cons]
   simp[plR]
 exact key q.2 0
structure GT(nm:List Str)(T:Tx):Prop where
 nd:(T.map (·.1)).Nodup
 sub:∀q∈T,q.1∈nm
 good:∀q∈T,GoodRows q.2/\tot q.2<=8
theorem GT.tot{nm:List Str}:∀{T:Tx},(∀q∈T,GoodRows q.2/\tot q.2<=8)->(plT T).length<=8*T.length/\(T.flatMap zR).length<=8*T.length
 |[],_=>⟨Nat.le_refl _,Nat.le_refl _⟩
 |q::T,h=>by
  obtain⟨h1,h2⟩:=GT.tot (nm:=nm) (T:=T) fun p hp=>h p (by simp[hp])
  obtain⟨h3,h4⟩:=h q (by simp)
  have h5:=zR_tot q
  have h6:=good_rows_len h3
  have h7:=zR_len q
  unfold plT at h1⊢
  rw[List.flatMap_cons,List.flatMap_cons,List.length_append,List.length_append,length_cons]
  omega
theorem GT.ok{nm:List Str}{T:Tx}(h5:nm.length=5)(h:GT nm T):OkT T:=by
 have hl:T.length<=5:=by
  have:=nd_len (m:=nm) h.nd fun x hx=>by
   obtain⟨q,hq,rfl⟩:=mem_map.mp hx
   exact h.sub q hq
  rw[length_map]at this
  omega
 obtain⟨h1,h2⟩:=GT.tot (nm:=nm) h.good
 have h3:=plT_len h.nd
 have h4:(tog T).length=(T.flatMap zR).length:=by
  have:=((byN_perm h.nd).flatMap_right zR).length_eq
  simpa[tog,zT]using this
 exact⟨h.nd,by omega,by omega,by omega⟩
theorem GT.out{nm:List Str}{T:Tx}(h:GT nm T)(n:Str):GT nm (outT' T n):=by
 have sub:∀q∈outT' T n,q∈T:=fun q hq=>(mem_filter.mp hq).1
 exact⟨h.nd.sublist (List.filter_sublist.map _),fun q hq=>h.sub q (sub q hq),fun q hq=>h.good q (sub q hq)⟩
theorem GT.put{nm:List Str}{T:Tx}(h:GT nm T){n:Str}{rows:List (List Str)}(hn:n∉T.map (·.1))(hm:n∈nm)(g:GoodRows rows)(ht:Y.tot rows<=8):GT nm (T++[(n,rows)]):=by
 refine⟨?_,fun q hq=>?_,fun q hq=>?_⟩
 . rw[map_append]
   refine List.nodup_append.mpr ⟨h.nd,by simp,fun a ha b hb=>?_⟩
   have:b=n:=by simpa using hb
   intro z
   rw[z,this]at ha
   exact hn ha
 . rcases mem_append.mp hq with hq|hq
   . exact h.sub q hq
   . rw[List.mem_singleton.mp hq];exact hm
 . rcases mem_append.mp hq with hq|hq
   . exact h.good q hq
   . rw[List.mem_singleton.mp hq];exact⟨g,ht⟩
theorem gt_nil(nm:List Str):GT nm []:=⟨List.nodup_nil,fun q hq=>(by cases hq),fun q hq=>(by cases hq)⟩
section
variable{P:Program}{w:World}{K:PySem.W.Frag}{mg:Str->Option Value}{base:Heap}
theorem pass_up{N:List Str}{qual:Str}{scope:Scope}{f:Addr}{cd:Value}{A:Around}{outer:List Env}{s0:Shared}{H0:Hp}{Ex:XK}:Passes (CX1 P w) (cxOf (CX1 P w) P w K mg base N qual scope f cd A outer s0 H0 Ex) Ex:=by
 intro pins σ H s e s' I h
 obtain⟨a,cls,dct,H',rfl,fly,hE⟩:=h
 obtain⟨B,a0,f⟩:=fly.b
 have I2:=FlyB.inv I f
 have hst:=I2.stack
 have hlt:∀b o,s0.heap.get? b=some o->b≠s0.heap.objs.size:=fun b o q=>Nat.ne_of_lt (lt_size q)
 refine wpAny_mono (wpAny_kd kd_leaving (wpAny_leaves_onW (M:=model P w) (E:=fun _ _=>False) (Q:=fun _ s2=>∃h5,s2={s' with heap:=h5}/\Heap.FlyingW B outer a cls a0 h5/\s'.heap.UpToSlots h5) I.ok.frames rfl f.fl fun h5 x u=>⟨h5,rfl,x,u⟩)) (fun _ s2 ⟨⟨h5,e2,x,u⟩,dk⟩=>?_) fun _ _ z=>z.elim
 subst e2
 have same:∀b o,s'.heap.get? b=some o->B.get? b≠none->h5.get? b=some o:=fun b o e n=>by
  cases q:B.get? b with
  |none=>exact absurd q n
  |some o2=>
   have:=f.fl.1 b o2 q
   rw[e]at this
   cases this
   exact x.1 b o q
 have inB:∀b o,s0.heap.get? b=some o->b∉frs outer->B.get? b≠none:=fun b o q nb=>by
  obtain⟨o',q2⟩:=I.base.there b o q (by intro z;cases z)
  refine f.sB b o' q2 fun hm=>?_
  have hm:b∈frs (envOfC qual scope s0.heap.objs.size _ cd::outer):=hm
  unfold frs at hm nb
  rw[List.filterMap_cons]at hm
  exact(mem_cons.mp hm).elim (hlt b o q) nb
 have fr:∀b o,b∈frs outer->s'.heap.get? b=some o->∃sl,h5.get? b=some {o with slots:=sl}:=fun b o hb e=>by
  obtain⟨_,o3,q3,nf⟩:=hst.mem (b:=b) (by
   show b∈(envOfC qual scope s0.heap.objs.size _ cd::outer).filterMap (·.frame)
   rw[List.filterMap_cons]
   exact mem_cons_of_mem _ hb)
  rw[e]at q3
  cases q3
  exact u b o e nf
 refine⟨a,cls,dct,H',rfl,⟨I2.os,I2.bare,⟨fun b o q n nf ne=>same b o (I2.base.keep b o q n nf ne) (inB b o q nf),fun b o q n nf ne=>?_,fun b o q n ne=>I2.base.free b o q n ne,fun b o q ne=>?_,I2.base.tups,I2.base.frzs,I2.base.tbls⟩,HOk.kept' f.hok fun b u hb q=>same b u q (f.hB b hb),?_,⟨B,a0,x,f.hB,inB⟩⟩,hE⟩
 . obtain⟨sl,q2⟩:=I2.base.slot b o q n nf ne
   obtain⟨sl2,q4⟩:=fr b _ nf q2
   exact⟨sl2,q4⟩
 . obtain⟨o',q2⟩:=I2.base.there b o q ne
   by_cases hm:b∈frs outer
   . obtain⟨sl2,q4⟩:=fr b _ hm q2
     exact⟨_,q4⟩
   . exact⟨_,same b o' q2 (inB b o q hm)⟩
 . obtain⟨o1,e1,d1⟩:=f.dt
   obtain⟨o2,e2,d2⟩:=dk a o1 e1
   exact⟨o2,e2,d2.trans d1⟩
def spAX(K:PySem.W.Frag)(R:List D->Addr->Prop):Sp:=fun vs H _ E=>∃(Z:Zone) (ds:List D) (c:Addr),Z.Open H/\InTs K H Z ds vs/\R ds c/\ ∀H',Same H H'->E (.ref c) none H'
theorem fnAX{x qual:Str}{st:Stmt}{f:Addr}{fd:FuncData}{N ps:List Str}{k:Nat}{R:List D->Addr->Prop}(Fx:Fun K x qual st f fd)(S:FnScope N ps (defScope st))(hlen:∀ds c,R ds c->ds.length=ps.length)
 (body:∀(cdv:Value) (A:Around) (outer:List Env) (s:Shared) (H:Hp) (E:XK) (Z:Zone) (ds:List D) (c:Addr),Room k (A.deeper (envOfC qual (defScope st) s.heap.objs.size f cdv))->R ds c->(∀H',Same H H'->E (.ref c) none H')->
  XE (cxOf (CX1 P w) P w K mg base N qual (defScope st) f cdv A outer s H E) E->Passes (CX1 P w) (cxOf (CX1 P w) P w K mg base N qual (defScope st) f cdv A outer s H E) E->
  SD (cxOf (CX1 P w) P w K mg base N qual (defScope st) f cdv A outer s H E) ⟨true,Z,H⟩ (defBody st) (startAg N ds) {nx:=fun _=>False,rt:=fun _=>False}):FnOk P w K mg base (CX1 P w) (k+1) f fd ps (spAX K R):=by
 obtain⟨oc,od,kV,doc,pm,an,cdv,ct,osl,rfl,lk,hcd⟩:=Fx.ex
 refine fn_of lk hcd S (fun vs H Q E ⟨Z,ds,c,oz,i,g,kk⟩=>?_) fun A outer s H vs Q E hr ⟨Z,ds,c,oz,i,g,kk⟩=>?_
 . rw[<-i.length];exact hlen ds c g
 . refine⟨_,body cdv A outer s H E Z ds c hr g kk (fun pins σ H1 s1 h' e cls args I hmk hE=>xe_made I hmk hE) pass_up,[],[],fun _=>[],?_,startAg_in oz i,⟨rfl,fun σ H' ⟨r,A',hl,S',e⟩=>e.elim,fun σ H' ⟨r,A',hl,S',e⟩=>e.elim,fun σ H' ⟨r,A',hl,S',e⟩=>e.elim,fun v d' H' s' i' e=>e.elim,fun _ _ _ _ _ _ _ _ e=>e.elim,fun _ _ _ _ _ _ _ _ _ _ _ _ _ e=>e.elim,fun _ _ _ _ _ _ _ e=>e.elim⟩⟩
   have:=i.length
   simp[L2.start,startAg];omega
end
structure DefMX(P:Program)(w:World)(K:PySem.W.Frag)(mg:Str->Option Value)(base:Heap)(k:Nat)(C:Addr)(x:Str)(R:List D->Addr->Prop):Prop where
 ex:∃f fd ps,FnOk P w K mg base (CX1 P w) k f fd ps (spAX K R)/\Meth K C x f/\Binds K fd ps []
structure DefAX(P:Program)(w:World)(K:PySem.W.Frag)(mg:Str->Option Value)(base:Heap)(k:Nat)(x:Str)(R:List D->Addr->Prop):Prop where
 ex:∃f fd ps,FnOk P w K mg base (CX1 P w) k f fd ps (spAX K R)/\mg x=some (.ref f)/\keepIn K (.ref f)=true/\Binds K fd ps []
section
variable{X:Cx}{F:Fn}{ρ:Rho}{Q:EndD}{rest:List Stmt}{e o:Expr}{es:List Expr}{ds:List D}{pos p ap cp:Pos}{k:Nat}{C c:Addr}{x:Str}{R:List D->Addr->Prop}{ns:List Str}{os:List D}{Ex:XK}{m:Bool}{rv:List (Option D)}
theorem sd_upM(Df:DefMX X.prog X.w X.K X.mg X.base k C x R)(hx:Passes (CX1 X.prog X.w) X Ex)(hE:∀H',Same F.H H'->Ex (.ref c) none H')(hc:Cls X.K C)(hr:Room k X.A)(ho:EG X (view true false ρ) o (.agg (.o C ns) os))(hm:(ns.zip os).lookup x=none)(ha:EAT X (view true false ρ) (e::es) ds)(h:R (.agg (.o C ns) os::ds) c)
 (hst:starEach (e::es) X.env=(false,eval e X.env)::starEach es X.env:=by rfl)(hpl:(backTo cp (starEach es X.env)).any (·.1)=false:=by rfl){pl:Sem Bool}
 (ht:eval (.Call (.Attribute o x ap) (e::es) [] cp) X.env=(do
  let ov<-eval o X.env
  standAt ap.atName
  let(f,first)<-holding [ov] (getMethod ov x pl)
  callWith cp f first (backTo cp (starEach (e::es) X.env)) (backToKw cp (keywordEach [] X.env))):=by rfl)(hsw:swapsWith (.Call (.Attribute o x ap) (e::es) [] cp) none pos.line X.env=pure false:=by rfl):SD X F (.Expr (.Call (.Attribute o x ap) (e::es) [] cp) pos::rest) ρ Q:=by
 obtain⟨f,fd,ps,h1,h2,h3⟩:=Df.ex
 refine sd_seq (N:=fun _=>False) (PS.mono (ps_expr (pe_meth ho hc h2 h1 hr h3 .nil hx ha hst hpl ht) hsw) fun Q' σ H z0=>el33 z0 fun hv hρ A hl S f=>⟨_,vz_open S true false,S.env hl true false,fun v H1 s1 i1=>?_⟩) fun _ n=>n.elim
 obtain⟨a,xs,rfl,⟨g1,dx,g2⟩,g3,g4⟩:=inT_agg.mp i1
 refine⟨a,dx,_,rfl,g2,g4.nolook hm,_,(vz_open S true false).same s1,(S.env hl true false).same s1,fun vs H2 s2 i2=>?_⟩
 show spAX X.K R (.ref a::(vs++[])) H2 _ Ex
 rw[append_nil]
 exact⟨_,_,c,(vz_open S true false).same (s1.trans s2),inTs_cons.mpr ⟨_,_,rfl,i1.same s2,i2⟩,h,fun H' s'=>hE H' (S.same.trans ((s1.trans s2).trans s'))⟩
theorem exA_call(Df:DefAX X.prog X.w X.K X.mg X.base k x R)(hno:∀e s,¬X.xe e s)(hr:Room k X.A)(ha:EAT X rv (e::es) ds)(h:R ds c)(hg:Gl X x:=by rfl)(hdb:(x==("__debug__":Str))=false:=by decide)
 (he:starEach (e::es) X.env=(false,eval e X.env)::starEach es X.env:=by rfl)(hpl:(backTo pos (starEach es X.env)).any (·.1)=false:=by rfl):EX X m rv (.Call (.Name x p) (e::es) [] pos) (.error ⟨c,none⟩):=by
 intro pins s σ H Q Ex I ⟨Z,oz,en,kq⟩
 obtain⟨f,fd,ps,a,b,cc,dd⟩:=Df.ex
 refine wp_callX hno a hr hg b cc dd ha I ⟨Z,oz,en,fun vs H1 s1 i1=>?_⟩ (fun H1 s1 e s' I1 hq=>⟨H1,s1,I1,hq⟩) hdb he hpl
 show spAX X.K R (vs++[]) H1 Q Ex
 rw[append_nil]
 exact⟨Z,ds,c,oz.same s1,i1,h,fun H' s'=>(show∀H',Same H H'->Ex (.ref c) none H' from kq) H' (s1.trans s')⟩
theorem sd_tryOk{st:Stmt}{h0:ExceptHandler}(hno:∀e s,¬X.xe e s)(h:SD X F [st] ρ {Q with nx:=fun r=>SD X F rest r Q}):SD X F (.Try [st] [h0] [] [] pos::rest) ρ Q:=by
 refine sd_seq (N:=fun r=>SD X F rest r Q) ?_ fun _ h=>h
 intro pins s σ H D I t
 refine wpAny_Try_except (wpAny_mono (h pins s σ H D I t) (fun fl s1 q=>?_) fun e s z=>(hno e s z).elim)
 cases fl with
 |next=>exact wpAny_execs_nil q
 |brk=>exact q
 |cont=>exact q
 |ret u=>exact q
end
section
variable{X:Cx}{ρ:List (Option D)}{m m1 m2:Bool}{a b:Expr}{ds es:List D}{d:D}{p pos:Pos}{i:Nat}{e:Addr}
theorem xw_catT(ha:E X m1 ρ a (.tup ds))(hb:XW X i e m2 ρ b (.tup es))(n1:ds≠[])(n2:es≠[])(hz:ds.length+es.length<=1000)(hf:flats ds=true/\flats es=true:=by exact⟨rfl,rfl⟩):XW X i e m ρ (.BinOp a .Add b pos) (.tup (ds++es)):=
 PE.mono (pe_op op_catU ha hb) fun σ H Q ⟨he,Z,oz,en,k⟩=>⟨Z,oz,en,fun x H1 s1 i1=>⟨he,Z,oz.same s1,en.same s1,fun y H2 s2 i2=>by
  have s:=s1.trans s2
  obtain⟨p,xs,rfl,lq,j⟩:=in_tup.mp (In.same s2 (i1.plain oz))
  obtain⟨p',ys,rfl,lq',j'⟩:=in_tup.mp (i2.plain (oz.same s1))
  have l1:=j.length
  have l2:=j'.length
  refine⟨p,p',xs,ys,rfl,rfl,.inl (.inl lq),.inl (.inl lq'),fun z=>n1 (List.eq_nil_of_length_eq_zero (by rw[l1,z];rfl)),fun z=>n2 (List.eq_nil_of_length_eq_zero (by rw[l2,z];rfl)),Nat.le_trans (by omega) (Nat.le_of_lt (small1000 (Nat.le_refl _))),fun q hq=>k (.ref q) _ (s.trans (same_new hq)) ?_⟩
  refine In.outflat (flats_all fun d hd=>?_) (in_tup.mpr ⟨q,_,rfl,upd_same,(j.append j').same (same_new hq)⟩:In X.K (upd H2 q (.tup (xs++ys))) Z (.tup (ds++es)) (.ref q))
  rcases mem_append.mp hd with hd|hd
  . exact flats_mem hf.1 d hd
  . exact flats_mem hf.2 d hd⟩⟩
end
structure DefBD(P:Program)(w:World)(K:PySem.W.Frag)(mg:Str->Option Value)(base:Heap)(k:Nat)(C:Addr)(x:Str)(G:Obf->List D->Obf->D->Prop):Prop where
 ex:∃f fd ps,FnOk P w K mg base CX0 k f fd ps (spB K C G)/\mg x=some (.ref f)/\keepIn K (.ref f)=true/\Binds K fd ps []
section
variable{X:Cx}{F:Fn}{ρ:Rho}{Q:EndD}{rest rb:List Stmt}{e ce b:Expr}{es:List Expr}{ds:List D}{pos p py cp ap np:Pos}{C:Addr}{fs fs':Obf}{o:Option Addr}{k:Nat}{m y x:Str}{G:Obf->List D->Obf->D->Prop}{rv:List (Option D)}{i:Nat}{d d':D}{m2:Bool}
theorem pe_cb(Df:DefBD X.prog X.w X.K X.mg X.base k C x G)(hr:Room k X.A)(ha:EA X rv es ds)(hg:Gl X x:=by rfl)(hdb:(x==("__debug__":Str))=false:=by decide)
 (hN:X.N[i]? =some y:=by rfl)(hv:Vis X.env.scope y:=by first|exact Or.inl rfl|exact Or.inr (Or.inl rfl)|exact Or.inr (Or.inr rfl))(hd:(y==("__debug__":Str))=false:=by decide)(hcd:(y==("__classdict__":Str))=false:=by decide)
 (hst:starEach (.Name y py::es) X.env=(false,eval (.Name y py) X.env)::starEach es X.env:=by rfl)(hpl:(backTo cp (starEach es X.env)).any (·.1)=false:=by rfl):
 PE X (.Call (.Name x p) (.Name y py::es) [] cp) (tMB X.K C m G i rv ds):=by
 obtain⟨f,fd,ps,h1,h2,h3,h4⟩:=Df.ex
 refine PE.mono (pe_call h1 hr hg h2 h3 h4 .nil pass0 (pa_cons (pe_var hN hv hd hcd) ha hst) hdb hst hpl) fun σ H Q ⟨b,dx,fs,e1,e2,e3,Z,oz,en,kq⟩=>⟨.ref b,e1,Z,oz,en,fun vs H1 s1 i1=>?_⟩
 show spB X.K C G ((.ref b::vs)++[]) H1 Q E0
 rw[append_nil]
 exact kq vs H1 s1 i1
theorem sd_ifB(i:Nat)(hp:PE X ce (tMB X.K C m G i (view false false ρ) ds))(h:ρ[i]? =some (some (.gen (obS o C fs))))(hm:fs.lookup m=none)(g:G fs ds fs' d)(hb:E X m2 (view true false (ρ.set i (some (.gen (obS o C fs'))))) b d')(hpd:pairD d d'=true)(hu:X.A.units+d.dep<cLine)(hq:deq d d'=true)
 (hr:SD X F rest (ρ.set i (some (.gen (obS o C fs')))) Q):SD X F (.If (.Compare ce [.NotEq] [b] cp) rb [] pos::rest) ρ Q:=by
 refine sd_then (PS.mono (ps_if (pt_cmpR op_neD hp hb (nomark _)) (pss_never (sts:=rb)) pss_nil) ?_) hr
 rintro Q' σ H ⟨hv,hρ,A,hl,S,ff⟩
 obtain⟨b,dx,ps,e0,rfl,e1,e2,e3,e4⟩:=S.ob hl h
 have hi:i<σ.length:=(List.getElem?_eq_some_iff.mp e1).1
 refine⟨b,dx,_,e1,e3,nolook hm,_,vz_open S false false,S.env hl false false,fun vs H1 s1 i1=>?_⟩
 refine⟨_,vs,b,dx,ps,ds,fs',d,rfl,(vz_open S false false).same s1,i1,s1.at e3,by rw[<-e2];exact S.nd i,fun a ha z=>z.2 ⟨i,by rw[e2];exact ha⟩,fun q hq=>AS.carry (e4 q hq) (fun m e=>s1.at e m.nt) (.same s1),g,fun H' dx' ps' rs v h1 sm h2 nd ha hq' iv=>?_⟩
 subst h1
 have key:=call_back (l2:=[]) S e2 s1 (by omega) hi sm h2 nd ha (fun a z=>by cases z) List.nodup_nil (.gen (obS o C (psF ps'))) ⟨b,dx',ps',e0,rfl,append_nil _,rfl,h2,fun q hq0=>AS.carry (hq' q hq0) (fun _ e=>e) (call_zone S e2 s1 fun a h=>by
  rw[append_nil]at h
  have h':=List.mem_append_left rs h
  exact⟨(ha a h').1,h'⟩)⟩
 rw[set_self (by rw[getElem?_append_left hi];exact e1),set_app (by omega)]at key
 have hl':σ.length=(ρ.set i (some (Slot.gen (obS o C (psF ps'))))).length:=by simp[hl]
 refine⟨_,vz_open key true false,key.env hl' true false,fun y H2 s2 i2=>⟨d,d',_,_,iv.same s2,i2,hpd,hu,_,rfl,?_⟩⟩
 rw[hq]
 exact iteF (ff.nx _ _ ⟨_,_,hl',key.grow s2,rfl⟩)
end
section
variable{X:Cx}{F:Fn}{ρ:Rho}{rest:List Stmt}{e:Expr}{pos:Pos}{m1:Bool}{b C:Addr}{fs':Obf}
theorem sd_retBf{N:Rho->Prop}{d:D}(h:ρ[0]? =some (some (.gen (obS (some b) C fs'))))(he:E X m1 (view true false ρ) e d)(fl:d.flat=true:=by rfl):SD X F (.Return (some e) pos::rest) ρ {endB X.K F b C fs' d with nx:=N}:=
 sd_seq (N:=fun _=>False) (PS.mono (ps_ret he) fun Q' σ H z0=>el33 z0 fun hv hρ A hl S f=>⟨_,vz_open S true false,S.env hl true false,fun v H1 s1 i1=>by
  obtain⟨b',dx,ps,e0,e1,e2,e3,e4,e5⟩:=S.ob hl h
  cases e0 b rfl
  refine f.rtS σ H1 ρ A v hl (S.grow s1) ⟨dx,ps,[],e1,e3,s1.at e4,fun q hq=>?_,List.nodup_nil,fun a ha=>?_,In.flat' fl i1⟩
  . exact AS.carry (e5 q hq) (fun m e=>s1.at e m.nt) ⟨fun a m q z=>⟨s1.at q m.nt,z.1,fun w=>z.2 ⟨0,by simpa using w⟩⟩,fun m=>⟨m,fun _ _ q=>q.same s1⟩,fun _ _ q=>s1.at q⟩
  . simp at ha⟩) fun _ n=>n.elim
end
def spZ2(K:PySem.W.Frag)(G:List D->D->Prop):Sp:=fun vs H Q _=>∃(Z:Zone) (d0 d:D) (v0:V) (a:Addr) (ks:List Key) (rs:List D) (xs:List V),vs=[v0,.ref a]/\Z.Open H/\ ¬Z.S a/\InT K H Z d0 v0/\ks.length=xs.length/\H a=some (.dK (ks.zip xs))/\InTs K H Z rs xs/\
 (∀b,G [d0,.agg (.f b ks) rs] d)/\ ∀v H',Same H H'->In K H' (nw H) d v->Q v H'
theorem thaw2{K:PySem.W.Frag}{G:List D->D->Prop}(vs:List V)(H:Hp)(Q:VK)(E:XK)(hs:spZ2 K G vs H Q E):
 ∃d kvs,H d=some (.dK kvs)/\ ∀o,spAg K true G vs (upd H d (.frz o (.dK kvs))) (fun v H'=>Q v (upd H' d (.dK kvs))) E:=by
 obtain⟨Z,d0,d,v0,a,ks,rs,xs,rfl,oz,nz,i0,hl,ha,ix,g,kk⟩:=hs
 refine⟨a,_,ha,fun o=>?_⟩
 have ne:∀{b:Addr} {u:HO},H b=some u->(∀kvs,u≠ .dK kvs)->b≠a:=fun{b u} q n z=>by rw[z,ha]at q;exact n _ (Option.some.inj q).symm
 have none_iff:∀{b:Addr},upd H a (.frz o (.dK (ks.zip xs))) b=none->H b=none/\b≠a:=fun{b} q=>by
  by_cases z:b=a
  . rw[z,upd_same]at q;cases q
  . rw[upd_ne z]at q;exact⟨q,z⟩
 have cz:Carry K H Z (upd H a (.frz o (.dK (ks.zip xs)))) ⟨Z.m,fun b=>Z.S b\/b=a⟩:=by
  refine⟨fun b m q z=>⟨by rw[upd_ne fun w=>nz (by rw[<-w];exact z)];exact q,.inl z⟩,fun m=>⟨m,fun b zs q=>?_⟩,fun b zs q=>by rw[upd_ne (ne q (by intro _ z;cases z))];exact q⟩
  rcases q with⟨u,q⟩|q
  . exact .inl ⟨u,by rw[upd_ne (ne q (by intro _ z;cases z))];exact q⟩
  . exact .inr q
 refine⟨⟨Z.m,fun b=>Z.S b\/b=a⟩,[d0,.agg (.f o ks) rs],d,⟨fun b q=>.inl (oz.op b (none_iff q).1),oz.tb.upd (.inr ⟨.d (.k _),ha⟩)⟩,inTs_cons.mpr ⟨_,_,rfl,i0.carry cz,inTs_cons.mpr ⟨_,_,rfl,inT_agg.mpr ⟨a,xs,rfl,⟨hl,upd_same⟩,.inr rfl,ix.carry cz⟩,inTs_nil.mpr rfl⟩⟩,g o,fun v H' sm iv'=>?_⟩
 have ha':H' a=some (.frz o (.dK (ks.zip xs))):=sm.at upd_same
 refine kk v _ ⟨fun b u e n=>?_,fun b ps e=>?_,fun t=>?_⟩ ?_
 . by_cases z:b=a
   . subst z;rw[ha]at e;cases e;exact upd_same
   . rw[upd_ne z];exact sm.get b u (by rw[upd_ne z];exact e) n
 . have z:b≠a:=ne e (by intro _ z;cases z)
   rw[upd_ne z];exact sm.tbl b ps (by rw[upd_ne z];exact e)
 . exact(sm.tabs (t.upd (.inr ⟨.d (.k _),ha⟩))).upd (.inr ⟨.d (.f o _),ha'⟩)
 . refine In.carry (Z:=nw (upd H a (.frz o (.dK (ks.zip xs))))) ⟨fun b m q z=>?_,fun m=>nwF m,fun b zs q=>?_⟩ iv'
   . have zz:=none_iff (show upd H a (.frz o (.dK (ks.zip xs))) b=none from z)
     exact⟨by rw[upd_ne zz.2];exact q,zz.1⟩
   . rw[upd_ne fun z=>by rw[z,ha']at q;cases q];exact q
section
variable{X:Cx}{F:Fn}{ρ:Rho}{Q:EndD}{rest rb:List Stmt}{pos p p1 p2 cp np:Pos}{C:Addr}{fs:Obf}{o:Option Addr}{k:Nat}{y1 y2 x:Str}{G:List D->D->Prop}{ks:List Key}{rs:List D}
theorem sd_ifFz(i j:Nat)(hij:i≠j)(Df:DefA X.prog X.w X.K X.mg X.base k x true G)(hr0:Room k X.A)(h1:ρ[i]? =some (some (.gen (obS o C fs))))(h2:ρ[j]? =some (some (.gen (oaS false (.k ks) rs))))(g:∀b,G [obD C fs,.agg (.f b ks) rs] (.bl true))(hr:SD X F rest ρ Q)
 (hg:Gl X x:=by rfl)(hdb:(x==("__debug__":Str))=false:=by decide)
 (hN1:X.N[i]? =some y1:=by rfl)(hv1:Vis X.env.scope y1:=by first|exact Or.inl rfl|exact Or.inr (Or.inl rfl)|exact Or.inr (Or.inr rfl))(hd1:(y1==("__debug__":Str))=false:=by decide)(hcd1:(y1==("__classdict__":Str))=false:=by decide)
 (hN2:X.N[j]? =some y2:=by rfl)(hv2:Vis X.env.scope y2:=by first|exact Or.inl rfl|exact Or.inr (Or.inl rfl)|exact Or.inr (Or.inr rfl))(hd2:(y2==("__debug__":Str))=false:=by decide)(hcd2:(y2==("__classdict__":Str))=false:=by decide)
 (hs1:starEach [.Name y1 p1,.Name y2 p2] X.env=(false,eval (.Name y1 p1) X.env)::starEach [.Name y2 p2] X.env:=by rfl)(hs2:starEach [.Name y2 p2] X.env=(false,eval (.Name y2 p2) X.env)::starEach [] X.env:=by rfl)(hpl:(backTo cp (starEach [.Name y2 p2] X.env)).any (·.1)=false:=by rfl)
 (he:∀whole,isTrue (.Call (.Name x p) [.Name y1 p1,.Name y2 p2] [] cp) X.env whole=(do let v<-whole;standAt (Expr.Call (.Name x p) [.Name y1 p1,.Name y2 p2] [] cp).pos;holding [v] (truthy v)):=by intro _;rfl):
 SD X F (.If (.UnaryOp .Not (.Call (.Name x p) [.Name y1 p1,.Name y2 p2] [] cp) np) rb [] pos::rest) ρ Q:=by
 obtain⟨f,fd,ps,a1,a2,a3,a4⟩:=Df.ex
 refine sd_then (PS.mono (ps_if (pt_not (pt_val (pe_call (FnOk.frozen a1 thaw2) hr0 hg a2 a3 a4 .nil pass0 (pa_cons (pe_var hN1 hv1 hd1 hcd1) (pa_cons (pe_var hN2 hv2 hd2 hcd2) pa_nil hs2) hs1) hdb hs1 hpl) he)) (pss_never (sts:=rb)) pss_nil) ?_) hr
 rintro Q' σ H ⟨hv,hρ,A,hl,S,ff⟩
 obtain⟨b,dx,qs,e0,rfl,e1,e2,e3,e4⟩:=S.ob hl h1
 obtain⟨l,xs,u1,u2,u3,u4⟩:=S.oa hl h2
 refine⟨.ref b,e1,.ref l,u1,?_⟩
 have own:∀a∈b::psA qs,(zI F A [i]).S a:=fun a ha=>.inr ⟨i,by simp,by rw[e2];exact ha⟩
 refine⟨zI F A [i],obD C (psF qs),.bl true,.ref b,l,ks,rs,xs,rfl,⟨fun a q=>.inl ((zn_open S false).op a q),S.same.tabs S.opn.tb⟩,fun z=>?_,inT_agg.mpr ⟨b,(psA qs).map V.ref,rfl,⟨by simp[psF,psA],dx,by rw[<-psV_zip];exact e3⟩,own b (by simp),parts_inT zI_carry fun r hr=>⟨e4 r hr,own _ (mem_cons_of_mem _ (mem_map.mpr ⟨r,hr,rfl⟩))⟩⟩,u3.1,u3.2,u4.carry zI_carry,g,fun v H' sm iv=>?_⟩
 . rcases z with z|⟨i',hi,z⟩
   . exact z.2 ⟨j,by rw[u2];simp⟩
   . rw[List.mem_singleton.mp hi]at z
     exact hij (S.one i j l z (by rw[u2];simp))
 . exact⟨true,in_bl.mp iv,iteF (ff.nx _ _ ⟨ρ,A,hl,S.grow sm,rfl⟩)⟩
end
section
variable{X:Cx}{ρ:List (Option D)}{m1:Bool}{a b:Expr}{dk:D}{s:Sh}{ds:List D}{pos:Pos}
theorem e_gin{j:Option Nat}(ha:E X m1 ρ a dk)(hb:EG X ρ b (.agg s ds))(hk:s.key dk j)(hu:X.A.units+1<cLine)(hm:behindInMarks .In b=false:=by rfl):E X true ρ (.Compare a [.In] [b] pos) (.bl j.isSome):=
 PE.mono (pe_cmp (pc_din hu ha hb) hm) fun σ H Q z0=>el13 z0 fun Z oz en k=>⟨Z,oz,en,fun y H1 s1 i1=>⟨Z,oz.same s1,en.same s1,fun x H2 s2 i2=>by
  obtain⟨a,r,rfl,g,_,hr⟩:=gget i2 ((i1.plain oz).same s2) hk
  exact⟨a,r,rfl,g,hr▸k _ H2 (s1.trans s2) (in_bl.mpr rfl)⟩⟩⟩
end
theorem t_eqB{X:Cx}{ρ:List (Option D)}{m1 m2:Bool}{a b:Expr}{pos:Pos}{i j:Bool}(ha:E X m1 ρ a (.bl i))(hb:E X m2 ρ b (.bl j)):T X ρ (.Compare a [.Eq] [b] pos) (decide (i=j)):=
 t_cmp op_eq ha hb (fun x y H Z Q _ i1 i2 k=>by rw[in_bl.mp i1,in_bl.mp i2];exact⟨rfl,by simpa using k _ (Same.refl H)⟩) (nomark _)
theorem wordsS_first{sg:Str}{one other:Int}:∃y,(wordsS sg one other)[0]? =some y/\ ∀x∈wordsS sg one other,x.length<=y.length:=by
 have hp:=sizeB_pos one
 unfold wordsS
 split
 . refine⟨_,rfl,fun x h=>?_⟩
   obtain⟨k,hk,rfl⟩:=mem_map.mp h
   have hk:k<5:=by simpa using hk
   have h1:=Txt.slice_le (wordS sg one other 0 (sizeB one).toNat) none (some (sizeB one-((k:Nat):Int)))
   have e:=congrArg List.length (cl_slice_to (wordS sg one other 0 (sizeB one).toNat) (j:=sizeB one-(((0:Nat):Nat):Int)) (by omega) (by rw[cl_len,wordS_len];omega))
   rw[length_take,cl_len,cl_len,wordS_len]at e
   rw[wordS_len]at h1
   simp only[]at*
   omega
 . refine⟨_,rfl,fun x h=>?_⟩
   obtain⟨k,hk,rfl⟩:=mem_map.mp h
   rw[wordS_len,wordS_len]
   exact Nat.le_refl _
theorem way_at(c:Int):∃way:Str,atI ([.str "put",.str "put",.str "take",.str "rows"]:List D) (part c 8 4)=some (.str way)/\(way="put"\/way="take"\/way="rows"):=by
 have p0:=part_nn c 8 (show(0:Int)<4 by decide)
 have p1:=part_lt c 8 (show(0:Int)<4 by decide)
 generalize part c 8 4=m at*
 have:m=0\/m=1\/m=2\/m=3:=by omega
 rcases this with rfl|rfl|rfl|rfl
 . exact⟨"put",rfl,.inl rfl⟩
 . exact⟨"put",rfl,.inl rfl⟩
 . exact⟨"take",rfl,.inr (.inl rfl)⟩
 . exact⟨"rows",rfl,.inr (.inr rfl)⟩
end Y
namespace Z
open PySem PySem.Spec PyProof.Rows L2 Y
section
variable[Tabs]
def top(i:Nat):Stmt:=PySem.Challenge.pw_besidewords_k62_twice_and_no_text.main.body.getD i (.Pass ⟨0,0,0,0⟩)
abbrev s_all_places:Stmt:=top 2
abbrev s_end_of:Stmt:=top 3
abbrev s_order_of:Stmt:=top 4
abbrev s_ends:Stmt:=top 5
abbrev s_rows_of:Stmt:=top 9
abbrev s_words_in:Stmt:=top 10
abbrev s_law_cell_at:Stmt:=top 21
abbrev s_law_part:Stmt:=top 22
abbrev s_law_alike:Stmt:=top 23
abbrev s_law_words:Stmt:=top 24
abbrev s_law_names:Stmt:=top 25
abbrev s_law_rows:Stmt:=top 26
abbrev s_law_text:Stmt:=top 27
abbrev s_law_sorted:Stmt:=top 28
abbrev s_law_done:Stmt:=top 31
abbrev s_law_refused:Stmt:=top 32
abbrev s_law_due:Stmt:=top 33
abbrev s_law_stands:Stmt:=top 34
abbrev s_law:Stmt:=top 35
abbrev s_Book___init:Stmt:=inClass (top 19) 0
abbrev s_Book_arrange:Stmt:=inClass (top 19) 1
abbrev s_Book_put:Stmt:=inClass (top 19) 2
abbrev s_Book_take:Stmt:=inClass (top 19) 3
abbrev s_Book_names:Stmt:=inClass (top 19) 4
abbrev s_Book_rows:Stmt:=inClass (top 19) 5
abbrev s_Book_ends:Stmt:=inClass (top 19) 6
abbrev s_Book_want:Stmt:=inClass (top 19) 10
abbrev s_Book_numbers_of:Stmt:=inClass (top 19) 11
abbrev s_Book_in_book:Stmt:=inClass (top 19) 12
theorem fs{N P:List Str}{c:Scope}(a:c.kind=.function:=by rfl)(b:c.isCoroutine=false:=by rfl)(d:c.isGenerator=false:=by rfl)(e:N.Nodup:=by decide+kernel)(f:N.take P.length=P:=by rfl)(g:∀x∈P,c.names.lookup x=some .local\/c.names.lookup x=some .cell:=by decide+kernel)(h:∀y∈c.names,y.2≠ .free:=by decide+kernel):FnScope N P c:=⟨a,b,d,e,f,g,h⟩
theorem sc_Book___init:FnScope ["self"] ["self"] (defScope s_Book___init):=fs
theorem sc_Book_arrange:FnScope ["self","name","row","words"] ["self"] (defScope s_Book_arrange):=fs
theorem sc_Book_put:FnScope ["self","name","text"] ["self","name","text"] (defScope s_Book_put):=fs
theorem sc_Book_take:FnScope ["self","name","numbers"] ["self","name"] (defScope s_Book_take):=fs
theorem sc_Book_names:FnScope ["self"] ["self"] (defScope s_Book_names):=fs
theorem sc_Book_rows:FnScope ["self","name"] ["self","name"] (defScope s_Book_rows):=fs
theorem sc_Book_ends:FnScope ["self"] ["self"] (defScope s_Book_ends):=fs
theorem sc_Book_want:FnScope ["self","name"] ["self","name"] (defScope s_Book_want):=fs
theorem sc_Book_numbers_of:FnScope ["self","name"] ["self","name"] (defScope s_Book_numbers_of):=fs
theorem sc_Book_in_book:FnScope ["self","tuples"] ["self","tuples"] (defScope s_Book_in_book):=fs
theorem sc_all_places:FnScope ["rows","places","row","words","at"] ["rows"] (defScope s_all_places):=fs
theorem sc_end_of:FnScope ["rows","place"] ["rows","place"] (defScope s_end_of):=fs
theorem sc_order_of:FnScope ["rows","place"] ["rows","place"] (defScope s_order_of):=fs
theorem sc_ends:FnScope ["rows"] ["rows"] (defScope s_ends):=fs
theorem sc_rows_of:FnScope ["text","rows"] ["text"] (defScope s_rows_of):=fs
theorem sc_words_in:FnScope ["part","parted"] ["part"] (defScope s_words_in):=fs
theorem sc_law_cell_at:FnScope ["_law_script","_law_k"] ["_law_script","_law_k"] (defScope s_law_cell_at):=fs
theorem sc_law_part:FnScope ["_law_cell","_law_k","_law_many"] ["_law_cell","_law_k","_law_many"] (defScope s_law_part):=fs
theorem sc_law_alike:FnScope ["_law_one","_law_other","_law_signs","_law_size","_law_at","_law_words_here","_law_k","_law_word","_law_j","_law_number"] ["_law_one","_law_other","_law_signs"] (defScope s_law_alike):=fs
theorem sc_law_words:FnScope ["_law_one","_law_other"] ["_law_one","_law_other"] (defScope s_law_words):=fs
theorem sc_law_names:FnScope ["_law_one","_law_other"] ["_law_one","_law_other"] (defScope s_law_names):=fs
theorem sc_law_rows:FnScope ["_law_words_here","_law_cell","_law_many","_law_rows_here","_law_k","_law_number"] ["_law_words_here","_law_cell","_law_many"] (defScope s_law_rows):=fs
theorem sc_law_text:FnScope ["_law_rows_here","_law_cell","_law_gap","_law_lines"] ["_law_rows_here","_law_cell"] (defScope s_law_text):=fs
theorem sc_law_sorted:FnScope ["_law_texts","_law_places","_law_name","_law_row","_law_at"] ["_law_texts"] (defScope s_law_sorted):=fs
theorem sc_law_done:FnScope ["_law_book","_law_way","_law_name","_law_text_here"] ["_law_book","_law_way","_law_name","_law_text_here"] (defScope s_law_done):=fs
theorem sc_law_refused:FnScope ["_law_book","_law_way","_law_name","_law_text_here","_law_told","e"] ["_law_book","_law_way","_law_name","_law_text_here"] (defScope s_law_refused):=fs
theorem sc_law_due:FnScope ["_law_way"] ["_law_way"] (defScope s_law_due):=fs
theorem sc_law_stands:FnScope ["_law_book","_law_texts","_law_name"] ["_law_book","_law_texts"] (defScope s_law_stands):=fs
theorem sc_law:FnScope ["_law_script","_law_words_here","_law_names_here","_law_book","_law_texts","_law_cell","_law_name","_law_way","_law_rows_here","_law_text_here","_law_k"] ["_law_script"] (defScope s_law):=fs
abbrev pPart:List Str:=["_law_cell","_law_k","_law_many"]
structure Blt(mg:Str->Option Value):Prop where
 ValueError:mg "ValueError"=none
 bool:mg "bool"=none
 enumerate:mg "enumerate"=none
 int:mg "int"=none
 isinstance:mg "isinstance"=none
 len:mg "len"=none
 list:mg "list"=none
 range:mg "range"=none
 sorted:mg "sorted"=none
 WORD_SIGNS:∃t,mg "WORD_SIGNS"=some (.str "abcdefghijklmnopqrstuvwxyz0123456789" t)
section
variable{P:Program}{w:World}{K:PySem.W.Frag}{mg:Str->Option Value}{base:Heap}{f:Addr}{fd:FuncData}
theorem ok_law_cell_at(Fx:Fun K "_law_cell_at" "_law_cell_at" s_law_cell_at f fd)(hmg:mg "_law_cell_at"=some (.ref f))(hb:Binds K fd ["_law_script","_law_k"] [])(B:Blt mg):Def P w K mg base 1 "_law_cell_at" true gCellAt:=by
 refine def_of Fx sc_law_cell_at hmg hb (by rintro ds d ⟨ns,k,hz,e1,e2⟩;subst e1;rfl) ?_
 rintro cdv A outer s H Ex Z ds d hr ⟨ns,k,hz,e1,e2⟩
 subst e1 e2
 refine sd_if (t_ltI (e_var 1) (e_lenL (e_var 0) B.len)) (fun h=>?_) (fun h=>?_)
 . refine sd_ret false (m1:=true) (E.flat (e_ixL (d:=.int (cellAt ns k)) (e_var 0) (e_var 1) ?_) rfl) rfl
   simp at h
   refine atI_nat ?_
   simp[cellAt,h]
 . refine sd_nil ?_
   refine sd_ret false (E.cast e_int ?_) rfl
   simp at h
   simp[cellAt,h]
theorem ok_law_part(Fx:Fun K "_law_part" "_law_part" s_law_part f fd)(hmg:mg "_law_part"=some (.ref f))(hb:Binds K fd pPart [])(B:Blt mg):Def P w K mg base 1 "_law_part" true gPart:=by
 refine def_of Fx sc_law_part hmg hb (by rintro ds d ⟨c,k,m,hm,e1,e2⟩;subst e1;rfl) ?_
 rintro cdv A outer s H Ex Z ds d hr ⟨c,k,m,hm,e1,e2⟩
 subst e1 e2
 have h1:=Int.emod_nonneg c (show(99991:Int)≠0 by decide)
 have h2:=Int.emod_lt_of_pos c (show(0:Int)<99991 by decide)
 have h3:=Int.emod_nonneg ((c%99991+17)*(48271+7919*k)) (show(65537:Int)≠0 by decide)
 have h4:=Int.emod_lt_of_pos ((c%99991+17)*(48271+7919*k)) (show(0:Int)<65537 by decide)
 exact sd_ret false (e_mod (e_mod (e_mul (e_mod (e_mul (e_add (e_mod (e_var 0) e_int (by decide)) e_int) (e_add e_int (e_mul e_int (e_var 1) (.inl ⟨by decide,by decide⟩))) (.inl ⟨by omega,by omega⟩)) e_int (by decide)) (e_add (e_var 1) e_int) (.inl ⟨by omega,by omega⟩)) e_int (by decide)) (e_var 2) hm) rfl
theorem ok_words_in(Fx:Fun K "words_in" "words_in" s_words_in f fd)(hmg:mg "words_in"=some (.ref f))(hb:Binds K fd ["part"] [])(B:Blt mg):Def P w K mg base 1 "words_in" true gWordsIn:=by
 refine def_of Fx sc_words_in hmg hb (by rintro ds d ⟨z,h1,h2,e1,e2⟩;subst e1;rfl) ?_
 rintro cdv A outer s H Ex Z ds d hr ⟨z,h1,h2,e1,e2⟩
 subst e1 e2
 have nd:=sc_words_in.nd
 obtain⟨t,hW⟩:=B.WORD_SIGNS
 have hl:=lower_len h2
 have hcl:(cl (Txt.lower z)).length<=2000:=by rw[cl_len,hl];exact h1
 refine sd_setF 1 (d:=.str (Txt.join "" ((cl (Txt.lower z)).map fun c=>if sgB c then(⟨#[c]⟩:Str)else" "))) (e_join e_str (zs:=(cl (Txt.lower z)).map fun c=>if sgB c then(⟨#[c]⟩:Str)else" ") (E.cast
  (e_map (m:=true) (me:=true) [] [] (fun d=>match d with|.str x=>.str (if(!(Builtin.Str.occurrences W36 x 0 W36.length 1).isEmpty)then x else" ")|d=>d) (it_str (m:=true) (e_lower (e_var 0) (by omega)))
   (fun C s H fp d hd=>?_) (by simp[signsD];exact smallN (Nat.le_trans (by simpa[cl]using hcl) (by decide)))) ?_) (by decide) ?_) rfl ?_ nd
 . obtain⟨c,_,rfl⟩:=mem_map.mp hd
   refine e_ifExp (t_inS (e_var 0) (e_gstr hW)) (fun h=>?_) (fun h=>?_)
   . refine E.flat (E.cast (e_var 0) ?_) rfl
     have h':(!(Builtin.Str.occurrences W36 ⟨#[c]⟩ 0 W36.length 1).isEmpty)=true:=h
     simp[h']
   . refine E.cast e_str ?_
     have h':(!(Builtin.Str.occurrences W36 ⟨#[c]⟩ 0 W36.length 1).isEmpty)=false:=h
     simp[h']
 . rw[signsD,map_map,map_map]
   congr 1
   apply map_congr_left
   intro c _
   simp only[Function.comp,inW36]
 . have e:(((cl (Txt.lower z)).map fun c=>if sgB c then(⟨#[c]⟩:Str)else" ").map (·.length)).sum=(cl (Txt.lower z)).length:=by
    rw[map_map]
    refine sum_ones _ _ fun c=>?_
    simp only[Function.comp]
    split<;>rfl
   rw[e,length_map];omega
 . have hlen:(Txt.join "" ((cl (Txt.lower z)).map fun c=>if sgB c then(⟨#[c]⟩:Str)else" ")).length<=2000:=by
    rw[<-cl_len,joinP,length_map];exact hcl
   refine sd_ret true (e_split0 (e_var 1) (smallN (Nat.le_trans hlen (by decide))) (smallL1 (words_len _) (by omega))) rfl
theorem ok_rows_of(Fx:Fun K "rows_of" "rows_of" s_rows_of f fd)(hmg:mg "rows_of"=some (.ref f))(hb:Binds K fd ["text"] [])(B:Blt mg)(dW:Def P w K mg base 1 "words_in" true gWordsIn):Def P w K mg base 2 "rows_of" true gRowsOf:=by
 refine def_of Fx sc_rows_of hmg hb (by rintro ds d ⟨z,h1,h2,e1,e2⟩;subst e1;rfl) ?_
 rintro cdv A outer s H Ex Z ds d hr ⟨z,h1,h2,e1,e2⟩
 subst e1 e2
 have nd:=sc_rows_of.nd
 have hsp:=split_nl_len z
 refine sd_setCN 1 (d:=rowsD ((Txt.split z "\n").map wordsInS)) (EC.cast (ec_map (m:=true) (me:=true) [] [] (fun d=>match d with|.str x=>strsD (wordsInS x)|d=>d) (it_list (e_split1 (e_var 0) e_str rfl (smallN (by omega)) (smallL1 (parts_len z "\n") (by omega))))
  (fun C s H fp d hd=>?_) (by rw[length_map];exact smallN (by omega))) (by simp[rowsD,Function.comp_def])) ?_ nd
 . obtain⟨x,hx,rfl⟩:=mem_map.mp hd
   have hp:=split_nl hx
   refine e_call dW hr (ea_one (e_var 0)) ⟨x,?_,fun c hc=>h2 c (cutAt_sub hp hc),rfl,rfl⟩
   have:=cutAt_part_len 10 (cl z) _ hp
   rw[cl_len,cl_len]at this
   omega
 . refine sd_ret true (E.cast (e_comp (m:=false) (me:=false) [] [] (fun d=> !deq d (.lst [])) (fun d=>d) (it_list (e_var 1)) (fun C s H fp d hd=>?_) (fun C s H fp d hd _=>e_var 0 (hn:=by obtain⟨r,_,rfl⟩:=mem_map.mp hd;rfl)) (by rw[length_map,length_map];exact smallN (by omega))) ?_) rfl
   . obtain⟨r,_,rfl⟩:=mem_map.mp hd
     exact ts_one (t_neD (e_var 0) (e_lst ea_nil) rfl (roomD hr (dep_strs _)))
   . simp only[List.map_id']
     unfold rowsD rowsOfS
     rw[filter_map]
     congr 2
     apply List.filter_congr
     intro r _
     have:=told_strs r []
     simp only[Function.comp]
     rw[show(D.lst []:D)=strsD []from rfl,this]
theorem ok_end_of(Fx:Fun K "end_of" "end_of" s_end_of f fd)(hmg:mg "end_of"=some (.ref f))(hb:Binds K fd ["rows","place"] [])(B:Blt mg):Def P w K mg base 1 "end_of" true gEnd:=by
 refine def_of Fx sc_end_of hmg hb (by rintro ds d ⟨rows,p,hp,e1,e2⟩;subst e1;rfl) ?_
 rintro cdv A outer s H Ex Z ds d hr ⟨rows,p,hp,e1,e2⟩
 subst e1 e2
 refine sd_ret false (E.cast (e_slL (m:=true) (ds:=(rows.getD p.1 []).map D.str) (e_ixL (e_var 0) (e_ixT (d:=.int p.1) (e_var 1) e_int rfl) (atI_nat ?_)) (eo_some (e_ixT (d:=.int p.2) (e_var 1) e_int rfl)) eo_none ?_) ?_) rfl
 . simp[hp,strsD]
 . intro _
   exact .inr (flats_cut (flats_strs _))
 . rw[cut_from]
   simp[strsD,endAt]
theorem ok_all_places(Fx:Fun K "all_places" "all_places" s_all_places f fd)(hmg:mg "all_places"=some (.ref f))(hb:Binds K fd ["rows"] [])(B:Blt mg):Def P w K mg base 1 "all_places" true gAll:=by
 refine def_of Fx sc_all_places hmg hb (by rintro ds d ⟨rows,ht,e1,e2⟩;subst e1;rfl) ?_
 rintro cdv A outer s H Ex Z ds d hr ⟨rows,ht,e1,e2⟩
 subst e1 e2
 have nd:=sc_all_places.nd
 refine sd_own 1 (e_lstN ea_nil) rfl ?_ nd
 refine sd_for2Z 2 3 (ds:=enumD (rows.map strsD)) (fun n r=>∃o2 o3 o4,r=[some (.pl false (rowsD rows)),some (.ow true ((allPn rows n).map plD)),o2,o3,o4])
  (PI.plZ (it_enum (e_var 0) B.enumerate)) ⟨_,_,_,rfl⟩ (by rintro n r ⟨_,_,_,e⟩;subst e;simp) (fun d hd=>by
   obtain⟨i,_,rfl⟩:=mem_map.mp hd
   exact⟨_,_,rfl⟩) (fun n d1 d2 r hd ⟨o2,o3,o4,e⟩=>?_) (fun r ⟨o2,o3,o4,e⟩=>?_) nd
 . subst e
   obtain⟨d',hd',e⟩:=enumD_get hd
   cases e
   rw[getElem?_map]at hd'
   cases hrow:rows[n]? with
   |none=>rw[hrow]at hd';cases hd'
   |some row=>
    rw[hrow]at hd'
    cases hd'
    have hrl:row.length<=tot rows:=by have:=tot_row hrow row.length (Nat.le_refl _);omega
    refine sd_forFz 4 (ds:=rangeD 0 (row.map D.str).length) (fun m r=>∃o4,r=[some (.pl false (rowsD rows)),some (.ow true ((allPn rows n++(List.range m).map fun a=>(n,a)).map plD)),some (.pl false (.int (n:Nat))),some (.pl false (strsD row)),o4]/\m<=row.length)
     (it_range (n:=((row.map D.str).length:Int)) (m:=true) (e_lenL (e_var 3) B.len) (by rw[length_map];omega) (by omega) B.range) flat_range ⟨o4,by simp,by omega⟩ (by rintro n r ⟨_,e,_⟩;subst e;simp) (fun m d r hd ⟨o4,e,hm⟩=>?_) (fun r ⟨o4,e,hm⟩=>?_) nd
    . subst e
      obtain⟨hm2,rfl⟩:=rangeD0_get hd
      rw[length_map]at hm2
      have hlen:=tot_row hrow m hm
      refine sd_appendF 1 true rfl (e_tup (ea_cons (e_var 2) (ea_one (e_var 4)))) rfl (by simp;omega) ?_
      refine sd_nil ⟨some (.pl true (.int (m:Nat))),?_,hm2⟩
      rw[range_succ]
      simp[plD,List.set]
    . subst e
      refine sd_nil ⟨some (.pl false (.int (n:Nat))),some (.pl false (strsD row)),o4,?_⟩
      rw[allPn_succ,rangeD_len,length_map]
      simp[hrow]
 . subst e
   refine sd_ret true (E.cast (e_var 1) ?_) rfl
   rw[enumD_len,length_map]
   rfl
theorem ok_order_of(Fx:Fun K "order_of" "order_of" s_order_of f fd)(hmg:mg "order_of"=some (.ref f))(hb:Binds K fd ["rows","place"] [])(B:Blt mg)(dE:Def P w K mg base 1 "end_of" true gEnd):Def P w K mg base 2 "order_of" false gOrder:=by
 refine def_of Fx sc_order_of hmg hb (by rintro ds d ⟨rows,p,hp,e1,e2⟩;subst e1;rfl) ?_
 rintro cdv A outer s H Ex Z ds d hr ⟨rows,p,hp,e1,e2⟩
 subst e1 e2
 exact sd_ret false (e_tup (ea_cons (e_call dE hr (ea_cons (e_var 0) (ea_one (e_var 1))) ⟨rows,p,hp,rfl,rfl⟩) (ea_one (e_var 1)))) rfl
theorem ok_ends{f c Pt:Addr}{fd:FuncData}(Fx:FunC K "ends" "ends" s_ends f fd c)(LK:LamK K mg base c Pt "ends.<locals>.<lambda>")(hmg:mg "ends"=some (.ref f))(hb:Binds K fd ["rows"] [])(B:Blt mg)(dA:Def P w K mg base 1 "all_places" true gAll)(dO:Def P w K mg base 2 "order_of" false gOrder):Def P w K mg base 6 "ends" true gEnds:=by
 refine def_ofC Fx sc_ends hmg hb (by rintro ds d ⟨rows,ht,e1,e2⟩;subst e1;rfl) fun A outer s H Ex Z ds d hr ⟨rows,ht,e1,e2⟩=>?_
 subst e1 e2
 refine sd_ret false (e_sortedK (ds:=(allP rows).map plD) (g:=keyD rows) (P:=isOrd) (P0:=fun d=>∃p,d=plD p/\p.1<rows.length) (caps:=[("rows",0)]) (pn:="place") (c:=c) (Pt:=Pt) (qn:="ends.<locals>.<lambda>") (clos:=[("rows",s.heap.objs.size+1)]) (m1:=true) (mb:=false) (e_call dA (hr.mono (by decide)) (ea_one (e_var 0)) ⟨rows,by omega,rfl,rfl⟩) ?LC ?LO ?cl ?body ?b lin_ord kind_ord ?P ?inj ?len ?hh ?room ?m) rfl
 case LC=>exact LamK.cx LK rfl rfl
 case LO=>
  refine⟨rfl,rfl,rfl,by decide+kernel,rfl,fun q hq=>?_,fun x c h=>h,fun x hx=>?_⟩
  . have:q=(("rows":Str),0):=by simpa using hq
    subst this
    exact⟨rfl,rfl,rfl,rfl⟩
  . have h:=(by decide+kernel:∀q∈lamScope s_ends,q.2=NameKind.free->q.1=("rows":Str)) _ (PySem.mem_of_lookup hx) rfl
    have h':x=("rows":Str):=h
    subst h'
    exact⟨_,rfl⟩
 case cl=>rfl
 case b=>exact fun _ _ _ _=>rfl
 case body=>
  rintro f' c' s' H' R d ⟨p,rfl,hp⟩
  rw[keyD_pl]
  exact e_call dO (k:=2) (((hr.in1).in1).deeper _) (ea_cons (e_var 1) (ea_one (e_var 0))) ⟨rows,p,hp,rfl,rfl⟩
 case P=>
  intro d hd
  obtain⟨p,hp,rfl⟩:=mem_map.mp hd
  rw[keyD_pl]
  exact⟨⟨p,rfl,mem_allP hp⟩,⟨_,p,rfl⟩,ordD_room hr⟩
 case inj=>
  intro x hx y hy e
  obtain⟨p,_,rfl⟩:=mem_map.mp hx
  obtain⟨q,_,rfl⟩:=mem_map.mp hy
  rw[keyD_pl,keyD_pl]at e
  simp only[ordD]at e
  injection e with e
  injection e with _ e
  injection e with e _
 case len=>rw[length_map,allP_tot];exact ht
 case hh=>exact hr.hd
 case room=>exact hr.depth
 case m=>exact B.sorted
theorem ok_Book_names{f C:Addr}{fd:FuncData}(Fx:Fun K "names" "Book.names" s_Book_names f fd)(hM:Meth K C "names" f)(hb:Binds K fd ["self"] [])(B:Blt mg)(TC:ClsOk K mg "Book" C bkF):DefM P w K mg base 1 C "names" true (gNames C):=by
 refine⟨f,fd,_,fnAg Fx sc_Book_names (by rintro ds d ⟨fs,Tt,h,h2,e1,e2⟩;subst e1;rfl) fun cdv A outer s H Ex Z ds d hr ⟨fs,Tt,h,h64,e1,e2⟩=>?_,hM,hb⟩
 subst e1 e2
 refine sd_ret false (E.cast (e_sortedDK (b:=⟨.none,none,.plain, #[]⟩) (.inl rfl) (eg_fld (d:=(txA Tt).d) (eg_var 0 (d:=obD C fs)) TC.cl (TC.no _ (by simp)) (look_d h)) lin_str kind_str (fun k hk=>?_) ?_ hr.hd B.sorted) ?_) rfl
 . rw[txK_keys]at hk
   obtain⟨x,_,rfl⟩:=mem_map.mp hk
   exact⟨⟨x,rfl⟩,strD_room hr⟩
 . simpa[txK]using h64
 . unfold strsD
   rw[nmL_D,txK_keys,map_map,map_map]
   rfl
theorem ok_Book_want{f C:Addr}{fd:FuncData}(Fx:Fun K "want" "Book.want" s_Book_want f fd)(hM:Meth K C "want" f)(hb:Binds K fd ["self","name"] [])(B:Blt mg)(TC:ClsOk K mg "Book" C bkF):DefM P w K mg base 1 C "want" true (gWant C):=by
 refine⟨f,fd,_,fnAg Fx sc_Book_want (by rintro ds d ⟨Tt,n,h,e1,e2⟩;subst e1;rfl) fun cdv A outer s H Ex Z ds d hr ⟨Tt,n,h,e1,e2⟩=>?_,hM,hb⟩
 subst e1 e2
 obtain⟨j,hj⟩:=key_has h
 exact sd_if (b:=false) (t_gnotin (j:=some j) (e_var 1) (eg_fld (d:=(txA Tt).d) (eg_var 0 (d:=obD C (fsB Tt))) TC.cl (TC.no _ (by simp)) rfl) hj (hu_of hr)) (fun h=>by cases h) fun _=>sd_nil (sd_nil rfl)
theorem ok_Book_in_book{f C:Addr}{fd:FuncData}(Fx:Fun K "in_book" "Book.in_book" s_Book_in_book f fd)(hM:Meth K C "in_book" f)(hb:Binds K fd ["self","tuples"] [])(B:Blt mg)(TC:ClsOk K mg "Book" C bkF):DefM P w K mg base 1 C "in_book" true (gInBook C):=by
 refine⟨f,fd,_,fnAg Fx sc_Book_in_book (by rintro ds d ⟨Tt,ts,h,hl,e1,e2⟩;subst e1;rfl) fun cdv A outer s H Ex Z ds d hr ⟨Tt,ts,h,hl,e1,e2⟩=>?_,hM,hb⟩
 subst e1 e2
 refine sd_ret false (E.cast (e_map (m:=true) (me:=true) ["self"] [0] (fun d=>match d with|.tup (.int r::l)=>.tup ([.str ((orig Tt).getD r.toNat ("",0)).1,.int ((((orig Tt).getD r.toNat ("",0)).2:Nat):Int)]++l)|d=>d) (it_list (e_var 1)) (fun Cx sx Hx fp d hd=>?_) (by rw[length_map];exact smallN hl)) ?_) rfl
 . obtain⟨t,ht,rfl⟩:=mem_map.mp hd
   obtain⟨h1,h2,h3⟩:=h t ht
   have fl:flats (.int (t.1:Nat)::t.2.map D.int)=true:=flats_all fun d hd=>by
    rcases mem_cons.mp hd with rfl|hd
    . rfl
    . obtain⟨i,_,rfl⟩:=mem_map.mp hd
      rfl
   have hc:cut (.int (t.1:Nat)::t.2.map D.int) (some 1) none=t.2.map D.int:=cut_one _ _
   refine E.cast (e_catT (ds:=[.str ((orig Tt).getD t.1 ("",0)).1,.int ((((orig Tt).getD t.1 ("",0)).2:Nat):Int)]) (es:=t.2.map D.int) (e_ixL (ds:=(orig Tt).map oriD) (e_fld (d:=(orA Tt).d) (eg_var 1 (d:=obD C (fsB Tt))) TC.cl (TC.no _ (by simp)) rfl rfl) (e_ixT (d:=.int (t.1:Nat)) (e_var 0) e_int (atI_nat (j:=0) rfl)) (atI_nat ?_)) (E.cast (e_slT (m:=true) (e_var 0) (eo_some e_int) eo_none fl ?_) (by rw[hc])) (by simp) (by simpa using h2) (by simp;omega) fun _=>⟨rfl,flats_ints _⟩) ?_
   . simp[h1,oriD]
   . rw[hc];simp
   . simp[toD]
 . rw[map_map]
   congr 1
theorem ok_Book_ends{f C:Addr}{fd:FuncData}(Fx:Fun K "ends" "Book.ends" s_Book_ends f fd)(hM:Meth K C "ends" f)(hb:Binds K fd ["self"] [])(B:Blt mg)(TC:ClsOk K mg "Book" C bkF)(dI:DefM P w K mg base 1 C "in_book" true (gInBook C)):DefM P w K mg base 2 C "ends" true (gEndsM C):=by
 refine⟨f,fd,_,fnAg Fx sc_Book_ends (by rintro ds d ⟨Tt,h,e1,e2⟩;subst e1;rfl) fun cdv A outer s H Ex Z ds d hr ⟨Tt,h,e1,e2⟩=>?_,hM,hb⟩
 subst e1 e2
 have ht:=h.tot
 have hlen:=endsL_len (tog Tt)
 refine sd_ret false (E.cast (e_meth dI TC.cl hr (eg_var 0 (d:=obD C (fsB Tt))) (look_n rfl) (eat_one (eg_fld (d:=(odrA Tt).d) (eg_var 0 (d:=obD C (fsB Tt))) TC.cl (TC.no _ (by simp)) rfl)) ⟨Tt,(endsL (tog Tt)).map fun p=>(p.1,[(p.2:Int)]),fun t ht=>?_,by rw[length_map];omega,?_,rfl⟩) ?_) rfl
 . obtain⟨p,hp,rfl⟩:=mem_map.mp ht
   exact⟨endsL_orig hp,by simp,by simp⟩
 . rw[map_map]
   rfl
 . unfold endsT
   rw[map_map,map_map]
   rfl
theorem ok_Book_numbers_of{f C:Addr}{fd:FuncData}(Fx:Fun K "numbers_of" "Book.numbers_of" s_Book_numbers_of f fd)(hM:Meth K C "numbers_of" f)(hb:Binds K fd ["self","name"] [])(B:Blt mg)(TC:ClsOk K mg "Book" C bkF)(dE:DefM P w K mg base 2 C "ends" true (gEndsM C)):DefM P w K mg base 3 C "numbers_of" true (gNumsM C):=by
 refine⟨f,fd,_,fnAg Fx sc_Book_numbers_of (by rintro ds d ⟨Tt,n,h,e1,e2⟩;subst e1;rfl) fun cdv A outer s H Ex Z ds d hr ⟨Tt,n,h,e1,e2⟩=>?_,hM,hb⟩
 subst e1 e2
 have hlen:(endsT Tt).length=tot (tog Tt):=by unfold endsT;rw[length_map,endsL_len]
 have ht:=h.tot
 refine sd_ret false (E.cast (ec_comp2 (m:=true) (me:=true) ["name"] [1] (fun a b=>match b with|.tup (.str x::_)=>decide (x=n)|_=>false) (fun a b=>a) (it_enum (e_meth0 dE TC.cl hr (eg_var 0 (d:=obD C (fsB Tt))) (look_n rfl) ⟨Tt,h,rfl,rfl⟩) B.enumerate) (fun d hd=>?_) (fun Cx sx Hx fp a b hd=>?_) (fun Cx sx Hx fp a b hd _=>?_) ?_).val ?_) rfl
 . obtain⟨i,_,rfl⟩:=mem_map.mp hd
   exact⟨_,_,rfl⟩
 . obtain⟨i,hi⟩:=List.getElem?_of_mem hd
   obtain⟨d',e1,e2⟩:=enumD_get hi
   cases e2
   obtain⟨t,_,rfl⟩:=mem_map.mp (mem_of_getElem? e1)
   exact ts_one (t_eqS (i:=t.1) (j:=n) (e_ixT (d:=.str t.1) (e_var 1) e_int rfl) (e_var 2))
 . obtain⟨i,hi⟩:=List.getElem?_of_mem hd
   obtain⟨d',e1,e2⟩:=enumD_get hi
   cases e2
   exact E.flat (e_var 0) rfl
 . rw[enumD_len,length_map];exact smallN (by omega)
 . rw[nums_range]
   unfold enumD
   rw[length_map,filter_map,map_map,map_map]
   congr 1
   have e:∀i∈List.range (endsT Tt).length,(up2 false (fun a b=>match b with|.tup (.str x::_)=>decide (x=n)|_=>false)∘fun i=>D.tup [.int (i:Nat),((endsT Tt).map trD).getD i .non]) i=decide (((endsT Tt).getD i ("",0,0)).1=n):=fun i hi=>by
    have hi:i<(endsT Tt).length:=by simpa using hi
    simp[Function.comp,up2,hi,trD]
   rw[List.filter_congr e]
   refine map_congr_left fun i _=>?_
   rfl
theorem ok_Book_rows{f C:Addr}{fd:FuncData}(Fx:Fun K "rows" "Book.rows" s_Book_rows f fd)(hM:Meth K C "rows" f)(hb:Binds K fd ["self","name"] [])(B:Blt mg)(TC:ClsOk K mg "Book" C bkF)(dW:DefM P w K mg base 1 C "want" true (gWant C)):DefM P w K mg base 2 C "rows" true (gRowsM C):=by
 refine⟨f,fd,_,fnAg Fx sc_Book_rows (by rintro ds d ⟨Tt,n,_,_,_,e1,e2⟩;subst e1;rfl) fun cdv A outer s H Ex Z ds d hr ⟨Tt,n,hT,hn,hl,e1,e2⟩=>?_,hM,hb⟩
 subst e1 e2
 obtain⟨j,k1,k2⟩:=key_at hT.nd hn
 refine sd_expr (e_meth dW TC.cl hr (eg_var 0 (d:=obD C (fsB Tt))) (look_n rfl) (eat_one (E.eg (e_var 1))) ⟨Tt,n,hn,rfl,rfl⟩) ?_
 refine sd_ret false (E.cast (e_map (m:=true) (me:=true) [] [] (fun d=>d) (it_list (e_gsub (d:=rowsD (rwT Tt n)) (eg_fld (d:=(txA Tt).d) (eg_var 0 (d:=obD C (fsB Tt))) TC.cl (TC.no _ (by simp)) rfl) (e_var 1) k1 k2 rfl (hu_of hr))) (fun Cx sx Hx fp d hd=>?_) (by rw[length_map];exact smallN (by omega))) (by rw[List.map_id'];rfl)) rfl
 obtain⟨r,_,rfl⟩:=mem_map.mp hd
 exact e_listL (e_var 0) B.list (fun _=>.inr (flats_strs _))
theorem ok_Book_arrange{f C:Addr}{fd:FuncData}(Fx:Fun K "arrange" "Book.arrange" s_Book_arrange f fd)(hM:Meth K C "arrange" f)(hb:Binds K fd ["self"] [])(B:Blt mg)(TC:ClsOk K mg "Book" C bkF)(dN:DefM P w K mg base 1 C "names" true (gNames C))(dE:Def P w K mg base 6 "ends_ends" true gEnds):DefB P w K mg base 7 C "arrange" gArr:=by
 refine⟨f,fd,_,fnB Fx sc_Book_arrange (fun fs ds fs' d ⟨Tt,h,h2,e1,e2,e3⟩=>by subst e1;rfl) (by decide) fun cdv A outer s H Ex F b fs ds fs' d hr ⟨Tt,hT,hfs,e1,e2,e3⟩=>?_,hM,hb⟩
 subst e1 e2 e3
 have nd:=sc_Book_arrange.nd
 obtain⟨R,hR,e⟩:∃R:Obf,(R=[]\/ ∃c,R=([("order",c)]:Obf))/\upF "together" (.l []) (upF "origins" (.l []) fs)=fsL Tt R []:=by
  rcases hfs with rfl|⟨x,y,c,rfl⟩
  . exact⟨[],.inl rfl,rfl⟩
  . exact⟨[("order",c)],.inr ⟨c,rfl⟩,rfl⟩
 have hl4:fs.length<=4:=by rcases hfs with rfl|⟨x,y,c,rfl⟩<;>simp
 have hl5:(upF "origins" (.l []) fs).length<=5:=by rcases hfs with rfl|⟨x,y,c,rfl⟩<;>exact of_decide_eq_true rfl
 refine sd_fldSet 0 TC.cl (TC.no _ (by simp)) rfl (e_lstN ea_nil) (newAt_l rfl) (by omega) rfl ?_
 refine sd_fldSet 0 TC.cl (TC.no _ (by simp)) rfl (e_lstN ea_nil) (newAt_l rfl) (by omega) e ?_
 have rows:=hT.rows
 have hz:(zT Tt).length<500:=by simpa[tog]using rows
 refine sd_for1Z 1 (ds:=(nmL Tt).map D.str) (fun n r=>∃o1 o2 o3,r=[some (.gen (obS (some b) C (fsL Tt R (zPre Tt n 0)))),o1,o2,o3])
  (PI.newZ (it_list (E.cast (e_meth0 dN TC.cl (hr.mono (by decide)) (eg_var 0 (d:=obD C (fsL Tt R []))) (look_n ?_) ⟨_,Tt,rfl,hT.few,rfl,rfl⟩) rfl))) ⟨_,_,_,by rw[zPre_zero];rfl⟩ (by rintro n r ⟨_,_,_,e⟩;subst e;simp) (fun n d r hd ⟨o1,o2,o3,e⟩=>?_) (fun r ⟨o1,o2,o3,e⟩=>?_) nd
 . rcases hR with rfl|⟨c,rfl⟩<;>rfl
 . subst e
   rw[getElem?_map]at hd
   cases hq:(nmL Tt)[n]? with
   |none=>rw[hq]at hd;cases hd
   |some x=>
    rw[hq]at hd
    cases hd
    have hby:(byN Tt)[n]? =some (x,rwT Tt x):=by unfold byN;rw[getElem?_map,hq];rfl
    have hx:x∈Tt.map (·.1):=(nmL_perm Tt).mem_iff.mp (mem_of_getElem? hq)
    obtain⟨j,k1,k2⟩:=key_at hT.nd hx
    refine sd_for2Z 2 3 (ds:=enumD ((rwT Tt x).map strsD)) (fun m r=>∃o2 o3,r=[some (.gen (obS (some b) C (fsL Tt R (zPre Tt n m)))),some (.pl false (.str x)),o2,o3])
     (iz_enum (ez_sub 0 (d:=rowsD (rwT Tt x)) TC.cl (TC.no _ (by simp)) rfl rfl (e_var 1) k1 k2 rfl (hu_of hr)) B.enumerate) ⟨_,_,rfl⟩ (by rintro n r ⟨_,_,e⟩;subst e;simp) (fun d hd=>by
      obtain⟨i,_,rfl⟩:=mem_map.mp hd
      exact⟨_,_,rfl⟩) (fun m d1 d2 r hd ⟨o2,o3,e⟩=>?_) (fun r ⟨o2,o3,e⟩=>?_) nd
    . subst e
      obtain⟨d',hd',e⟩:=enumD_get hd
      cases e
      rw[getElem?_map]at hd'
      cases hrow:(rwT Tt x)[m]? with
      |none=>rw[hrow]at hd';cases hd'
      |some row=>
       rw[hrow]at hd'
       cases hd'
       have hlen:=zPre_len (T:=Tt) n m
       have hn:=zPre_succ hby hrow
       refine sd_fldApp 0 (fs':=("texts",txA Tt)::("origins",.l (((zPre Tt n (m+1)).map (·.1)).map oriD))::("together",.l (((zPre Tt n m).map (·.2)).map strsD))::R) TC.cl (TC.no _ (by simp)) rfl rfl (e_tup (ea_cons (e_var 1) (ea_one (e_var 2)))) (by simp;omega) ?_ ?_
       . rw[hn,map_append,map_append];rfl
       refine sd_fldApp 0 (fs':=fsL Tt R (zPre Tt n (m+1))) TC.cl (TC.no _ (by simp)) rfl rfl (e_var 3) (by simp;omega) ?_ ?_
       . unfold fsL
         rw[hn]
         simp only[map_append]
         rfl
       exact sd_nil ⟨_,_,rfl⟩
    . subst e
      refine sd_nil ⟨some (.pl false (.str x)),o2,o3,?_⟩
      rw[enumD_len,length_map,zPre_next hby]
 . subst e
   rw[length_map,zPre_all]
   refine sd_fldSet 0 (s:=odrA Tt) (fs':=fsB Tt) TC.cl (TC.no _ (by simp)) rfl (E.cast (e_call dE hr (ea_one (e_fld (d:=.lst (((zT Tt).map (·.2)).map strsD)) (eg_var 0 (d:=obD C (fsL Tt R (zT Tt)))) TC.cl (TC.no _ (by simp)) rfl rfl)) ⟨tog Tt,hT.tot,rfl,rfl⟩) (endsD_eq _)) (newAt_l (flats_map (fun _=>rfl) _)) ?_ ?_ (sd_nil ⟨rfl,rfl⟩)
   . rcases hR with rfl|⟨c,rfl⟩<;>exact of_decide_eq_true rfl
   . rcases hR with rfl|⟨c,rfl⟩<;>rfl
theorem ok_Book___init{f C:Addr}{fd:FuncData}(Fx:Fun K "__init__" "Book.__init__" s_Book___init f fd)(hM:Meth K C "__init__" f)(hb:Binds K fd ["self"] [])(B:Blt mg)(TC:ClsOk K mg "Book" C bkF)(dA:DefB P w K mg base 7 C "arrange" gArr):FnOk P w K mg base CX0 8 f fd ["self"] (spB K C gInit):=by
 refine fnB Fx sc_Book___init (fun fs ds fs' d ⟨_,e1,_,_⟩=>by subst e1;rfl) (by decide) fun cdv A outer s H Ex F b fs ds fs' d hr ⟨e0,e1,e2,e3⟩=>?_
 subst e0 e1 e2 e3
 refine sd_fldSet 0 TC.cl (TC.no _ (by simp)) rfl e_dnewK newAt_d (by decide) rfl ?_
 exact sd_callB 0 false (pe_mb0 dA TC.cl hr) rfl rfl ⟨[],okT_nil,.inl rfl,rfl,rfl,rfl⟩ (sd_nil ⟨rfl,rfl⟩)
theorem ok_Book_put{f C:Addr}{fd:FuncData}(Fx:Fun K "put" "Book.put" s_Book_put f fd)(hM:Meth K C "put" f)(hb:Binds K fd ["self","name","text"] [])(B:Blt mg)(TC:ClsOk K mg "Book" C bkF)(dR:Def P w K mg base 2 "rows_of" true gRowsOf)(dA:DefB P w K mg base 7 C "arrange" gArr)
 (dN:DefM P w K mg base 3 C "numbers_of" true (gNumsM C)):DefB P w K mg base 8 C "put" gPut:=by
 refine⟨f,fd,_,fnB Fx sc_Book_put (fun fs ds fs' d ⟨_,_,_,_,_,_,_,_,e1,_⟩=>by subst e1;rfl) (by decide) fun cdv A outer s H Ex F b fs ds fs' d hr ⟨Tt,n,z,hn,hT,hz,ha,e0,e1,e2,e3⟩=>?_,hM,hb⟩
 subst e0 e1 e2 e3
 have hlen:Tt.length<64:=by have:=hT.few;rw[List.length_append]at this;omega
 refine sd_if (b:=false) (t_gin (j:=none) (e_var 1) (eg_fld (d:=(txA Tt).d) (eg_var 0 (d:=obD C (fsB Tt))) TC.cl (TC.no _ (by simp)) rfl) (key_none hn) (hu_of hr)) (fun h=>by cases h) fun _=>sd_nil ?_
 refine sd_fldPut 0 (k:=.inr n) (fs':=[("texts",txA (Tt++[(n,rowsOfS z)])),("origins",orA Tt),("together",tgA Tt),("order",odrA Tt)]) TC.cl (TC.no _ (by simp)) rfl (hf:=rfl) (e_var 1) (e_call dR (hr.mono (by decide)) (ea_one (e_var 2)) ⟨z,hz,ha,rfl,rfl⟩) (key_notin hn) (by simp[txK];omega) (by rw[txA_put];rfl) (hu_of hr) ?_
 refine sd_callB 0 false (pe_mb0 dA TC.cl hr) rfl rfl ⟨Tt++[(n,rowsOfS z)],hT,.inr ⟨_,_,_,rfl⟩,rfl,rfl,rfl⟩ ?_
 exact sd_retB rfl (e_meth dN TC.cl (hr.mono (by decide)) (eg_var 0 (d:=obD C (fsB (Tt++[(n,rowsOfS z)])))) (look_n rfl) (eat_one (E.eg (e_var 1))) ⟨_,n,hT,rfl,rfl⟩)
theorem ok_Book_take{f C:Addr}{fd:FuncData}(Fx:Fun K "take" "Book.take" s_Book_take f fd)(hM:Meth K C "take" f)(hb:Binds K fd ["self","name"] [])(B:Blt mg)(TC:ClsOk K mg "Book" C bkF)(dW:DefM P w K mg base 1 C "want" true (gWant C))
 (dN:DefM P w K mg base 3 C "numbers_of" true (gNumsM C))(dA:DefB P w K mg base 7 C "arrange" gArr):DefB P w K mg base 8 C "take" gTake:=by
 refine⟨f,fd,_,fnB Fx sc_Book_take (fun fs ds fs' d ⟨_,_,_,_,_,_,e1,_⟩=>by subst e1;rfl) (by decide) fun cdv A outer s H Ex F b fs ds fs' d hr ⟨Tt,n,hn,hT,hT',e0,e1,e2,e3⟩=>?_,hM,hb⟩
 subst e0 e1 e2 e3
 have nd:=sc_Book_take.nd
 have fl:flats ((numsT Tt n).map D.int)=true:=flats_ints _
 refine sd_expr (e_meth dW TC.cl (hr.mono (by decide)) (eg_var 0 (d:=obD C (fsB Tt))) (look_n rfl) (eat_one (E.eg (e_var 1))) ⟨Tt,n,hn,rfl,rfl⟩) ?_
 refine sd_own 2 (e_meth dN TC.cl (hr.mono (by decide)) (eg_var 0 (d:=obD C (fsB Tt))) (look_n rfl) (eat_one (E.eg (e_var 1))) ⟨_,n,hT,rfl,rfl⟩) fl ?_ nd
 refine sd_fldPop 0 (k:=.inr n) (kp:=txK Tt) (fs':=[("texts",txA (outT' Tt n)),("origins",orA Tt),("together",tgA Tt),("order",odrA Tt)]) TC.cl (TC.no _ (by simp)) rfl rfl (e_var 1) (key_in hn) (by rw[outK_txK];rfl) ?_
 refine sd_callB 0 false (pe_mb0 dA TC.cl hr) rfl rfl ⟨outT' Tt n,hT',.inr ⟨_,_,_,rfl⟩,rfl,rfl,rfl⟩ ?_
 exact sd_retB2 2 rfl rfl fl (by decide)
theorem ok_law_alike(Fx:Fun K "_law_alike" "_law_alike" s_law_alike f fd)(hmg:mg "_law_alike"=some (.ref f))(hb:Binds K fd ["_law_one","_law_other","_law_signs"] [])(B:Blt mg)(dP:Def P w K mg base 1 "_law_part" true gPart):Def P w K mg base 2 "_law_alike" true gAlikeS:=by
 refine def_of Fx sc_law_alike hmg hb (by rintro ds d ⟨one,other,sg,_,_,e1,e2⟩;subst e1;rfl) ?_
 rintro cdv A outer s H Ex Z ds d hr ⟨one,other,sg,h0,h100,e1,e2⟩
 subst e1 e2
 have nd:=sc_law_alike.nd
 have hsz:=sizeB_pos one
 have hsz2:=sizeB_le one
 have hsl:sg.length<=sizeLine:=smallN (by omega)
 refine sd_setF 3 (d:=.int (sizeB one)) (e_add e_int (e_call dP hr (ea_cons (e_var 0) (ea_cons e_int (ea_one e_int))) ⟨_,_,_,by decide,rfl,rfl⟩)) rfl ?_ nd
 refine sd_setF 4 (d:=.int (atB one other)) (e_call dP hr (ea_cons (e_var 1) (ea_cons e_int (ea_one (e_var 3)))) ⟨_,_,_,by omega,rfl,rfl⟩) rfl ?_ nd
 refine sd_own 5 (e_lstN ea_nil) rfl ?_ nd
 refine sd_forFz 6 (ds:=rangeD 0 5) (fun n r=>∃o6 o7 o8 o9,r=[some (.pl false (.int one)),some (.pl false (.int other)),some (.pl false (.str sg)),some (.pl true (.int (sizeB one))),some (.pl true (.int (atB one other))),some (.ow true (((List.range n).map fun k=>wordS sg one other ((k:Nat):Int) (sizeB one).toNat).map D.str)),o6,o7,o8,o9]/\n<=5)
  (it_range (n:=5) (m:=true) e_int (by decide) (by decide) B.range) flat_range ⟨_,_,_,_,rfl,by decide⟩ (by rintro n r ⟨_,_,_,_,e,_⟩;subst e;simp) ?_ ?_ nd
 . rintro n d r hd ⟨o6,o7,o8,o9,e,hn⟩
   subst e
   obtain⟨hn5,rfl⟩:=rangeD0_get hd
   refine sd_setF 7 e_str rfl ?_ nd
   refine sd_forFz 8 (ds:=rangeD 0 (sizeB one).toNat) (fun m r=>∃o8 o9,r=[some (.pl false (.int one)),some (.pl false (.int other)),some (.pl false (.str sg)),some (.pl true (.int (sizeB one))),some (.pl true (.int (atB one other))),some (.ow true (((List.range n).map fun k=>wordS sg one other ((k:Nat):Int) (sizeB one).toNat).map D.str)),some (.pl true (.int (n:Nat))),some (.pl true (.str (wordS sg one other ((n:Nat):Int) m))),o8,o9]/\m<=(sizeB one).toNat)
    (it_range (n:=sizeB one) (m:=true) (e_var 3) (by omega) (by omega) B.range) flat_range ⟨_,_,rfl,by omega⟩ (by rintro n r ⟨_,_,e,_⟩;subst e;simp) (fun m d r hd ⟨o8,o9,e,hm⟩=>?_) (fun r ⟨o8,o9,e,hm⟩=>?_) nd
   . subst e
     obtain⟨hm12,rfl⟩:=rangeD0_get hd
     refine sd_setF 9 (d:=.int (part one (((m:Nat):Int)+2) (sg.length:Int))) (e_call dP hr (ea_cons (e_var 0) (ea_cons (e_add (e_var 8) e_int) (ea_one (e_lenS (e_var 2) hsl B.len)))) ⟨_,_,_,by omega,rfl,rfl⟩) rfl ?_ nd
     have hlen:=wordS_len sg one other ((n:Nat):Int) m
     refine sd_ifJ [some (.pl false (.int one)),some (.pl false (.int other)),some (.pl false (.str sg)),some (.pl true (.int (sizeB one))),some (.pl true (.int (atB one other))),some (.ow true (((List.range n).map fun k=>wordS sg one other ((k:Nat):Int) (sizeB one).toNat).map D.str)),some (.pl true (.int (n:Nat))),some (.pl true (.str (wordS sg one other ((n:Nat):Int) m))),some (.pl true (.int (m:Nat))),some (.pl true (.int (numS sg one other ((n:Nat):Int) ((m:Nat):Int))))]
      (t_eqI (e_var 8) (e_var 4)) (fun h=>?_) (fun h=>?_) ?_
     . refine sd_setF 9 (e_add (e_var 9) (e_var 6)) rfl ?_ nd
       refine sd_nil ?_
       unfold numS
       rw[if_pos (by simpa using h)]
       rfl
     . refine sd_nil ?_
       unfold numS
       rw[if_neg (by simpa using h)]
       rfl
     . refine sd_setF 7 (e_addS (e_var 7) (e_ixS (e_var 2) (e_mod (e_var 9) (e_lenS (e_var 2) hsl B.len) (by omega)) hsl (sgS_at h0 _)) (smallL (by show _+1<=1000;omega))) rfl ?_ nd
       refine sd_nil ⟨some (.pl true (.int (m:Nat))),some (.pl true (.int (numS sg one other ((n:Nat):Int) ((m:Nat):Int)))),?_,hm12⟩
       rw[wordS_succ]
       rfl
   . subst e
     rw[rangeD_len]
     refine sd_appendF 5 true rfl (e_var 7) rfl (by simp;omega) ?_
     refine sd_nil ⟨some (.pl true (.int (n:Nat))),some (.pl true (.str (wordS sg one other ((n:Nat):Int) (sizeB one).toNat))),o8,o9,?_,hn5⟩
     rw[range_succ,map_append,map_append]
     rfl
 . rintro r ⟨o6,o7,o8,o9,e,hn⟩
   subst e
   rw[rangeD_len]
   refine sd_if (TW.t (tw_and (t_gtI (e_var 3) e_int) fun _=>tw_and1 (t_eqI (e_mod (e_var 1) e_int (by decide)) e_int))) (fun h=>?_) (fun h=>sd_nil ?_)
   . simp at h
     refine sd_ret false (E.cast (e_map (m:=true) (me:=true) ["_law_words_here","_law_size"] [5,3] (fun d=>match d with|.int k=>.str (Txt.slice (wordS sg one other 0 (sizeB one).toNat) none (some (sizeB one-k)))|d=>d) (it_range (n:=5) (m:=true) e_int (by decide) (by decide) B.range)
      (fun C s H fp d hd=>?_) (by rw[rangeD_len];exact smallL (by decide))) ?_) rfl
     . obtain⟨k,_,rfl⟩:=mem_map.mp hd
       exact e_slS (e_ixL (d:=.str (wordS sg one other 0 (sizeB one).toNat)) (e_var 1) e_int rfl) eo_none (eo_some (e_sub (e_var 2) (e_var 0))) (smallL (by rw[wordS_len];omega))
     . unfold wordsS
       rw[if_pos h]
       simp[strsD,rangeD,Function.comp_def]
   . refine sd_ret true (E.cast (e_var 5) ?_) rfl
     unfold wordsS
     rw[if_neg (by simpa using h)]
     rfl
theorem ok_law_words(Fx:Fun K "_law_words" "_law_words" s_law_words f fd)(hmg:mg "_law_words"=some (.ref f))(hb:Binds K fd ["_law_one","_law_other"] [])(B:Blt mg)(dA:Def P w K mg base 2 "_law_alike" true gAlikeS):Def P w K mg base 3 "_law_words" true gWords5:=by
 refine def_of Fx sc_law_words hmg hb (by rintro ds d ⟨one,other,e1,e2⟩;subst e1;rfl) ?_
 rintro cdv A outer s H Ex Z ds d hr ⟨one,other,e1,e2⟩
 subst e1 e2
 exact sd_ret false (e_call dA hr (ea_cons (e_var 0) (ea_cons (e_var 1) (ea_one e_str))) ⟨one,other,W36,by decide,by decide,rfl,rfl⟩) rfl
theorem ok_law_names(Fx:Fun K "_law_names" "_law_names" s_law_names f fd)(hmg:mg "_law_names"=some (.ref f))(hb:Binds K fd ["_law_one","_law_other"] [])(B:Blt mg)(dA:Def P w K mg base 2 "_law_alike" true gAlikeS):Def P w K mg base 3 "_law_names" true gNames5:=by
 refine def_of Fx sc_law_names hmg hb (by rintro ds d ⟨one,other,e1,e2⟩;subst e1;rfl) ?_
 rintro cdv A outer s H Ex Z ds d hr ⟨one,other,e1,e2⟩
 subst e1 e2
 exact sd_ret false (e_call dA hr (ea_cons (e_var 0) (ea_cons (e_var 1) (ea_one e_str))) ⟨one,other,nmSg,by decide,by decide,rfl,rfl⟩) rfl
theorem ok_law_rows(Fx:Fun K "_law_rows" "_law_rows" s_law_rows f fd)(hmg:mg "_law_rows"=some (.ref f))(hb:Binds K fd ["_law_words_here","_law_cell","_law_many"] [])(B:Blt mg):Def P w K mg base 1 "_law_rows" true gRowsC:=by
 refine def_of Fx sc_law_rows hmg hb (by rintro ds d ⟨ws,cell,many,_,_,e1,e2⟩;subst e1;rfl) ?_
 rintro cdv A outer s H Ex Z ds d hr ⟨ws,cell,many,h5,hm,e1,e2⟩
 subst e1 e2
 have nd:=sc_law_rows.nd
 have c0:=Int.emod_nonneg cell (show(65521:Int)≠0 by decide)
 have c1:=Int.emod_lt_of_pos cell (show(0:Int)<65521 by decide)
 refine sd_own2 3 (e_lstN ea_nil) ?_ nd
 cases many with
 |zero=>
  refine sd_if (b:=false) (T.castB (t_gtI (e_var 2) e_int) rfl) (fun h=>by cases h) fun _=>sd_nil ?_
  refine sd_forFz 4 (ds:=rangeD 0 0) (fun n r=>∃o4 o5,r=[some (.pl false (strsD ws)),some (.pl false (.int cell)),some (.pl false (.int ((0:Nat):Int))),some (.ow2 true []),o4,o5]) (it_range (n:=((0:Nat):Int)) (m:=true) (e_var 2) (by decide) (by decide) B.range) flat_range ⟨_,_,rfl⟩ (by rintro n r ⟨_,_,e⟩;subst e;simp) ?_ ?_ nd
  . rintro n d r hd ⟨o4,o5,e⟩
    have:=(rangeD0_get hd).1
    omega
  . rintro r ⟨o4,o5,e⟩
    subst e
    exact sd_ret true (E.cast (e_var 3) rfl) rfl
 |succ mn=>
  refine sd_if (b:=true) (T.castB (t_gtI (e_var 2) e_int) (by simp)) (fun _=>?_) fun h=>by cases h
  refine sd_own21 3 (e_lstF (eaf_cons (e_lstN ea_nil) eaf_nil)) (sd_nil ?_) nd
  refine sd_forFz 4 (ds:=rangeD 0 (mn+1)) (fun n r=>∃o4 o5,r=[some (.pl false (strsD ws)),some (.pl false (.int cell)),some (.pl false (.int ((mn+1:Nat):Int))),some (.ow2 true (((rowsP ws cell (mn+1) n).1.map fun r=>r.map D.str)++[(rowsP ws cell (mn+1) n).2.map D.str])),o4,o5]) (it_range (n:=((mn+1:Nat):Int)) (m:=true) (e_var 2) (by omega) (by omega) B.range) flat_range ⟨_,_,rfl⟩ (by rintro n r ⟨_,_,e⟩;subst e;simp) ?_ ?_ nd
  . rintro n d r hd ⟨o4,o5,e⟩
    subst e
    obtain⟨hn,rfl⟩:=rangeD0_get hd
    obtain⟨g1,g2,g3⟩:=rowsP_ok h5 cell (mn+1) n
    have hl2:(rowsP ws cell (mn+1) n).2.length<=20:=by omega
    have hl1:(rowsP ws cell (mn+1) n).1.length<=20:=by
     have:=len_le_tot (rows:=(rowsP ws cell (mn+1) n).1) fun r hr=>List.length_pos_iff.mpr (g1 r hr)
     omega
    have pk:=pick8_lt (numR cell n)
    refine sd_setF 5 (d:=.int (numR cell n)) (e_mod (e_mul (e_mul (e_add (e_mod (e_var 1) e_int (by decide)) e_int) (e_add (e_var 4) e_int) (.inl ⟨by omega,by omega⟩)) e_int (.inr ⟨by decide,by decide⟩)) e_int (by decide)) rfl ?_ nd
    refine sd_append2 3 (dss:=(rowsP ws cell (mn+1) n).1.map fun r=>r.map D.str) (ds:=(rowsP ws cell (mn+1) n).2.map D.str) true rfl (e_neg e_int) (e_ixL (d:=.str (wdR ws cell n)) (i:=pick8 (numR cell n)) (e_var 0) (e_ixL (e_lstN (ea_cons e_int (ea_cons e_int (ea_cons e_int (ea_cons e_int (ea_cons e_int (ea_cons e_int (ea_cons e_int (ea_one e_int))))))))) (e_mod (e_var 5) e_int (by decide)) (pick8_at _)) ?_) rfl (by simp;omega) ?_
    . have e:pick8 (numR cell n)=(((pick8 (numR cell n)).toNat:Nat):Int):=by omega
      rw[e]
      exact atI_nat (strs_get (by omega))
    . refine sd_if (TW.t (tw_and (t_eqI (e_mod (e_fdiv (e_var 5) e_int ⟨by decide,by decide⟩) e_int (by decide)) e_int) fun _=>tw_and1 (t_ltI (e_add (e_var 4) e_int) (e_var 2)))) (fun h=>?_) (fun h=>sd_nil ?_)
      . refine sd_append2n 3 true rfl (e_lstN ea_nil) (by simp;omega) ?_
        refine sd_nil (sd_nil ⟨some (.pl true (.int (n:Nat))),some (.pl true (.int (numR cell n))),?_⟩)
        have hc:numR cell n/8%4=0/\n+1<mn+1:=by simp at h;exact⟨h.1,by omega⟩
        rw[show rowsP ws cell (mn+1) (n+1)=((rowsP ws cell (mn+1) n).1++[(rowsP ws cell (mn+1) n).2++[wdR ws cell n]],[])from by rw[rowsP,if_pos hc]]
        simp[List.set]
      . refine sd_nil ⟨some (.pl true (.int (n:Nat))),some (.pl true (.int (numR cell n))),?_⟩
        have hc:¬(numR cell n/8%4=0/\n+1<mn+1):=fun z=>by simp at h;have:=h z.1;omega
        rw[show rowsP ws cell (mn+1) (n+1)=((rowsP ws cell (mn+1) n).1,(rowsP ws cell (mn+1) n).2++[wdR ws cell n])from by rw[rowsP,if_neg hc]]
        simp[List.set]
  . rintro r ⟨o4,o5,e⟩
    subst e
    refine sd_ret true (E.cast (e_var 3) ?_) rfl
    rw[rangeD_len]
    unfold rowsC
    rw[if_neg (by omega)]
    simp[rowsD,strsD]
theorem ok_law_text(Fx:Fun K "_law_text" "_law_text" s_law_text f fd)(hmg:mg "_law_text"=some (.ref f))(hb:Binds K fd ["_law_rows_here","_law_cell"] [])(B:Blt mg):Def P w K mg base 1 "_law_text" true gTextS:=by
 refine def_of Fx sc_law_text hmg hb (by rintro ds d ⟨rows,c,_,_,_,e1,e2⟩;subst e1;rfl) ?_
 rintro cdv A outer s H Ex Z ds d hr ⟨rows,c,hg,h14,ht,e1,e2⟩
 subst e1 e2
 have nd:=sc_law_text.nd
 have hrl:=good_rows_len hg
 obtain⟨_,_,_,gl⟩:=gap_ok c
 obtain⟨_,_,_,sl⟩:=sep_ok c
 obtain⟨_,_,tl⟩:=tl_ok c
 refine sd_setF 2 (d:=.str (gapS c)) (e_ixL (e_lstN (ea_cons e_str (ea_cons e_str (ea_cons e_str (ea_one e_str))))) (e_mod (e_var 1) e_int (by decide)) (gap_at c)) rfl ?_ nd
 refine sd_setCN 3 (d:=strsD (rows.map (Txt.join (gapS c)))) (EC.cast (ec_map (m:=true) (me:=true) ["_law_gap"] [2] (fun d=>match d with|.lst ds=>.str (Txt.join (gapS c) (ds.map unS))|d=>d) (it_list (e_var 0)) (fun Cx sx Hx fp d hd=>?_) (by rw[length_map];exact smallN (by omega))) ?_) ?_ nd
 . obtain⟨r,hr',rfl⟩:=mem_map.mp hd
   have h1:=sum_len_le (h14 r hr')
   have h2:=row_len hr'
   refine E.cast (e_join (zs:=r) (e_var 1) (e_var 0) (by omega) (by omega)) ?_
   show D.str _=D.str (Txt.join (gapS c) ((r.map D.str).map unS))
   rw[map_unS]
 . unfold strsD
   rw[map_map,map_map]
   congr 1
   refine map_congr_left fun r _=>?_
   show D.str (Txt.join (gapS c) ((r.map D.str).map unS))=D.str _
   rw[map_unS]
 have lens:∀r∈rows,(Txt.join (gapS c) r).length<=320:=fun r hr'=>by
  have h1:=join_gap_len (h14 r hr') c
  have h2:=row_len hr'
  omega
 refine sd_ifJ [some (.pl false (rowsD rows)),some (.pl false (.int c)),some (.pl true (.str (gapS c))),some (.pl true (strsD (rows.map (lineS c))))] (t_eqI (e_mod (e_fdiv (e_var 1) e_int ⟨by decide,by decide⟩) e_int (by decide)) e_int) (fun h=>?_) (fun h=>?_) ?_
 . have h:c/4%2=1:=by simpa using h
   refine sd_setCN 3 (d:=strsD (rows.map (lineS c))) (EC.cast (ec_map (m:=true) (me:=true) [] [] (fun d=>match d with|.str x=>.str (Txt.upper x)|d=>d) (it_list (e_var 3)) (fun Cx sx Hx fp d hd=>?_) (by rw[length_map,length_map];exact smallN (by omega))) ?_) (sd_nil rfl) nd
   . obtain⟨x,hx,rfl⟩:=mem_map.mp hd
     obtain⟨r,hr',rfl⟩:=mem_map.mp hx
     exact e_upper (e_var 0) (by have:=lens r hr';omega)
   . unfold strsD
     rw[map_map,map_map,map_map]
     congr 1
     refine map_congr_left fun r _=>?_
     simp[Function.comp,lineS,h]
 . have h:¬c/4%2=1:=by simpa using h
   refine sd_nil ?_
   have e:lineS c=Txt.join (gapS c):=by funext r;simp[lineS,h]
   rw[e]
   rfl
 . have h2:=lines_sum hg h14 c
   have h3:=textS_len hg h14 c
   refine sd_ret false (m1:=true) (e_addS (e_join (zs:=rows.map (lineS c)) (e_ixL (d:=.str (sepS c)) (e_lstN (ea_cons e_str (ea_cons e_str (ea_one e_str)))) (e_mod (e_fdiv (e_var 1) e_int ⟨by decide,by decide⟩) e_int (by decide)) (sep_at c)) (e_var 3) (by omega) (by rw[length_map];omega)) (e_ixL (d:=.str (tlS c)) (e_lstN (ea_cons e_str (ea_cons e_str (ea_cons e_str (ea_one e_str))))) (e_mod (e_fdiv (e_var 1) e_int ⟨by decide,by decide⟩) e_int (by decide)) (tl_at c)) ?_) rfl
   have h4:(Txt.join (sepS c) (rows.map (lineS c))).length+(tlS c).length=(textS rows c).length:=by
    unfold textS
    rw[<-cl_len, <-cl_len, <-cl_len,cl_append,List.length_append]
   rw[h4]
   exact smallN (by omega)
def lamScopeR(st:Stmt)(n:Nat):List (Str×NameKind):=match((defBody st)[n]?:Option Stmt)with
 |some (.Return (some (.Call _ _ [⟨_,.Lambda _ _ sc _,_⟩] _)) _)=>sc.names
 |_=>[]
theorem fn_law_sorted{f c Pt:Addr}{fd:FuncData}(Fx:FunC K "_law_sorted" "_law_sorted" s_law_sorted f fd c)(LK:LamK K mg base c Pt "_law_sorted.<locals>.<lambda>")(B:Blt mg):FnOk P w K mg base CX0 6 f fd ["_law_texts"] (spAg K true gSortedF):=by
 refine fnAgC Fx sc_law_sorted (by rintro ds d ⟨Tt,b,h,e1,e2⟩;subst e1;rfl) fun A outer s H Ex Z ds d hr ⟨Tt,b,hT,e1,e2⟩=>?_
 subst e1 e2
 have nd:=sc_law_sorted.nd
 have hu:=hu_of hr
 have hpl:=plT_len hT.nd
 have htot:=hT.tot
 have hrows:=hT.rows
 have hkd:((txK Tt).map (·.1)).map kD=Tt.map fun q=>D.str q.1:=by
  rw[txK_keys,map_map,map_map]
  rfl
 refine sd_own 1 (e_lstN ea_nil) rfl ?_ nd
 refine sd_forFz 2 (ds:=((txK Tt).map (·.1)).map kD) (fun n r=>∃o2 o3 o4,r=[some (slotAg (.agg (.f b ((txK Tt).map (·.1))) ((txK Tt).map (·.2)))),some (.ow true ((plPre Tt n 0 0).map trD)),o2,o3,o4])
  (it_frz (eg_var 0)) (fun d hd=>by rw[hkd]at hd;obtain⟨q,_,rfl⟩:=mem_map.mp hd;rfl) ⟨_,_,_,by simp[plPre];rfl⟩ (by rintro n r ⟨_,_,_,e⟩;subst e;simp) ?_ ?_ nd
 . rintro n d r hd ⟨o2,o3,o4,e⟩
   subst e
   rw[hkd,getElem?_map]at hd
   cases hq:Tt[n]? with
   |none=>rw[hq]at hd;cases hd
   |some q=>
    rw[hq]at hd
    cases hd
    have hqm:=mem_of_getElem? hq
    have hx:q.1∈Tt.map (·.1):=mem_map.mpr ⟨q,hqm,rfl⟩
    have hrw:=rwT_mem hT.nd hqm
    obtain⟨j,k1,k2⟩:=key_at hT.nd hx
    rw[hrw]at k2
    have k1':(Sh.f b ((txK Tt).map (·.1))).key (.str q.1) (some j):=k1
    have hql:=rows_le hT.nd hqm
    refine sd_forFz 3 (ds:=rangeD 0 (q.2.map strsD).length) (fun m r=>∃o3 o4,r=[some (slotAg (.agg (.f b ((txK Tt).map (·.1))) ((txK Tt).map (·.2)))),some (.ow true ((plPre Tt n m 0).map trD)),some (.pl true (.str q.1)),o3,o4])
     (it_range (n:=((q.2.map strsD).length:Int)) (m:=true) (e_lenL (e_gsub (d:=rowsD q.2) (eg_var 0 (d:=.agg (.f b ((txK Tt).map (·.1))) ((txK Tt).map (·.2)))) (e_var 2) k1' k2 rfl hu) B.len) (by rw[length_map];omega) (by omega) B.range) flat_range ⟨_,_,rfl⟩ (by rintro n r ⟨_,_,e⟩;subst e;simp) (fun m d r hd ⟨o3,o4,e⟩=>?_) (fun r ⟨o3,o4,e⟩=>?_) nd
    . subst e
      obtain⟨hm,rfl⟩:=rangeD0_get hd
      rw[length_map]at hm
      have hrow:q.2[m]? =some q.2[m]:=by simp[hm]
      generalize q.2[m]=row at hrow
      have hrl:=row_le hT.nd hqm hrow
      refine sd_forFz 4 (ds:=rangeD 0 (row.map D.str).length) (fun a r=>∃o4,a<=row.length/\r=[some (slotAg (.agg (.f b ((txK Tt).map (·.1))) ((txK Tt).map (·.2)))),some (.ow true ((plPre Tt n m a).map trD)),some (.pl true (.str q.1)),some (.pl true (.int (m:Nat))),o4])
       (it_range (n:=((row.map D.str).length:Int)) (m:=true) (e_lenL (e_ixL (d:=strsD row) (e_gsub (d:=rowsD q.2) (eg_var 0 (d:=.agg (.f b ((txK Tt).map (·.1))) ((txK Tt).map (·.2)))) (e_var 2) k1' k2 rfl hu) (e_var 3) (atI_nat (by rw[getElem?_map,hrow];rfl))) B.len) (by rw[length_map];omega) (by omega) B.range) flat_range ⟨_,by omega,rfl⟩ (by rintro n r ⟨_,_,e⟩;subst e;simp) (fun a d r hd ⟨o4,ha,e⟩=>?_) (fun r ⟨o4,ha,e⟩=>?_) nd
      . subst e
        obtain⟨ha2,rfl⟩:=rangeD0_get hd
        rw[length_map]at ha2
        have hlen:=plPre_len hq hrow ha
        refine sd_appendF 1 true rfl (e_tup (ea_cons (e_var 2) (ea_cons (e_var 3) (ea_one (e_var 4))))) rfl (by rw[length_map];omega) ?_
        refine sd_nil ⟨some (.pl true (.int (a:Nat))),ha2,?_⟩
        rw[plPre_succ,hq,map_append]
        rfl
      . subst e
        refine sd_nil ⟨some (.pl true (.int (m:Nat))),o4,?_⟩
        rw[rangeD_len,length_map,plPre_row hq hrow]
    . subst e
      refine sd_nil ⟨some (.pl true (.str q.1)),o3,o4,?_⟩
      rw[rangeD_len,length_map,plPre_text hq]
 . rintro r ⟨o2,o3,o4,e⟩
   subst e
   have hl:(((txK Tt).map (·.1)).map kD).length=Tt.length:=by simp[txK]
   rw[hl,plPre_all]
   refine sd_ret false (E.cast (e_sortedK (ds:=(plT Tt).map trD) (g:=keyT Tt) (P:=isOrd3) (P0:=fun d=>∃t,d=trD t/\t∈plT Tt) (caps:=[("_law_texts",0)]) (pn:="_law_place") (c:=c) (Pt:=Pt) (qn:="_law_sorted.<locals>.<lambda>") (clos:=[("_law_texts",s.heap.objs.size+1)]) (m:=true) (m1:=false) (mb:=false) (e_var 1) ?LC ?LO ?cl ?body ?b lin_ord3 kind_ord3 ?hP ?inj ?len ?hh ?room ?so ?fl) ?c) rfl
   case c=>rw[endsT_eq hT.nd]
   case LC=>exact LamK.cx LK rfl rfl
   case LO=>
    refine⟨rfl,rfl,rfl,by decide+kernel,rfl,fun q hq=>?_,fun x c h=>h,fun x hx=>?_⟩
    . have:q=(("_law_texts":Str),0):=by simpa using hq
      subst this
      exact⟨rfl,rfl,rfl,rfl⟩
    . have h:=(by decide+kernel:∀q∈lamScopeR s_law_sorted 2,q.2=NameKind.free->q.1=("_law_texts":Str)) _ (PySem.mem_of_lookup hx) rfl
      have h':x=("_law_texts":Str):=h
      subst h'
      exact⟨_,rfl⟩
   case cl=>rfl
   case b=>exact fun _ _ _ _=>rfl
   case body=>
    rintro f' c' s' H' R d ⟨t,rfl,ht⟩
    rw[keyT_tr]
    obtain⟨h1,h2⟩:=plT_mem hT.nd ht
    obtain⟨j,k1,k2⟩:=key_at hT.nd h1
    have k1':(Sh.f b ((txK Tt).map (·.1))).key (.str t.1) (some j):=k1
    refine E.cast (e_tup (ea_cons (e_slL (m:=false) (ds:=((rwT Tt t.1).getD t.2.1 []).map D.str) (e_ixL (d:=strsD ((rwT Tt t.1).getD t.2.1 [])) (e_gsub (d:=rowsD (rwT Tt t.1)) (eg_var 1 (d:=.agg (.f b ((txK Tt).map (·.1))) ((txK Tt).map (·.2)))) (e_ixT (d:=.str t.1) (e_var 0) e_int rfl) k1' k2 rfl (hu_of (((hr.in1).in1).deeper _))) (e_ixT (d:=.int (t.2.1:Nat)) (e_var 0) e_int rfl) (atI_nat ?_)) (eo_some (e_ixT (d:=.int (t.2.2:Nat)) (e_var 0) e_int rfl)) eo_none) (ea_one (e_var 0)))) ?_
    . simp[h2]
    . rw[cut_from]
      simp[ordT,endT,strsD]
   case hP=>
    intro d hd
    obtain⟨t,ht,rfl⟩:=mem_map.mp hd
    rw[keyT_tr]
    exact⟨⟨t,rfl,ht⟩,⟨_,t,rfl⟩,trD_room hr⟩
   case inj=>
    intro x hx y hy e
    obtain⟨p,_,rfl⟩:=mem_map.mp hx
    obtain⟨q,_,rfl⟩:=mem_map.mp hy
    rw[keyT_tr,keyT_tr]at e
    unfold ordT at e
    injection e with e
    injection e with _ e
    injection e with e _
   case len=>rw[length_map,hpl];exact htot
   case hh=>exact hr.hd
   case room=>exact hr.depth
   case so=>exact B.sorted
   case fl=>exact fun _=>.inr (flats_map (fun _=>rfl) _)
theorem ok_law_sorted{f c Pt:Addr}{fd:FuncData}(Fx:FunC K "_law_sorted" "_law_sorted" s_law_sorted f fd c)(LK:LamK K mg base c Pt "_law_sorted.<locals>.<lambda>")(hmg:mg "_law_sorted"=some (.ref f))(hb:Binds K fd ["_law_texts"] [])(B:Blt mg):DefA P w K mg base 6 "_law_sorted" true gSortedF:=
 ⟨f,fd,_,fn_law_sorted (P:=P) (w:=w) Fx LK B,hmg,Fx.fn.kp,hb⟩
end
def rWant(C x:Addr)(ds:List D)(c:Addr):Prop:=∃(T:Tx) (n:Str),n∉T.map (·.1)/\ds=[obD C (fsB T),.str n]/\c=x
def rPut(C t:Addr)(ds:List D)(c:Addr):Prop:=∃(T:Tx) (n z:Str),n∈T.map (·.1)/\ds=[obD C (fsB T),.str n,.str z]/\c=t
def refu(t x:Addr)(T:Tx)(way n:Str)(c:Addr):Prop:=(way="put"/\n∈T.map (·.1)/\c=t)\/((way="take"\/way="rows")/\n∉T.map (·.1)/\c=x)
def rDone(C t x:Addr)(ds:List D)(c:Addr):Prop:=∃(T:Tx) (way n z:Str),ds=[obD C (fsB T),.str way,.str n,.str z]/\refu t x T way n c
def done(T:Tx)(way n z:Str)(T':Tx):Prop:=(way="put"/\n∉T.map (·.1)/\OkT (T++[(n,rowsOfS z)])/\z.length<=2000/\asciiS z/\T'=T++[(n,rowsOfS z)])\/(way="take"/\n∈T.map (·.1)/\OkT T/\OkT (outT' T n)/\T'=outT' T n)\/(way="rows"/\n∈T.map (·.1)/\OkT T/\(rwT T n).length<500/\T'=T)
def gDone(fs:Obf)(ds:List D)(fs':Obf)(d:D):Prop:=∃(T T':Tx) (way n z:Str),done T way n z T'/\fs=fsB T/\ds=[.str way,.str n,.str z]/\fs'=fsB T'/\d=.bl true
def gRefB(fs:Obf)(ds:List D)(fs':Obf)(d:D):Prop:=gDone fs ds fs' (.bl true)/\d=.tup []
def dueD(way:Str):D:=.tup [.bl (decide (way="put")),.bl (!decide (way="put")),.bl true,.bl false,.bl false,.bl false]
def gRefX(C t x:Addr)(ds:List D)(d:D):Prop:=∃(c:Addr) (way:Str) (T:Tx) (n z:Str),refu t x T way n c/\ds=[obD C (fsB T),.str way,.str n,.str z]/\d=dueD way
def gDue(ds:List D)(d:D):Prop:=∃way:Str,ds=[.str way]/\d=dueD way
def gStands(C:Addr)(ds:List D)(d:D):Prop:=∃(T:Tx) (b:Obj),OkT T/\ds=[obD C (fsB T),.agg (.f b ((txK T).map (·.1))) ((txK T).map (·.2))]/\d=.bl true
section
variable{P:Program}{w:World}{K:PySem.W.Frag}{mg:Str->Option Value}{base:Heap}{C xb xq xn xt xx xd:Addr}{f:Addr}{fd:FuncData}
theorem ok_Book_wantX(Fx:Fun K "want" "Book.want" s_Book_want f fd)(hM:Meth K C "want" f)(hb:Binds K fd ["self","name"] [])(TC:ClsOk K mg "Book" C bkF)(XR:Errs K mg xb xq xn xt xx xd):DefMX P w K mg base 1 C "want" (rWant C xx):=by
 refine⟨f,fd,_,fnAX Fx sc_Book_want (by rintro ds c ⟨_,_,_,e1,_⟩;subst e1;rfl) fun cdv A outer s H Ex Z ds c hr ⟨Tt,n,h,e1,e2⟩ hE hx hp=>?_,hM,hb⟩
 subst e1 e2
 exact sd_if (b:=true) (t_gnotin (j:=none) (e_var 1) (eg_fld (d:=(txA Tt).d) (eg_var 0 (d:=obD C (fsB Tt))) TC.cl (TC.no _ (by simp)) rfl) (key_none h) (hu_of hr)) (fun _=>sd_raise1 hx XR.gx XR.kx F.excBase_ValueError e_str fun H' s'=>hE H' s') fun h=>by cases h
theorem ok_Book_putX(Fx:Fun K "put" "Book.put" s_Book_put f fd)(hM:Meth K C "put" f)(hb:Binds K fd ["self","name","text"] [])(TC:ClsOk K mg "Book" C bkF)(XR:Errs K mg xb xq xn xt xx xd):DefMX P w K mg base 1 C "put" (rPut C xt):=by
 refine⟨f,fd,_,fnAX Fx sc_Book_put (by rintro ds c ⟨_,_,_,_,e1,_⟩;subst e1;rfl) fun cdv A outer s H Ex Z ds c hr ⟨Tt,n,z,h,e1,e2⟩ hE hx hp=>?_,hM,hb⟩
 subst e1 e2
 obtain⟨j,hj⟩:=key_has h
 exact sd_if (b:=true) (t_gin (j:=some j) (e_var 1) (eg_fld (d:=(txA Tt).d) (eg_var 0 (d:=obD C (fsB Tt))) TC.cl (TC.no _ (by simp)) rfl) hj (hu_of hr)) (fun _=>sd_raise1 hx XR.gt XR.kt F.excBase_ValueError e_str fun H' s'=>hE H' s') fun h=>by cases h
theorem ok_Book_takeX(Fx:Fun K "take" "Book.take" s_Book_take f fd)(hM:Meth K C "take" f)(hb:Binds K fd ["self","name"] [])(TC:ClsOk K mg "Book" C bkF)(dW:DefMX P w K mg base 1 C "want" (rWant C xx)):DefMX P w K mg base 2 C "take" (rWant C xx):=by
 refine⟨f,fd,_,fnAX Fx sc_Book_take (by rintro ds c ⟨_,_,_,e1,_⟩;subst e1;rfl) fun cdv A outer s H Ex Z ds c hr ⟨Tt,n,h,e1,e2⟩ hE hx hp=>?_,hM,hb⟩
 subst e1 e2
 exact sd_upM dW hp hE TC.cl hr (eg_var 0 (d:=obD C (fsB Tt))) (look_n rfl) (eat_one (E.eg (e_var 1))) ⟨Tt,n,h,rfl,rfl⟩
theorem ok_Book_rowsX(Fx:Fun K "rows" "Book.rows" s_Book_rows f fd)(hM:Meth K C "rows" f)(hb:Binds K fd ["self","name"] [])(TC:ClsOk K mg "Book" C bkF)(dW:DefMX P w K mg base 1 C "want" (rWant C xx)):DefMX P w K mg base 2 C "rows" (rWant C xx):=by
 refine⟨f,fd,_,fnAX Fx sc_Book_rows (by rintro ds c ⟨_,_,_,e1,_⟩;subst e1;rfl) fun cdv A outer s H Ex Z ds c hr ⟨Tt,n,h,e1,e2⟩ hE hx hp=>?_,hM,hb⟩
 subst e1 e2
 exact sd_upM dW hp hE TC.cl hr (eg_var 0 (d:=obD C (fsB Tt))) (look_n rfl) (eat_one (E.eg (e_var 1))) ⟨Tt,n,h,rfl,rfl⟩
theorem ok_law_doneX(Fx:Fun K "_law_done" "_law_done" s_law_done f fd)(hmg:mg "_law_done"=some (.ref f))(hb:Binds K fd ["_law_book","_law_way","_law_name","_law_text_here"] [])(TC:ClsOk K mg "Book" C bkF)(dP:DefMX P w K mg base 1 C "put" (rPut C xt))(dT:DefMX P w K mg base 2 C "take" (rWant C xx))(dR:DefMX P w K mg base 2 C "rows" (rWant C xx)):DefAX P w K mg base 3 "_law_done" (rDone C xt xx):=by
 refine⟨f,fd,_,fnAX Fx sc_law_done (by rintro ds c ⟨_,_,_,_,e1,_⟩;subst e1;rfl) fun cdv A outer s H Ex Z ds c hr ⟨Tt,way,n,z,e1,h⟩ hE hx hp=>?_,hmg,Fx.kp,hb⟩
 subst e1
 refine sd_if (t_eqS (i:=way) (j:="put") (e_var 1) e_str) (fun q=>?_) (fun q=>sd_nil ?_)
 . rcases h with⟨e,h,rfl⟩|⟨e,_⟩
   . exact sd_upM dP hp hE TC.cl (hr.mono (by decide)) (eg_var 0 (d:=obD C (fsB Tt))) (look_n rfl) (eat_cons (E.eg (e_var 2)) (eat_one (E.eg (e_var 3)))) ⟨Tt,n,z,h,rfl,rfl⟩
   . rcases e with rfl|rfl<;>cases q
 . rcases h with⟨rfl,_⟩|⟨e,h,rfl⟩
   . cases q
   . refine sd_if (t_eqS (i:=way) (j:="take") (e_var 1) e_str) (fun q=>?_) (fun q=>sd_nil ?_)
     . exact sd_upM dT hp hE TC.cl hr (eg_var 0 (d:=obD C (fsB Tt))) (look_n rfl) (eat_one (E.eg (e_var 2))) ⟨Tt,n,h,rfl,rfl⟩
     . exact sd_upM dR hp hE TC.cl hr (eg_var 0 (d:=obD C (fsB Tt))) (look_n rfl) (eat_one (E.eg (e_var 2))) ⟨Tt,n,h,rfl,rfl⟩
theorem ok_law_doneB(Fx:Fun K "_law_done" "_law_done" s_law_done f fd)(hmg:mg "_law_done"=some (.ref f))(hb:Binds K fd ["_law_book","_law_way","_law_name","_law_text_here"] [])(TC:ClsOk K mg "Book" C bkF)(dP:DefB P w K mg base 8 C "put" gPut)(dT:DefB P w K mg base 8 C "take" gTake)(dR:DefM P w K mg base 2 C "rows" true (gRowsM C)):DefBD P w K mg base 9 C "_law_done" gDone:=by
 refine⟨f,fd,_,fnB Fx sc_law_done (fun fs ds fs' d ⟨_,_,_,_,_,_,_,e1,_⟩=>by subst e1;rfl) (by decide) fun cdv A outer s H Ex F b fs ds fs' d hr ⟨Tt,T',way,n,z,h,e0,e1,e2,e3⟩=>?_,hmg,Fx.kp,hb⟩
 subst e0 e1 e2 e3
 refine sd_if (t_eqS (i:=way) (j:="put") (e_var 1) e_str) (fun q=>?_) (fun q=>sd_nil ?_)
 . rcases h with⟨e,h1,h2,h3,h4,rfl⟩|⟨rfl,_⟩|⟨rfl,_⟩
   . exact sd_callB 0 false (pe_mb dP TC.cl hr (ea_cons (e_var 2) (ea_one (e_var 3)))) rfl rfl ⟨Tt,n,z,h1,h2,h3,h4,rfl,rfl,rfl,rfl⟩ (sd_retBf rfl e_bl)
   . cases q
   . cases q
 . refine sd_if (t_eqS (i:=way) (j:="take") (e_var 1) e_str) (fun q'=>?_) (fun q'=>sd_nil ?_)
   . rcases h with⟨rfl,_⟩|⟨e,h1,h2,h3,rfl⟩|⟨rfl,_⟩
     . cases q
     . exact sd_callB 0 false (pe_mb dT TC.cl hr (ea_one (e_var 2))) rfl rfl ⟨Tt,n,h1,h2,h3,rfl,rfl,rfl,rfl⟩ (sd_retBf rfl e_bl)
     . cases q'
   . rcases h with⟨rfl,_⟩|⟨rfl,_⟩|⟨e,h1,h2,h3,rfl⟩
     . cases q
     . cases q'
     . exact sd_expr (e_meth dR TC.cl (hr.mono (by decide)) (eg_var 0 (d:=obD C (fsB T'))) (look_n rfl) (eat_one (E.eg (e_var 2))) ⟨T',n,h2,h1,h3,rfl,rfl⟩) (sd_retB rfl e_bl)
theorem ok_law_done{f f1 f2 f3 f4:Addr}{fd fd1 fd2 fd3 fd4:FuncData}(Fx:Fun K "_law_done" "_law_done" s_law_done f fd)(hmg:mg "_law_done"=some (.ref f))(hb:Binds K fd ["_law_book","_law_way","_law_name","_law_text_here"] [])
 (F1:Fun K "want" "Book.want" s_Book_want f1 fd1)(M1:Meth K C "want" f1)(b1:Binds K fd1 ["self","name"] [])(F2:Fun K "put" "Book.put" s_Book_put f2 fd2)(M2:Meth K C "put" f2)(b2:Binds K fd2 ["self","name","text"] [])(F3:Fun K "take" "Book.take" s_Book_take f3 fd3)(M3:Meth K C "take" f3)(b3:Binds K fd3 ["self","name"] [])(F4:Fun K "rows" "Book.rows" s_Book_rows f4 fd4)(M4:Meth K C "rows" f4)(b4:Binds K fd4 ["self","name"] [])
 (B:Blt mg)(TC:ClsOk K mg "Book" C bkF)(XR:Errs K mg xb xq xn xt xx xd)(dP:DefB P w K mg base 8 C "put" gPut)(dT:DefB P w K mg base 8 C "take" gTake)(dR:DefM P w K mg base 2 C "rows" true (gRowsM C)):DefBD P w K mg base 9 C "_law_done" gDone/\DefAX P w K mg base 3 "_law_done" (rDone C xt xx):=
 have dW:=ok_Book_wantX F1 M1 b1 TC XR
 ⟨ok_law_doneB Fx hmg hb TC dP dT dR,ok_law_doneX Fx hmg hb TC (ok_Book_putX F2 M2 b2 TC XR) (ok_Book_takeX F3 M3 b3 TC dW) (ok_Book_rowsX F4 M4 b4 TC dW)⟩
theorem ok_law_refusedB(Fx:Fun K "_law_refused" "_law_refused" s_law_refused f fd)(hmg:mg "_law_refused"=some (.ref f))(hb:Binds K fd ["_law_book","_law_way","_law_name","_law_text_here"] [])(dD:DefBD P w K mg base 9 C "_law_done" gDone):DefBD P w K mg base 10 C "_law_refused" gRefB:=by
 refine⟨f,fd,_,fnB Fx sc_law_refused (fun fs ds fs' d ⟨⟨_,_,_,_,_,_,_,e1,_⟩,_⟩=>by subst e1;rfl) (by decide) fun cdv A outer s H Ex F b fs ds fs' d hr ⟨⟨Tt,T',way,n,z,h,e0,e1,e2,_⟩,e3⟩=>?_,hmg,Fx.kp,hb⟩
 subst e0 e1 e2 e3
 have nd:=sc_law_refused.nd
 refine sd_setF 4 (e_tup ea_nil) rfl ?_ nd
 refine sd_tryOk (fun _ _ h=>h) (sd_callB 0 false (pe_cb (m:="put") dD hr (ea_cons (e_var 1) (ea_cons (e_var 2) (ea_one (e_var 3))))) rfl rfl ⟨Tt,T',way,n,z,h,rfl,rfl,rfl,rfl⟩ (sd_nil ?_))
 exact sd_retB rfl (E.flat (e_var 4) rfl)
theorem ok_law_refusedX(Fx:Fun K "_law_refused" "_law_refused" s_law_refused f fd)(hmg:mg "_law_refused"=some (.ref f))(hb:Binds K fd ["_law_book","_law_way","_law_name","_law_text_here"] [])(B:Blt mg)(dD:DefAX P w K mg base 3 "_law_done" (rDone C xt xx))(XR:Errs K mg xb xq xn xt xx xd):DefA P w K mg base 4 "_law_refused" true (gRefX C xt xx):=by
 refine⟨f,fd,_,fnAg Fx sc_law_refused (by rintro ds d ⟨_,_,_,_,_,_,e1,_⟩;subst e1;rfl) fun cdv A outer s H Ex Z ds d hr ⟨c,way,Tt,n,z,h,e1,e2⟩=>?_,hmg,Fx.kp,hb⟩
 subst e1 e2
 have nd:=sc_law_refused.nd
 refine sd_setF 4 (e_tup ea_nil) rfl ?_ nd
 refine sd_tryExpr 5 (C':=xb) (o:=.error ⟨c,none⟩) (exA_call (m:=true) dD (fun _ _ h=>h) hr (eat_cons (eg_var 0 (d:=obD C (fsB Tt))) (eat_cons (E.eg (e_var 1)) (eat_cons (E.eg (e_var 2)) (eat_one (E.eg (e_var 3)))))) ⟨Tt,way,n,z,rfl,h⟩) (fun _ _ h=>h) (fun d hd=>by cases hd) (fun c' hc=>?_) nd
 cases hc
 rcases h with⟨rfl,_,rfl⟩|⟨hw,_,rfl⟩
 . refine⟨⟨⟨_,XR.kt.o,by simp⟩,⟨_,XR.ob,by decide+kernel⟩,XR.g c (by simp),XR.gb⟩,fun a ps oe od hp hn=>?_⟩
   refine sd_setW (i:=5) (a:=a) 4 (d:=.tup [.bl true,.bl false,.bl true,.bl false]) (xw_tup (xwa_cons (m1:=true) (xw_isi hp (XR.is (c,c,true) (by simp[kitTab])) XR.gt B.isinstance) (xwa_cons (m1:=true) (xw_isi hp (XR.is (c,xx,false) (by simp[kitTab])) XR.gx B.isinstance) (xwa_cons (m1:=true) (xw_isiT hp (XR.isV c (by simp)) rfl B.ValueError B.isinstance) (xwa_cons (m1:=true) (xw_isi hp (XR.is (c,xq,false) (by simp[kitTab])) XR.gq B.isinstance) xwa_nil))))) ?_ nd
   refine sd_setW (i:=5) (a:=a) 4 (d:=.tup ([.bl true,.bl false,.bl true,.bl false]++[.bl false,.bl false])) (xw_catT (m1:=false) (m2:=true) (e_var 4) (xw_tup (xwa_cons (m1:=true) (xw_isi hp (XR.is (c,xn,false) (by simp[kitTab])) XR.gn B.isinstance) (xwa_cons (m1:=true) (xw_isi hp (XR.is (c,xd,false) (by simp[kitTab])) XR.gd B.isinstance) xwa_nil))) (by simp) (by simp) (by decide)) ?_ nd
   exact sd_nil ⟨of_decide_eq_true rfl,sd_ret true (e_var 4) rfl⟩
 . refine⟨⟨⟨_,XR.kx.o,by simp⟩,⟨_,XR.ob,by decide+kernel⟩,XR.g c (by simp),XR.gb⟩,fun a ps oe od hp hn=>?_⟩
   have hd:dueD way=.tup ([.bl false,.bl true,.bl true,.bl false]++[.bl false,.bl false]):=by rcases hw with rfl|rfl<;>rfl
   rw[hd]
   refine sd_setW (i:=5) (a:=a) 4 (d:=.tup [.bl false,.bl true,.bl true,.bl false]) (xw_tup (xwa_cons (m1:=true) (xw_isi hp (XR.is (c,xt,false) (by simp[kitTab])) XR.gt B.isinstance) (xwa_cons (m1:=true) (xw_isi hp (XR.is (c,c,true) (by simp[kitTab])) XR.gx B.isinstance) (xwa_cons (m1:=true) (xw_isiT hp (XR.isV c (by simp)) rfl B.ValueError B.isinstance) (xwa_cons (m1:=true) (xw_isi hp (XR.is (c,xq,false) (by simp[kitTab])) XR.gq B.isinstance) xwa_nil))))) ?_ nd
   refine sd_setW (i:=5) (a:=a) 4 (d:=.tup ([.bl false,.bl true,.bl true,.bl false]++[.bl false,.bl false])) (xw_catT (m1:=false) (m2:=true) (e_var 4) (xw_tup (xwa_cons (m1:=true) (xw_isi hp (XR.is (c,xn,false) (by simp[kitTab])) XR.gn B.isinstance) (xwa_cons (m1:=true) (xw_isi hp (XR.is (c,xd,false) (by simp[kitTab])) XR.gd B.isinstance) xwa_nil))) (by simp) (by simp) (by decide)) ?_ nd
   exact sd_nil ⟨of_decide_eq_true rfl,sd_ret true (e_var 4) rfl⟩
theorem ok_law_refused(Fx:Fun K "_law_refused" "_law_refused" s_law_refused f fd)(hmg:mg "_law_refused"=some (.ref f))(hb:Binds K fd ["_law_book","_law_way","_law_name","_law_text_here"] [])(B:Blt mg)(dD:DefBD P w K mg base 9 C "_law_done" gDone/\DefAX P w K mg base 3 "_law_done" (rDone C xt xx))(XR:Errs K mg xb xq xn xt xx xd):DefBD P w K mg base 10 C "_law_refused" gRefB/\DefA P w K mg base 4 "_law_refused" true (gRefX C xt xx):=
 ⟨ok_law_refusedB Fx hmg hb dD.1,ok_law_refusedX Fx hmg hb B dD.2 XR⟩
theorem ok_law_due(Fx:Fun K "_law_due" "_law_due" s_law_due f fd)(hmg:mg "_law_due"=some (.ref f))(hb:Binds K fd ["_law_way"] [])(B:Blt mg):Def P w K mg base 1 "_law_due" true gDue:=by
 refine def_of Fx sc_law_due hmg hb (by rintro ds d ⟨way,e1,e2⟩;subst e1;rfl) ?_
 rintro cdv A outer s H Ex Z ds d hr ⟨way,e1,e2⟩
 subst e1 e2
 exact sd_ret false (E.flat (e_tup (ea_cons (e_eqS (e_var 0) e_str) (ea_cons (e_neS (e_var 0) e_str) (ea_cons e_bl (ea_cons e_bl (ea_cons e_bl (ea_one e_bl))))))) rfl) rfl
end
section
variable{P:Program}{w:World}{K:PySem.W.Frag}{mg:Str->Option Value}{base:Heap}{C xb xq xn xt xx xd:Addr}{f:Addr}{fd:FuncData}
theorem ok_law_stands(Fx:Fun K "_law_stands" "_law_stands" s_law_stands f fd)(hmg:mg "_law_stands"=some (.ref f))(hb:Binds K fd ["_law_book","_law_texts"] [])(B:Blt mg)(TC:ClsOk K mg "Book" C bkF)(dS:DefA P w K mg base 6 "_law_sorted" true gSortedF)(dN:DefM P w K mg base 1 C "names" true (gNames C))(dE:DefM P w K mg base 2 C "ends" true (gEndsM C))(dR:DefM P w K mg base 2 C "rows" true (gRowsM C)):DefA P w K mg base 7 "_law_stands" true (gStands C):=by
 refine⟨f,fd,_,fnAg Fx sc_law_stands (by rintro ds d ⟨_,_,_,e1,_⟩;subst e1;rfl) fun cdv A outer s H Ex Z ds d hr ⟨Tt,b,hT,e1,e2⟩=>?_,hmg,Fx.kp,hb⟩
 subst e1 e2
 have nd:=sc_law_stands.nd
 have hfew:=hT.few
 have htot:=hT.tot
 have hrows:=hT.rows
 have dep1:(D.lst ((endsT Tt).map trD)).dep<=2:=by
  refine dep_lst (n:=1) fun d hd=>?_
  obtain⟨t,_,rfl⟩:=mem_map.mp hd
  simp[trD,D.dep,deps]
 have hkd:((txK Tt).map (·.1)).map kD=Tt.map fun q=>D.str q.1:=by
  rw[txK_keys,map_map,map_map]
  rfl
 refine sd_if (b:=false) (T.castB (TW.t (tw_or (t_neD (e_meth0 dN TC.cl (hr.mono (by decide)) (eg_var 0 (d:=obD C (fsB Tt))) (look_n rfl) ⟨fsB Tt,Tt,rfl,hT.few,rfl,rfl⟩) (E.cast (d':=strsD (nmL Tt)) (e_sortedDK (b:=b) (.inr rfl) (eg_var 1 (d:=.agg (.f b ((txK Tt).map (·.1))) ((txK Tt).map (·.2)))) lin_str kind_str (fun k hk=>?_) ?_ hr.hd B.sorted) ?_) rfl (roomD hr (dep_strs _))) fun _=>tw_or1 (t_neD (e_meth0 dE TC.cl (hr.mono (by decide)) (eg_var 0 (d:=obD C (fsB Tt))) (look_n rfl) ⟨Tt,hT,rfl,rfl⟩) (e_callA dS hr (eat_one (eg_var 1 (d:=.agg (.f b ((txK Tt).map (·.1))) ((txK Tt).map (·.2))))) ⟨Tt,b,hT,rfl,rfl⟩) rfl (roomD hr dep1)))) ?_) (fun h=>by cases h) fun _=>sd_nil ?_
 . rw[txK_keys]at hk
   obtain⟨x,_,rfl⟩:=mem_map.mp hk
   exact⟨⟨x,rfl⟩,strD_room hr⟩
 . simpa[txK]using hfew
 . unfold strsD
   rw[nmL_D,txK_keys,map_map,map_map]
   rfl
 . rw[deq_refl,deq_refl]
   rfl
 refine sd_forFz 2 (ds:=((txK Tt).map (·.1)).map kD) (fun n r=>∃o2,r=[some (slotAg (obD C (fsB Tt))),some (slotAg (.agg (.f b ((txK Tt).map (·.1))) ((txK Tt).map (·.2)))),o2])
  (it_frz (eg_var 1)) (fun d hd=>by rw[hkd]at hd;obtain⟨q,_,rfl⟩:=mem_map.mp hd;rfl) ⟨_,rfl⟩ (by rintro n r ⟨_,e⟩;subst e;simp) ?_ ?_ nd
 . rintro n d r hd ⟨o2,e⟩
   subst e
   rw[hkd,getElem?_map]at hd
   cases hq:Tt[n]? with
   |none=>rw[hq]at hd;cases hd
   |some q=>
    rw[hq]at hd
    cases hd
    have hqm:=mem_of_getElem? hq
    have hx:q.1∈Tt.map (·.1):=mem_map.mpr ⟨q,hqm,rfl⟩
    have hrw:=rwT_mem hT.nd hqm
    have hql:=rows_le hT.nd hqm
    obtain⟨j,k1,k2⟩:=key_at hT.nd hx
    rw[hrw]at k2
    have k1':(Sh.f b ((txK Tt).map (·.1))).key (.str q.1) (some j):=k1
    refine sd_if (b:=false) (T.castB (t_neD (d:=rowsD q.2) (E.cast (e_meth dR TC.cl (hr.mono (by decide)) (eg_var 0 (d:=obD C (fsB Tt))) (look_n rfl) (eat_one (E.eg (e_var 2))) ⟨Tt,q.1,hT,hx,by rw[hrw];omega,rfl,rfl⟩) (by rw[hrw])) (e_gsub (d:=rowsD q.2) (eg_var 1 (d:=.agg (.f b ((txK Tt).map (·.1))) ((txK Tt).map (·.2)))) (e_var 2) k1' k2 rfl (hu_of hr)) rfl (roomD hr (dep_rows _))) (by rw[deq_refl];rfl)) (fun h=>by cases h) fun _=>sd_nil (sd_nil ⟨_,rfl⟩)
 . rintro r ⟨o2,e⟩
   subst e
   exact sd_ret false e_bl rfl
theorem ok_law{f fI:Addr}{fd fdI:FuncData}(Fx:Fun K "law" "law" s_law f fd)(B:Blt mg)(dC:Def P w K mg base 1 "_law_cell_at" true gCellAt)(dP:Def P w K mg base 1 "_law_part" true gPart)(dW:Def P w K mg base 3 "_law_words" true gWords5)(dNm:Def P w K mg base 3 "_law_names" true gNames5)(dRo:Def P w K mg base 1 "_law_rows" true gRowsC)(dTx:Def P w K mg base 1 "_law_text" true gTextS)
 (dRf:DefBD P w K mg base 10 C "_law_refused" gRefB/\DefA P w K mg base 4 "_law_refused" true (gRefX C xt xx))(dDu:Def P w K mg base 1 "_law_due" true gDue)(dSt:DefA P w K mg base 7 "_law_stands" true (gStands C))
 (TC:ClsOk K mg "Book" C bkF)(M:Mk K C fI)(FI:FnOk P w K mg base CX0 8 fI fdI ["self"] (spB K C gInit))(bI:Binds K fdI ["self"] []):FnOk P w K mg base CX0 11 f fd ["_law_script"] (spD K false lawG):=by
 refine fnD Fx sc_law (by rintro ds d ⟨ns,hl,e1,e2⟩;subst e1;rfl) ?_
 rintro cdv A outer s H Ex Z ds d hr ⟨ns,hl,e1,e2⟩
 subst e1 e2
 have nd:=sc_law.nd
 have hr1:Room 1 _:=hr.mono (show 1<=10 by decide)
 have hr3:Room 3 _:=hr.mono (show 3<=10 by decide)
 have hu:=hu_of hr
 refine sd_setN 1 (d:=strsD (wordsS W36 (cellAt ns 0) (cellAt ns 1))) (e_call dW hr3 (ea_cons (e_call dC hr1 (ea_cons (e_var 0) (ea_one e_int)) ⟨ns,0,by omega,rfl,rfl⟩) (ea_one (e_call dC hr1 (ea_cons (e_var 0) (ea_one e_int)) ⟨ns,1,by omega,rfl,rfl⟩))) ⟨_,_,rfl,rfl⟩) ?_ nd
 refine sd_setN 2 (d:=strsD (wordsS nmSg (cellAt ns 2) (cellAt ns 3))) (e_call dNm hr3 (ea_cons (e_call dC hr1 (ea_cons (e_var 0) (ea_one e_int)) ⟨ns,2,by omega,rfl,rfl⟩) (ea_one (e_call dC hr1 (ea_cons (e_var 0) (ea_one e_int)) ⟨ns,3,by omega,rfl,rfl⟩))) ⟨_,_,rfl,rfl⟩) ?_ nd
 have hw5:=wordsS_len W36 (cellAt ns 0) (cellAt ns 1)
 have hwW:∀x∈wordsS W36 (cellAt ns 0) (cellAt ns 1),isW x:=fun x hx=>wordsS_isW hx
 have hw14:∀x∈wordsS W36 (cellAt ns 0) (cellAt ns 1),x.length<=14:=fun x hx=>wordsS_le hx
 have hn5:=wordsS_len nmSg (cellAt ns 2) (cellAt ns 3)
 obtain⟨y0,hy0,hyl⟩:=wordsS_first (sg:=nmSg) (one:=cellAt ns 2) (other:=cellAt ns 3)
 have hy14:y0.length<=14:=wordsS_le (mem_of_getElem? hy0)
 generalize wordsS W36 (cellAt ns 0) (cellAt ns 1)=ws at hw5 hwW hw14
 generalize wordsS nmSg (cellAt ns 2) (cellAt ns 3)=nm at hn5 hy0 hyl
 refine sd_makeB 3 M FI (hr.mono (by decide)) rfl TC.mg bI ⟨rfl,rfl,rfl,rfl⟩ ?_ nd
 refine sd_oaNewK 4 false ?_ nd
 have hcut:((cut (ns.map D.int) (some 4) (some 24)))=(cut ns (some 4) (some 24)).map D.int:=by
  unfold cut
  rw[length_map,List.map_take,List.map_drop]
 refine sd_forFz 5 (ds:=(cut ns (some 4) (some 24)).map D.int) (fun n r=>∃(Tt:Tx) (o5 o6 o7 o8 o9 o10:Option Slot),r=[some (.pl false (.lst (ns.map D.int))),some (.pl true (strsD ws)),some (.pl true (strsD nm)),some (.gen (obS none C (fsB Tt))),some (.gen (oaS false (.k ((txK Tt).map (·.1))) ((txK Tt).map (·.2)))),o5,o6,o7,o8,o9,o10]/\GT nm Tt)
  (it_list (E.cast (e_slL (m:=true) (e_var 0) (eo_some e_int) (eo_some e_int) (fun _=>.inr (by rw[hcut];exact flats_ints _))) (by rw[hcut]))) (fun d hd=>by obtain⟨i,_,rfl⟩:=mem_map.mp hd;rfl) ⟨[],_,_,_,_,_,_,rfl,gt_nil nm⟩ (by rintro n r ⟨_,_,_,_,_,_,_,e,_⟩;subst e;simp) ?_ ?_ nd
 . rintro n d r hd ⟨Tt,o5,o6,o7,o8,o9,o10,e,g⟩
   subst e
   obtain⟨c,_,rfl⟩:=mem_map.mp (mem_of_getElem? hd)
   have p0:=part_nn c 5 (show(0:Int)<5 by decide)
   have p1:=part_lt c 5 (show(0:Int)<5 by decide)
   have q0:=part_nn c 6 (show(0:Int)<7 by decide)
   have q1:=part_lt c 6 (show(0:Int)<7 by decide)
   have hT:=g.ok hn5
   obtain⟨x,hx,hxm⟩:∃x,nm[(part c 5 5).toNat]? =some x/\x∈nm:=by
    have:(part c 5 5).toNat<nm.length:=by omega
    exact⟨nm[(part c 5 5).toNat],by simp[this],getElem_mem this⟩
   have hxa:atI (nm.map D.str) (part c 5 5)=some (.str x):=by
    have e:part c 5 5=(((part c 5 5).toNat:Nat):Int):=by omega
    have h1:(nm.map D.str)[(part c 5 5).toNat]? =some (.str x):=by rw[getElem?_map,hx];rfl
    have h2:=atI_nat h1
    rwa [<-e]at h2
   obtain⟨way,hwa,hw3⟩:=way_at c
   refine sd_setF 6 (d:=.str x) (e_ixL (i:=part c 5 5) (e_var 2) (e_call dP hr1 (ea_cons (e_var 5) (ea_cons e_int (ea_one e_int))) ⟨_,_,_,by decide,rfl,rfl⟩) hxa) rfl ?_ nd
   refine sd_setF 7 (d:=.str way) (e_ixL (i:=part c 8 4) (e_lst (ea_cons e_str (ea_cons e_str (ea_cons e_str (ea_one e_str))))) (e_call dP hr1 (ea_cons (e_var 5) (ea_cons e_int (ea_one e_int))) ⟨_,_,_,by decide,rfl,rfl⟩) hwa) rfl ?_ nd
   obtain⟨many,hmany⟩:∃many:Nat,part c 6 7=((many:Nat):Int):=⟨(part c 6 7).toNat,by omega⟩
   obtain⟨ro1,ro2⟩:=rowsC_ok hw5 c many
   have good:=rowsC_good hw5 hwW c many
   have h14:∀r∈rowsC ws c many,∀y∈r,y.length<=14:=fun r hr' y hy=>hw14 y ((ro1 r hr').2 y hy)
   have ht8:tot (rowsC ws c many)<=8:=by omega
   refine sd_setN 8 (d:=rowsD (rowsC ws c many)) (e_call dRo hr1 (ea_cons (e_var 1) (ea_cons (e_var 5) (ea_one (E.cast (e_call dP hr1 (ea_cons (e_var 5) (ea_cons e_int (ea_one e_int))) ⟨c,6,7,by decide,rfl,rfl⟩) (congrArg D.int hmany))))) ⟨ws,c,many,hw5,by omega,rfl,rfl⟩) ?_ nd
   have tl:=textS_len good h14 (part c 7 96)
   generalize rowsC ws c many=rows at good h14 ht8 tl ro2
   obtain⟨ok1,ok2⟩:=textS_ok good (part c 7 96)
   refine sd_setF 9 (d:=.str (textS rows (part c 7 96))) (e_call dTx hr1 (ea_cons (e_var 8) (ea_one (e_call dP hr1 (ea_cons (e_var 5) (ea_cons e_int (ea_one e_int))) ⟨c,7,96,by decide,rfl,rfl⟩))) ⟨rows,part c 7 96,good,h14,by omega,rfl,rfl⟩) rfl ?_ nd
   generalize textS rows (part c 7 96)=z at ok1 ok2 tl
   have dd:(dueD way).dep<=2:=by simp[dueD,D.dep,deps]
   refine sd_ifP (b:=decide (decide (way="put")=decide (x∈Tt.map (·.1)))) (fun r=>∃(T':Tx) (o10:Option Slot),r=[some (.pl false (.lst (ns.map D.int))),some (.pl true (strsD ws)),some (.pl true (strsD nm)),some (.gen (obS none C (fsB T'))),some (.gen (oaS false (.k ((txK T').map (·.1))) ((txK T').map (·.2)))),some (.pl true (.int c)),some (.pl true (.str x)),some (.pl true (.str way)),some (.pl true (rowsD rows)),some (.pl true (.str z)),o10]/\GT nm T') ?cond (fun hb=>?br1) (fun hb=>?br2) (fun r ⟨T',o10,e,g'⟩=>?rest)
   case cond=>
    by_cases hin:x∈Tt.map (·.1)
    . obtain⟨j,hj⟩:=key_has hin
      exact T.castB (t_eqB (e_eqS (e_var 7) e_str) (e_gin (j:=some j) (e_var 6) (eg_var 4 (d:=(txA Tt).d)) hj hu)) (by simp only[hin,decide_true];rfl)
    . exact T.castB (t_eqB (e_eqS (e_var 7) e_str) (e_gin (j:=none) (e_var 6) (eg_var 4 (d:=(txA Tt).d)) (key_none hin) hu)) (by simp only[hin,decide_false];rfl)
   case br1=>
    have hb:decide (way="put")=decide (x∈Tt.map (·.1)):=of_decide_eq_true hb
    obtain⟨cl,hcl⟩:∃cl,refu xt xx Tt way x cl:=by
     rcases hw3 with rfl|hw
     . exact⟨xt,.inl ⟨rfl,of_decide_eq_true hb.symm,rfl⟩⟩
     . have e:decide (way="put")=false:=by rcases hw with rfl|rfl<;>rfl
       rw[e]at hb
       exact⟨xx,.inr ⟨hw,of_decide_eq_false hb.symm,rfl⟩⟩
    refine sd_forFz 10 (ds:=rangeD 0 2) (fun n r=>∃o10,r=[some (.pl false (.lst (ns.map D.int))),some (.pl true (strsD ws)),some (.pl true (strsD nm)),some (.gen (obS none C (fsB Tt))),some (.gen (oaS false (.k ((txK Tt).map (·.1))) ((txK Tt).map (·.2)))),some (.pl true (.int c)),some (.pl true (.str x)),some (.pl true (.str way)),some (.pl true (rowsD rows)),some (.pl true (.str z)),o10])
     (it_range (n:=2) (m:=true) e_int (by decide) (by decide) B.range) flat_range ⟨_,rfl⟩ (by rintro n r ⟨_,e⟩;subst e;simp) ?_ ?_ nd
    . rintro n d r hd ⟨o10,e⟩
      subst e
      exact sd_if (b:=false) (T.castB (t_neD (e_callA dRf.2 (hr.mono (by decide)) (eat_cons (eg_var 3 (d:=obD C (fsB Tt))) (eat_cons (E.eg (e_var 7)) (eat_cons (E.eg (e_var 6)) (eat_one (E.eg (e_var 9)))))) ⟨cl,way,Tt,x,z,hcl,rfl,rfl⟩) (e_call dDu hr1 (ea_one (e_var 7)) ⟨way,rfl,rfl⟩) rfl (roomD hr dd)) (by rw[deq_refl];rfl)) (fun h=>by cases h) fun _=>sd_nil (sd_nil ⟨_,rfl⟩)
    . rintro r ⟨o10,e⟩
      subst e
      exact sd_nil ⟨Tt,_,rfl,g⟩
   case br2=>
    have hb:=of_decide_eq_false hb
    rcases hw3 with rfl|rfl|rfl
    . have hin:x∉Tt.map (·.1):=fun h=>hb (by simp[h])
      have g':GT nm (Tt++[(x,rows)]):=g.put hin hxm good ht8
      have hT':=g'.ok hn5
      have e1:(txK Tt).map (·.1)++[Sum.inr x]=(txK (Tt++[(x,rows)])).map (·.1):=by simp[txK]
      have e2:(txK Tt).map (·.2)++[rowsD rows]=(txK (Tt++[(x,rows)])).map (·.2):=by simp[txK]
      refine sd_ifB 3 (fs':=fsB (Tt++[(x,rows)])) (d:=.tup []) (pe_cb (m:="put") dRf.1 hr (ea_cons (e_var 7) (ea_cons (e_var 6) (ea_one (e_var 9))))) rfl rfl ⟨⟨Tt,Tt++[(x,rows)],"put",x,z,.inl ⟨rfl,hin,by rw[ok1];exact hT',by omega,ok2,by rw[ok1]⟩,rfl,rfl,rfl,rfl⟩,rfl⟩ (e_tup ea_nil) rfl (roomD (n:=2) hr (by decide)) rfl ?_
      refine sd_if (b:=true) (t_eqS (i:="put") (j:="put") (e_var 7) e_str) (fun _=>?_) (fun h=>by cases h)
      refine sd_gput 4 false (dk:=.str x) (dv:=rowsD rows) rfl (e_var 6) (e_var 8) ⟨.inr x,rfl,key_notin hin,?_,rfl⟩ hu ?_
      . have:=hT.few
        rw[sizeLine_eq]
        simp[txK]
        omega
      rw[e1,e2]
      refine sd_nil ?_
      exact sd_if (b:=false) (t_eqS (i:="put") (j:="take") (e_var 7) e_str) (fun h=>by cases h) fun _=>sd_nil (sd_nil ⟨_,_,rfl,g'⟩)
    . have hin:x∈Tt.map (·.1):=Classical.byContradiction fun h=>hb (by simp only[h,decide_false];rfl)
      refine sd_ifB 3 (fs':=fsB (outT' Tt x)) (d:=.tup []) (pe_cb (m:="put") dRf.1 hr (ea_cons (e_var 7) (ea_cons (e_var 6) (ea_one (e_var 9))))) rfl rfl ⟨⟨Tt,outT' Tt x,"take",x,z,.inr (.inl ⟨rfl,hin,hT,(g.out x).ok hn5,rfl⟩),rfl,rfl,rfl,rfl⟩,rfl⟩ (e_tup ea_nil) rfl (roomD (n:=2) hr (by decide)) rfl ?_
      refine sd_if (b:=false) (t_eqS (i:="take") (j:="put") (e_var 7) e_str) (fun h=>by cases h) fun _=>sd_nil ?_
      refine sd_if (b:=true) (t_eqS (i:="take") (j:="take") (e_var 7) e_str) (fun _=>?_) (fun h=>by cases h)
      refine sd_gpop 4 false (kp:=txK Tt) (k:=.inr x) rfl (e_var 6) (key_in hin) ?_
      rw[outK_txK]
      exact sd_nil (sd_nil ⟨_,_,rfl,g.out x⟩)
    . have hin:x∈Tt.map (·.1):=Classical.byContradiction fun h=>hb (by simp only[h,decide_false];rfl)
      obtain⟨q,hqm,hqx⟩:=mem_map.mp hin
      have hrw:=rwT_mem hT.nd hqm
      have hql:=rows_le hT.nd hqm
      have hrows:=hT.rows
      have htot:=hT.tot
      rw[hqx]at hrw
      refine sd_ifB 3 (fs':=fsB Tt) (d:=.tup []) (pe_cb (m:="put") dRf.1 hr (ea_cons (e_var 7) (ea_cons (e_var 6) (ea_one (e_var 9))))) rfl rfl ⟨⟨Tt,Tt,"rows",x,z,.inr (.inr ⟨rfl,hin,hT,by rw[hrw];omega,rfl⟩),rfl,rfl,rfl,rfl⟩,rfl⟩ (e_tup ea_nil) rfl (roomD (n:=2) hr (by decide)) rfl ?_
      refine sd_if (b:=false) (t_eqS (i:="rows") (j:="put") (e_var 7) e_str) (fun h=>by cases h) fun _=>sd_nil ?_
      exact sd_if (b:=false) (t_eqS (i:="rows") (j:="take") (e_var 7) e_str) (fun h=>by cases h) fun _=>sd_nil (sd_nil ⟨_,_,rfl,g⟩)
   case rest=>
    subst e
    exact sd_ifFz 3 4 (by decide) dSt (hr.mono (by decide)) rfl rfl (fun b=>⟨T',b,g'.ok hn5,rfl,rfl⟩) (sd_nil ⟨T',_,_,_,_,_,_,rfl,g'⟩)
 . rintro r ⟨Tt,o5,o6,o7,o8,o9,o10,e,g⟩
   subst e
   have hnot:y0++"!"∉Tt.map (·.1):=fun h=>by
    obtain⟨q,hq,e⟩:=mem_map.mp h
    have h1:=hyl _ (g.sub q hq)
    rw[e]at h1
    have h2:(y0++("!":Str)).length=y0.length+1:=by
     have:=congrArg List.length (cl_append y0 ("!":Str))
     rw[List.length_append,cl_len,cl_len,cl_len]at this
     exact this
    omega
   refine sd_ret false (E.cast (e_eqD (d:=dueD "take") (e_callA dRf.2 (hr.mono (by decide)) (eat_cons (eg_var 3 (d:=obD C (fsB Tt))) (eat_cons (E.eg e_str) (eat_cons (E.eg (e_addS (x:=y0) (y:="!") (e_ixL (d:=.str y0) (e_var 2) e_int (atI_nat (j:=0) (by rw[getElem?_map,hy0];rfl))) e_str ?_)) (eat_one (E.eg e_str))))) ⟨xx,"take",Tt,y0++"!","",.inr ⟨.inl rfl,hnot,rfl⟩,rfl,rfl⟩) (e_call dDu hr1 (ea_one e_str) ⟨"take",rfl,rfl⟩) rfl (roomD (n:=2) hr (by decide))) (congrArg D.bl (deq_refl _))) rfl
   rw[sizeLine_eq]
   have:(("!":Str)).length=1:=rfl
   omega
end
end
instance:Y.Tabs:=⟨[(44,"ends.<locals>.<lambda>"),(285,"_law_sorted.<locals>.<lambda>")]⟩
def FK(K:PySem.W.Frag)(q:Str)(st:Stmt)(f:Addr):Prop:=PySem.W.nsIn K mainGlobals q=some (some (.ref f))/\ ∃fd,Fun K q q st f fd
theorem fk{K:PySem.W.Frag}{q:Str}{st:Stmt}{f:Addr}{oc kV dc pm ct:Value}{od an:Option Addr}{sl:Array (Option Value)}{cd:Value}(a:PySem.W.nsIn K mainGlobals q=some (some (.ref f)))(l:K.lookup f=some ⟨oc,od,.func (PySem.W.fnOf q q (defArgs st) (defBody st) (defScope st) .none kV dc pm an cd ct),sl⟩)(c:PySem.W.codeIn K cd q=true)(k:keepIn K (.ref f)=true):FK K q st f:=⟨a,_,fun_mk l c k⟩
def FKC(K:PySem.W.Frag)(q:Str)(st:Stmt)(f c:Addr)(n:Nat):Prop:=PySem.W.nsIn K mainGlobals q=some (some (.ref f))/\(∃fd,FunC K q q st f fd c)/\codeHdIn K c n=true
theorem fkc{K:PySem.W.Frag}{q:Str}{st:Stmt}{f:Addr}{oc kV dc pm ct:Value}{od an:Option Addr}{sl:Array (Option Value)}{cc:Addr}{n:Nat}(a:PySem.W.nsIn K mainGlobals q=some (some (.ref f)))(l:K.lookup f=some ⟨oc,od,.func (PySem.W.fnOf q q (defArgs st) (defBody st) (defScope st) .none kV dc pm an (.ref cc) ct),sl⟩)(c:PySem.W.codeIn K (.ref cc) q=true)(k:keepIn K (.ref f)=true)(h:codeHdIn K cc n=true):FKC K q st f cc n:=⟨a,⟨_,funC_mk l c k⟩,h⟩
def FKM(K:PySem.W.Frag)(C:Addr)(x q:Str)(st:Stmt)(f:Addr):Prop:=Meth K C x f/\ ∃fd,Fun K x q st f fd
theorem fkm{K:PySem.W.Frag}{C:Addr}{x q:Str}{st:Stmt}{f:Addr}{oc kV dc pm ct:Value}{od an:Option Addr}{sl:Array (Option Value)}{cd:Value}(a:PySem.W.findIn K (.ref C) x=some (some (.ref f)))(i:PySem.W.isFn K (.ref f)=true)(l:K.lookup f=some ⟨oc,od,.func (PySem.W.fnOf x q (defArgs st) (defBody st) (defScope st) .none kV dc pm an cd ct),sl⟩)(c:PySem.W.codeIn K cd q=true)(k:keepIn K (.ref f)=true):FKM K C x q st f:=⟨⟨a,i,k⟩,_,fun_mk l c k⟩
theorem len1{us:List Value}(h:us.length=1):∃a,us=[a]:=by
  cases us with
  |nil=>cases h
  | cons a r=>
    cases r with
    |nil=>exact⟨a,rfl⟩
    |cons b c=>simp at h
theorem len2{us:List Value}(h:us.length=2):∃a0 a1,us=[a0,a1]:=by
  cases us with
  |nil=>cases h
  | cons a r=>
    obtain⟨a1,rfl⟩:=len1 (Nat.succ.inj h)
    exact⟨a,a1,rfl⟩
theorem len3{us:List Value}(h:us.length=3):∃a0 a1 a2,us=[a0,a1,a2]:=by
  cases us with
  |nil=>cases h
  | cons a r=>
    obtain⟨a1,a2,rfl⟩:=len2 (Nat.succ.inj h)
    exact⟨a,a1,a2,rfl⟩
theorem len4{us:List Value}(h:us.length=4):∃a0 a1 a2 a3,us=[a0,a1,a2,a3]:=by
  cases us with
  |nil=>cases h
  | cons a r=>
    obtain⟨a1,a2,a3,rfl⟩:=len3 (Nat.succ.inj h)
    exact⟨a,a1,a2,a3,rfl⟩
theorem all_mk{l:PySem.W.OpenLaw}{w:World}{K:PySem.W.Frag}{h:Heap}{mg:Str->Option Value}{fa:Addr}(X:K.In h)(G:h.Ns mainGlobals mg)(hfa:mg "law"=some (.ref fa))
 {f1 f2 f3 f4 cc4 f5 f6 f7 f8 f9 f10 f11 f12 f13 f14 cc14 f15 f16 f17 f18 f19 eb eNb eq eNq en eNn et eNt ex eNx ed eNd C_Book f_Book___init f_Book_arrange f_Book_put f_Book_take f_Book_names f_Book_rows f_Book_ends f_Book_want f_Book_numbers_of f_Book_in_book:Addr}{od19 an19 elb elq eln elt elx eld:Option Addr}{sl19:Array (Option Value)}{oc19 kV19 dc19 pm19 cd19 ct19:Value}{tk2:Tok}{eBb eSb eBq eSq eBn eSn eBt eSt eBx eSx eBd eSd:List Value}{eIb eIq:String}{eab ezb eaq ezq ean ezn eat ezt eax ezx ead ezd:Str}{ehb egb ehq egq ehn egn eht egt ehx egx ehd egd:Bool}{efb efq efn eft efx efd:List Str}{ejb ejq ejn ejt ejx ejd:Option Bool}{e0b e1b e2b e3b e5b e0q e1q e2q e3q e5q e0n e1n e2n e3n e5n e0t e1t e2t e3t e5t e0x e1x e2x e3x e5x e0d e1d e2d e3d e5d:Option Value}
 (q1:FK K "all_places" s_all_places f1)
 (q2:FK K "end_of" s_end_of f2)
 (q3:FK K "order_of" s_order_of f3)
 (q4:FKC K "ends" s_ends f4 cc4 44)
 (q5:FK K "rows_of" s_rows_of f5)
 (q6:FK K "words_in" s_words_in f6)
 (q7:FK K "_law_cell_at" s_law_cell_at f7)
 (q8:FK K "_law_part" s_law_part f8)
 (q9:FK K "_law_alike" s_law_alike f9)
 (q10:FK K "_law_words" s_law_words f10)
 (q11:FK K "_law_names" s_law_names f11)
 (q12:FK K "_law_rows" s_law_rows f12)
 (q13:FK K "_law_text" s_law_text f13)
 (q14:FKC K "_law_sorted" s_law_sorted f14 cc14 285)
 (q15:FK K "_law_done" s_law_done f15)
 (q16:FK K "_law_refused" s_law_refused f16)
 (q17:FK K "_law_due" s_law_due f17)
 (q18:FK K "_law_stands" s_law_stands f18)
 (a19:PySem.W.nsIn K mainGlobals "law"=some (some (.ref f19)))
 (l19:K.lookup f19=some ⟨oc19,od19,.func (PySem.W.fnOf "law" "law" (defArgs s_law) (defBody s_law) (defScope s_law) .none kV19 dc19 pm19 an19 cd19 ct19),sl19⟩)
 (c19:PySem.W.codeIn K cd19 "law"=true)(k19:keepIn K (.ref f19)=true)
 (gA1:PySem.W.nsIn K mainGlobals "ends_ends"=some (some (.ref f4)))
 (g2:PySem.W.nsIn K mainGlobals "WORD_SIGNS"=some (some (.str "abcdefghijklmnopqrstuvwxyz0123456789" tk2)))
 (xgb:PySem.W.nsIn K mainGlobals "BesideError"=some (some (.ref eb)))
 (xgq:PySem.W.nsIn K mainGlobals "NoQuestion"=some (some (.ref eq)))
 (xgn:PySem.W.nsIn K mainGlobals "NoWay"=some (some (.ref en)))
 (xgt:PySem.W.nsIn K mainGlobals "Twice"=some (some (.ref et)))
 (xgx:PySem.W.nsIn K mainGlobals "NoText"=some (some (.ref ex)))
 (xgd:PySem.W.nsIn K mainGlobals "NoDeed"=some (some (.ref ed)))
 (xlb:K.lookup eb=some (excClassObj eab ezb eb eNb eBb valB ehb efb eSb egb ejb elb e0b e1b e2b e3b e5b eIb))
 (xlq:K.lookup eq=some (excClassObj eaq ezq eq eNq eBq (.ref eb::valB) ehq efq eSq egq ejq elq e0q e1q e2q e3q e5q eIq))
 (xln:K.lookup en=some (excClassObj ean ezn en eNn eBn (.ref eb::valB) ehn efn eSn egn ejn eln e0n e1n e2n e3n e5n "ValueError.__new__"))
 (xlt:K.lookup et=some (excClassObj eat ezt et eNt eBt (.ref eb::valB) eht eft eSt egt ejt elt e0t e1t e2t e3t e5t "ValueError.__new__"))
 (xlx:K.lookup ex=some (excClassObj eax ezx ex eNx eBx (.ref eb::valB) ehx efx eSx egx ejx elx e0x e1x e2x e3x e5x "ValueError.__new__"))
 (xld:K.lookup ed=some (excClassObj ead ezd ed eNd eBd (.ref eb::valB) ehd efd eSd egd ejd eld e0d e1d e2d e3d e5d "ValueError.__new__"))
 (hx1n:PySem.W.nsOkIn K eNn=true)(xin:PySem.W.nsIn K eNn "__init__"=some none)(hx2n:PySem.W.tailIn K valB (.ref eb::valB)=true)
 (hx1t:PySem.W.nsOkIn K eNt=true)(xit:PySem.W.nsIn K eNt "__init__"=some none)(hx2t:PySem.W.tailIn K valB (.ref eb::valB)=true)
 (hx1x:PySem.W.nsOkIn K eNx=true)(xix:PySem.W.nsIn K eNx "__init__"=some none)(hx2x:PySem.W.tailIn K valB (.ref eb::valB)=true)
 (hx1d:PySem.W.nsOkIn K eNd=true)(xid:PySem.W.nsIn K eNd "__init__"=some none)(hx2d:PySem.W.tailIn K valB (.ref eb::valB)=true)
 (hy1:[eq,en,et,ex,ed].all (excGB K)=true)(hy2:((kitTab eb eq en et ex ed).all fun p=>PySem.W.kitOne K (.ref p.1) (.ref p.2.1)==some p.2.2)=true)(hy3:([eq,en,et,ex,ed].all fun c=>PySem.W.kitOne K (.ref c) (.type "ValueError")==some true)=true)
 (aC_Book:PySem.W.nsIn K mainGlobals "Book"=some (some (.ref C_Book)))
 (m_Book___init:FKM K C_Book "__init__" "Book.__init__" s_Book___init f_Book___init)
 (m_Book_arrange:FKM K C_Book "arrange" "Book.arrange" s_Book_arrange f_Book_arrange)
 (m_Book_put:FKM K C_Book "put" "Book.put" s_Book_put f_Book_put)
 (m_Book_take:FKM K C_Book "take" "Book.take" s_Book_take f_Book_take)
 (m_Book_names:FKM K C_Book "names" "Book.names" s_Book_names f_Book_names)
 (m_Book_rows:FKM K C_Book "rows" "Book.rows" s_Book_rows f_Book_rows)
 (m_Book_ends:FKM K C_Book "ends" "Book.ends" s_Book_ends f_Book_ends)
 (m_Book_want:FKM K C_Book "want" "Book.want" s_Book_want f_Book_want)
 (m_Book_numbers_of:FKM K C_Book "numbers_of" "Book.numbers_of" s_Book_numbers_of f_Book_numbers_of)
 (m_Book_in_book:FKM K C_Book "in_book" "Book.in_book" s_Book_in_book f_Book_in_book)
 (pg_Book:PySem.W.plainGet K C_Book Str.empty=true)(pd_Book:PySem.W.hasDictIn K C_Book=true)(po_Book:PySem.W.plainOver K C_Book=true)(sa_Book:PySem.W.findIn K (.ref C_Book) "__setattr__"=some (some (.builtin "object.__setattr__")))(mk_Book:PySem.W.makesIn K C_Book=true)(kc_Book:keepIn K (.ref C_Book)=true)
 (n_Book_texts:PySem.W.findIn K (.ref C_Book) "texts"=some none)
 (n_Book_origins:PySem.W.findIn K (.ref C_Book) "origins"=some none)
 (n_Book_together:PySem.W.findIn K (.ref C_Book) "together"=some none)
 (n_Book_order:PySem.W.findIn K (.ref C_Book) "order"=some none)
 (z_ValueError:PySem.W.nsIn K mainGlobals "ValueError"=some none)
 (z_bool:PySem.W.nsIn K mainGlobals "bool"=some none)
 (z_enumerate:PySem.W.nsIn K mainGlobals "enumerate"=some none)
 (z_int:PySem.W.nsIn K mainGlobals "int"=some none)
 (z_isinstance:PySem.W.nsIn K mainGlobals "isinstance"=some none)
 (z_len:PySem.W.nsIn K mainGlobals "len"=some none)
 (z_list:PySem.W.nsIn K mainGlobals "list"=some none)
 (z_range:PySem.W.nsIn K mainGlobals "range"=some none)
 (z_sorted:PySem.W.nsIn K mainGlobals "sorted"=some none):
 ∃fd:FuncData,(∀(s:Shared) (v:Value),BindsTo s fd ⟨[v],[]⟩ [("_law_script",v)])/\ ∀base:Heap,K.In base->base.Ns mainGlobals mg->BmB mg base->FnOk l.prog w K mg base CX0 11 fa fd ["_law_script"] (spLaw K):=by
 have e:=hfa.symm.trans (mg_of X G a19)
 cases e
 have B:Blt mg:=⟨mg_none_of X G z_ValueError,mg_none_of X G z_bool,mg_none_of X G z_enumerate,mg_none_of X G z_int,mg_none_of X G z_isinstance,mg_none_of X G z_len,mg_none_of X G z_list,mg_none_of X G z_range,mg_none_of X G z_sorted,⟨_,mg_of X G g2⟩⟩
 have XE:=errs_mk (K:=K) (mg:=mg) (mg_of X G xgb) (mg_of X G xgq) (mg_of X G xgn) (mg_of X G xgt) (mg_of X G xgx) (mg_of X G xgd) (exo_mk xlb) (exo_mk xlq) (exc_mk xln hx1n xin hx2n) (exc_mk xlt hx1t xit hx2t) (exc_mk xlx hx1x xix hx2x) (exc_mk xld hx1d xid hx2d) hy1 hy2 hy3
 obtain⟨a1,_,F1⟩:=q1
 obtain⟨a2,_,F2⟩:=q2
 obtain⟨a3,_,F3⟩:=q3
 obtain⟨a4,⟨_,G4⟩,h4⟩:=q4
 obtain⟨a5,_,F5⟩:=q5
 obtain⟨a6,_,F6⟩:=q6
 obtain⟨a7,_,F7⟩:=q7
 obtain⟨a8,_,F8⟩:=q8
 obtain⟨a9,_,F9⟩:=q9
 obtain⟨a10,_,F10⟩:=q10
 obtain⟨a11,_,F11⟩:=q11
 obtain⟨a12,_,F12⟩:=q12
 obtain⟨a13,_,F13⟩:=q13
 obtain⟨a14,⟨_,G14⟩,h14⟩:=q14
 obtain⟨a15,_,F15⟩:=q15
 obtain⟨a16,_,F16⟩:=q16
 obtain⟨a17,_,F17⟩:=q17
 obtain⟨a18,_,F18⟩:=q18
 have T_Book:ClsOk K mg "Book" C_Book ["texts","origins","together","order"]:=⟨⟨pg_Book,pd_Book,po_Book,sa_Book⟩,fun f hf=>by simp only[mem_cons,not_mem_nil,or_false]at hf;rcases hf with rfl|rfl|rfl|rfl;exact n_Book_texts;exact n_Book_origins;exact n_Book_together;exact n_Book_order,mg_of X G aC_Book⟩
 obtain⟨M_Book___init,_,F_Book___init⟩:=m_Book___init
 have b_Book___init:=F_Book___init.binds (ps:=["self"]) fun _ _ _ _ _ _ us hl=>by obtain⟨u0,rfl⟩:=len1 hl;rfl
 have K_Book:Mk K C_Book f_Book___init:=⟨mk_Book,M_Book___init.at_,M_Book___init.fn,kc_Book⟩
 obtain⟨M_Book_arrange,_,F_Book_arrange⟩:=m_Book_arrange
 have b_Book_arrange:=F_Book_arrange.binds (ps:=["self"]) fun _ _ _ _ _ _ us hl=>by obtain⟨u0,rfl⟩:=len1 hl;rfl
 obtain⟨M_Book_put,_,F_Book_put⟩:=m_Book_put
 have b_Book_put:=F_Book_put.binds (ps:=["self","name","text"]) fun _ _ _ _ _ _ us hl=>by obtain⟨u0,u1,u2,rfl⟩:=len3 hl;rfl
 obtain⟨M_Book_take,_,F_Book_take⟩:=m_Book_take
 have b_Book_take:=F_Book_take.binds (ps:=["self","name"]) fun _ _ _ _ _ _ us hl=>by obtain⟨u0,u1,rfl⟩:=len2 hl;rfl
 obtain⟨M_Book_names,_,F_Book_names⟩:=m_Book_names
 have b_Book_names:=F_Book_names.binds (ps:=["self"]) fun _ _ _ _ _ _ us hl=>by obtain⟨u0,rfl⟩:=len1 hl;rfl
 obtain⟨M_Book_rows,_,F_Book_rows⟩:=m_Book_rows
 have b_Book_rows:=F_Book_rows.binds (ps:=["self","name"]) fun _ _ _ _ _ _ us hl=>by obtain⟨u0,u1,rfl⟩:=len2 hl;rfl
 obtain⟨M_Book_ends,_,F_Book_ends⟩:=m_Book_ends
 have b_Book_ends:=F_Book_ends.binds (ps:=["self"]) fun _ _ _ _ _ _ us hl=>by obtain⟨u0,rfl⟩:=len1 hl;rfl
 obtain⟨M_Book_want,_,F_Book_want⟩:=m_Book_want
 have b_Book_want:=F_Book_want.binds (ps:=["self","name"]) fun _ _ _ _ _ _ us hl=>by obtain⟨u0,u1,rfl⟩:=len2 hl;rfl
 obtain⟨M_Book_numbers_of,_,F_Book_numbers_of⟩:=m_Book_numbers_of
 have b_Book_numbers_of:=F_Book_numbers_of.binds (ps:=["self","name"]) fun _ _ _ _ _ _ us hl=>by obtain⟨u0,u1,rfl⟩:=len2 hl;rfl
 obtain⟨M_Book_in_book,_,F_Book_in_book⟩:=m_Book_in_book
 have b_Book_in_book:=F_Book_in_book.binds (ps:=["self","tuples"]) fun _ _ _ _ _ _ us hl=>by obtain⟨u0,u1,rfl⟩:=len2 hl;rfl
 have A_ends_ends:=mg_of X G gA1
 have b1:=F1.binds (ps:=["rows"]) fun _ _ _ _ _ _ us hl=>by obtain⟨u0,rfl⟩:=len1 hl;rfl
 have b2:=F2.binds (ps:=["rows","place"]) fun _ _ _ _ _ _ us hl=>by obtain⟨u0,u1,rfl⟩:=len2 hl;rfl
 have b3:=F3.binds (ps:=["rows","place"]) fun _ _ _ _ _ _ us hl=>by obtain⟨u0,u1,rfl⟩:=len2 hl;rfl
 have F4:=G4.fn
 have b4:=F4.binds (ps:=["rows"]) fun _ _ _ _ _ _ us hl=>by obtain⟨u0,rfl⟩:=len1 hl;rfl
 have b5:=F5.binds (ps:=["text"]) fun _ _ _ _ _ _ us hl=>by obtain⟨u0,rfl⟩:=len1 hl;rfl
 have b6:=F6.binds (ps:=["part"]) fun _ _ _ _ _ _ us hl=>by obtain⟨u0,rfl⟩:=len1 hl;rfl
 have b7:=F7.binds (ps:=["_law_script","_law_k"]) fun _ _ _ _ _ _ us hl=>by obtain⟨u0,u1,rfl⟩:=len2 hl;rfl
 have b8:=F8.binds (ps:=["_law_cell","_law_k","_law_many"]) fun _ _ _ _ _ _ us hl=>by obtain⟨u0,u1,u2,rfl⟩:=len3 hl;rfl
 have b9:=F9.binds (ps:=["_law_one","_law_other","_law_signs"]) fun _ _ _ _ _ _ us hl=>by obtain⟨u0,u1,u2,rfl⟩:=len3 hl;rfl
 have b10:=F10.binds (ps:=["_law_one","_law_other"]) fun _ _ _ _ _ _ us hl=>by obtain⟨u0,u1,rfl⟩:=len2 hl;rfl
 have b11:=F11.binds (ps:=["_law_one","_law_other"]) fun _ _ _ _ _ _ us hl=>by obtain⟨u0,u1,rfl⟩:=len2 hl;rfl
 have b12:=F12.binds (ps:=["_law_words_here","_law_cell","_law_many"]) fun _ _ _ _ _ _ us hl=>by obtain⟨u0,u1,u2,rfl⟩:=len3 hl;rfl
 have b13:=F13.binds (ps:=["_law_rows_here","_law_cell"]) fun _ _ _ _ _ _ us hl=>by obtain⟨u0,u1,rfl⟩:=len2 hl;rfl
 have F14:=G14.fn
 have b14:=F14.binds (ps:=["_law_texts"]) fun _ _ _ _ _ _ us hl=>by obtain⟨u0,rfl⟩:=len1 hl;rfl
 have b15:=F15.binds (ps:=["_law_book","_law_way","_law_name","_law_text_here"]) fun _ _ _ _ _ _ us hl=>by obtain⟨u0,u1,u2,u3,rfl⟩:=len4 hl;rfl
 have b16:=F16.binds (ps:=["_law_book","_law_way","_law_name","_law_text_here"]) fun _ _ _ _ _ _ us hl=>by obtain⟨u0,u1,u2,u3,rfl⟩:=len4 hl;rfl
 have b17:=F17.binds (ps:=["_law_way"]) fun _ _ _ _ _ _ us hl=>by obtain⟨u0,rfl⟩:=len1 hl;rfl
 have b18:=F18.binds (ps:=["_law_book","_law_texts"]) fun _ _ _ _ _ _ us hl=>by obtain⟨u0,u1,rfl⟩:=len2 hl;rfl
 have F19:=fun_mk (st:=s_law) l19 c19 k19
 refine⟨PySem.W.fnOf "law" "law" (defArgs s_law) (defBody s_law) (defScope s_law) .none kV19 dc19 pm19 an19 cd19 ct19,fun s v=>.of_eq rfl,fun base _ _ bm=>?_⟩
 have D1:=ok_all_places (P:=l.prog) (w:=w) (base:=base) F1 (mg_of X G a1) b1 B
 have D2:=ok_end_of (P:=l.prog) (w:=w) (base:=base) F2 (mg_of X G a2) b2 B
 have D3:=ok_order_of (P:=l.prog) (w:=w) (base:=base) F3 (mg_of X G a3) b3 B D2
 have L4:LamK K mg base cc4 44 "ends.<locals>.<lambda>":=⟨h4,by decide,by decide,bm,by decide⟩
 have D4:=ok_ends (P:=l.prog) (w:=w) (base:=base) G4 L4 (mg_of X G a4) b4 B D1 D3
 have D6:=ok_words_in (P:=l.prog) (w:=w) (base:=base) F6 (mg_of X G a6) b6 B
 have D5:=ok_rows_of (P:=l.prog) (w:=w) (base:=base) F5 (mg_of X G a5) b5 B D6
 have D7:=ok_law_cell_at (P:=l.prog) (w:=w) (base:=base) F7 (mg_of X G a7) b7 B
 have D8:=ok_law_part (P:=l.prog) (w:=w) (base:=base) F8 (mg_of X G a8) b8 B
 have D9:=ok_law_alike (P:=l.prog) (w:=w) (base:=base) F9 (mg_of X G a9) b9 B D8
 have D10:=ok_law_words (P:=l.prog) (w:=w) (base:=base) F10 (mg_of X G a10) b10 B D9
 have D11:=ok_law_names (P:=l.prog) (w:=w) (base:=base) F11 (mg_of X G a11) b11 B D9
 have D12:=ok_law_rows (P:=l.prog) (w:=w) (base:=base) F12 (mg_of X G a12) b12 B
 have D13:=ok_law_text (P:=l.prog) (w:=w) (base:=base) F13 (mg_of X G a13) b13 B
 have L14:LamK K mg base cc14 285 "_law_sorted.<locals>.<lambda>":=⟨h14,by decide,by decide,bm,by decide⟩
 have D14:=ok_law_sorted (P:=l.prog) (w:=w) (base:=base) G14 L14 (mg_of X G a14) b14 B
 have D_Book_names:=ok_Book_names (P:=l.prog) (w:=w) (base:=base) F_Book_names M_Book_names b_Book_names B T_Book
 have D_Book_arrange:=ok_Book_arrange (P:=l.prog) (w:=w) (base:=base) F_Book_arrange M_Book_arrange b_Book_arrange B T_Book D_Book_names (Def.alias D4 A_ends_ends (mg_of X G a4))
 have D_Book_in_book:=ok_Book_in_book (P:=l.prog) (w:=w) (base:=base) F_Book_in_book M_Book_in_book b_Book_in_book B T_Book
 have D_Book_ends:=ok_Book_ends (P:=l.prog) (w:=w) (base:=base) F_Book_ends M_Book_ends b_Book_ends B T_Book D_Book_in_book
 have D_Book_numbers_of:=ok_Book_numbers_of (P:=l.prog) (w:=w) (base:=base) F_Book_numbers_of M_Book_numbers_of b_Book_numbers_of B T_Book D_Book_ends
 have D_Book_put:=ok_Book_put (P:=l.prog) (w:=w) (base:=base) F_Book_put M_Book_put b_Book_put B T_Book D5 D_Book_arrange D_Book_numbers_of
 have D_Book_want:=ok_Book_want (P:=l.prog) (w:=w) (base:=base) F_Book_want M_Book_want b_Book_want B T_Book
 have D_Book_take:=ok_Book_take (P:=l.prog) (w:=w) (base:=base) F_Book_take M_Book_take b_Book_take B T_Book D_Book_want D_Book_numbers_of D_Book_arrange
 have D_Book_rows:=ok_Book_rows (P:=l.prog) (w:=w) (base:=base) F_Book_rows M_Book_rows b_Book_rows B T_Book D_Book_want
 have D15:=ok_law_done (P:=l.prog) (w:=w) (base:=base) F15 (mg_of X G a15) b15 F_Book_want M_Book_want b_Book_want F_Book_put M_Book_put b_Book_put F_Book_take M_Book_take b_Book_take F_Book_rows M_Book_rows b_Book_rows B T_Book XE D_Book_put D_Book_take D_Book_rows
 have D16:=ok_law_refused (P:=l.prog) (w:=w) (base:=base) F16 (mg_of X G a16) b16 B D15 XE
 have D17:=ok_law_due (P:=l.prog) (w:=w) (base:=base) F17 (mg_of X G a17) b17 B
 have D18:=ok_law_stands (P:=l.prog) (w:=w) (base:=base) F18 (mg_of X G a18) b18 B T_Book D14 D_Book_names D_Book_ends D_Book_rows
 have D_Book___init:=ok_Book___init (P:=l.prog) (w:=w) (base:=base) F_Book___init M_Book___init b_Book___init B T_Book D_Book_arrange
 exact law_of (ok_law F19 B D7 D8 D10 D11 D12 D13 D16 D17 D18 T_Book K_Book D_Book___init b_Book___init)
end Z
namespace PySem.W.Fast
def tw4503089657653819973:=0
def tw13913997792254029974:=0
def tw12909239698893505839:=0
def tw15952250529592799174:=0
def tw17489279949181196603:=0
def tw9910048915899841008:=0
def tw4183064016587173716:=0
def tw14058308446046896830:=0
def tw15205664398270777936:=0
def tw18425322435809008522:=0
def tw5426928939209868887:=0
def tw271819042557801580:=0
def tw16456174889562890045:=0
def tw5840252917148280281:=0
def tw18285440775763123415:=0
def tw158642444508874213:=0
def tw14121217901287823934:=0
def tw17679122198172037730:=0
def tw10786683378684189634:=0
def tw708164136389790411:=0
def tw16048600427663402608:=0
def tw1084177042968731339:=0
def tw10457298645895272949:=0
def tw15088653498752842715:=0
def tw3379386128441507030:=0
def tw12771321205918968099:=0
def tw8782084516278398789:=0
def tw17139753447459380117:=0
def tw16245923631334941546:=0
def tw16769325120447537032:=0
def tw2894507062392196758:=0
def tw6567506410224315978:=0
def tw18291918179288239472:=0
def tw6145319171750641047:=0
def tw3846033275957623800:=0
def tw14485651182167314607:=0
def tw2702022420283134964:=0
def tw12065407679333686807:=0
def tw1114585585279409306:=0
def tw6192997326704064370:=0
def tw8136311691611466425:=0
def tw14816428833460264290:=0
def tw8163875930405471810:=0
def tw2360662156426331422:=0
def tw15237677128540550552:=0
def tw16827921784925926563:=0
def tw6196937424743487325:=0
def tw4095202270570131229:=0
def tw16919367664767812960:=0
def tw14273013434509777094:=0
def tw15762789900904783021:=0
def tw12081543077205067593:=0
def tw14200996271776108258:=0
def tw13287549133008775450:=0
def tw12362441429076180927:=0
def tw17822269343469290340:=0
def tw1083990134801333584:=0
def tw15606202081389981482:=0
def tw1582260735633988230:=0
def tw17207569869448350973:=0
def tw6713463175914686734:=0
def tw11386542235627490923:=0
def tw15279751072812350426:=0
def tw4730199826146419915:=0
def tw17255905111180356722:=0
def tw277812801296703345:=0
def tw14414126670077334361:=0
def tw14753012722409609351:=0
def tw8731102771103993650:=0
def tw10445622208345572651:=0
def tw16497484853144382969:=0
def tw16385284207573710786:=0
def tw17032841393846654184:=0
def tw12067623867763599251:=0
def tw1101694209870270566:=0
def tw9931461663807670287:=0
def tw14546490389920710345:=0
def tw17117042190729554218:=0
def tw5972108028203018922:=0
def tw2327293183866085398:=0
def tw13584708305691444882:=0
def tw5377324299790093301:=0
def tw11313225599141280549:=0
def tw6567983788370355904:=0
def tw8926078381106669848:=0
def tw1587000144120820523:=0
def tw2580388422645263676:=0
def tw5869824224278993707:=0
def tw10128366132920339395:=0
def tw15620959046679641129:=0
def tw13754009761551881226:=0
def tw5607102433520415115:=0
def tw17730531246252128110:=0
def tw7938592170078664071:=0
def tw17094073592521878982:=0
def tw7560392100482764848:=0
def tw12318409980925056759:=0
def tw3272770459761627615:=0
def tw15286428512183241176:=0
def tw4239833695656284500:=0
def tw11628167374078100967:=0
def tw240066728353228816:=0
def tw4967098241064848195:=0
def tw11615205279583008344:=0
def tw14573804577080221370:=0
def tw15883643807353775551:=0
def tw2104880364836939661:=0
def tw4057242550095016305:=0
def tw1573304331573949779:=0
def tw7943571299628119465:=0
def tw2841977821171536919:=0
def tw7817464395630652820:=0
def tw9651165965223469694:=0
def tw10236666110383742844:=0
def tw6954315780444202848:=0
def tw6307842159473114963:=0
def tw16742336188502954699:=0
def tw1529655095710430121:=0
def tw9680874493061920331:=0
def tw17590901387761133990:=0
def tw5316544207200176194:=0
def tw14429036213259215146:=0
def tw5932866943931905661:=0
def tw2549233101727145729:=0
def tw1281400331096634918:=0
def tw16456973634706345166:=0
def tw13785631344862009304:=0
def tw16155210399652981256:=0
def tw7118719947354858974:=0
def tw13865408016259991283:=0
def tw12531441429337007004:=0
def tw1686723027540775069:=0
def tw15235560787523345946:=0
def tw12086198366037031245:=0
def tw18293622513992092494:=0
def tw14659401352563431316:=0
def tw16916793562552291064:=0
def tw17502068045051028747:=0
def tw13342634830914057425:=0
def tw1965735154658582906:=0
def tw15858270874174747645:=0
def tw5825311971500078921:=0
def tw3790348482683187437:=0
def tw10945987645812871636:=0
def tw9306773547984566261:=0
def tw14738290781981045244:=0
def tw4379508360753228555:=0
def tw17089228474483804714:=0
def tw576184566045854258:=0
end PySem.W.Fast
open PySem PySem.W PyProof.Rows
set_option maxRecDepth 100000 in
set_option maxHeartbeats 0 in
theorem PySem.Challenge.cw_besidewords_k62_twice_and_no_text_holds : PySem.Challenge.rw_besidewords_k62_twice_and_no_text.Holds := by
 w_on;o_law;k_head;(case hw=>w_witness2)
 k_fill
 refine Y.walkT (l:=PySem.Challenge.rw_besidewords_k62_twice_and_no_text) (k:=11) (x:="_law_script") rfl rfl ⟨rfl,by decide,by decide⟩ (fun w h Y=>km_in_of Y) ?T ?F
 case T=>
  intro w h Yk q hq
  rcases(by simpa[Y.Tabs.T]using hq:q=((44:Addr),("ends.<locals>.<lambda>":Str))\/q=((285:Addr),("_law_sorted.<locals>.<lambda>":Str)))with rfl|rfl
  . refine Y.tabs_ok (c:=48) Yk ?x1 ?x2 ?x3
    (case x1=>simp)
    (case x2=>kernel_rfl)
    (case x3=>kernel_rfl)
  . refine Y.tabs_ok (c:=289) Yk ?x1 ?x2 ?x3
    (case x1=>simp)
    (case x2=>kernel_rfl)
    (case x3=>kernel_rfl)
 case F=>
  intro w mg fa h KX G hmg
  refine' Z.all_mk KX G hmg (Z.fk ?a1 ?l1 ?c1 ?k1) (Z.fk ?a2 ?l2 ?c2 ?k2) (Z.fk ?a3 ?l3 ?c3 ?k3) (Z.fkc ?a4 ?l4 ?c4 ?k4 ?h4) (Z.fk ?a5 ?l5 ?c5 ?k5) (Z.fk ?a6 ?l6 ?c6 ?k6) (Z.fk ?a7 ?l7 ?c7 ?k7) (Z.fk ?a8 ?l8 ?c8 ?k8) (Z.fk ?a9 ?l9 ?c9 ?k9) (Z.fk ?a10 ?l10 ?c10 ?k10) (Z.fk ?a11 ?l11 ?c11 ?k11) (Z.fk ?a12 ?l12 ?c12 ?k12) (Z.fk ?a13 ?l13 ?c13 ?k13) (Z.fkc ?a14 ?l14 ?c14 ?k14 ?h14) (Z.fk ?a15 ?l15 ?c15 ?k15) (Z.fk ?a16 ?l16 ?c16 ?k16) (Z.fk ?a17 ?l17 ?c17 ?k17) (Z.fk ?a18 ?l18 ?c18 ?k18) ?a19 ?l19 ?c19 ?k19 ?gA1 ?g2 ?xgb ?xgq ?xgn ?xgt ?xgx ?xgd ?xlb ?xlq ?xln ?xlt ?xlx ?xld ?hx1n ?xin ?hx2n ?hx1t ?xit ?hx2t ?hx1x ?xix ?hx2x ?hx1d ?xid ?hx2d ?hy1 ?hy2 ?hy3 ?aC_Book (Z.fkm ?xa_Book___init ?xi_Book___init ?xl_Book___init ?xc_Book___init ?xk_Book___init) (Z.fkm ?xa_Book_arrange ?xi_Book_arrange ?xl_Book_arrange ?xc_Book_arrange ?xk_Book_arrange) (Z.fkm ?xa_Book_put ?xi_Book_put ?xl_Book_put ?xc_Book_put ?xk_Book_put) (Z.fkm ?xa_Book_take ?xi_Book_take ?xl_Book_take ?xc_Book_take ?xk_Book_take) (Z.fkm ?xa_Book_names ?xi_Book_names ?xl_Book_names ?xc_Book_names ?xk_Book_names) (Z.fkm ?xa_Book_rows ?xi_Book_rows ?xl_Book_rows ?xc_Book_rows ?xk_Book_rows) (Z.fkm ?xa_Book_ends ?xi_Book_ends ?xl_Book_ends ?xc_Book_ends ?xk_Book_ends) (Z.fkm ?xa_Book_want ?xi_Book_want ?xl_Book_want ?xc_Book_want ?xk_Book_want) (Z.fkm ?xa_Book_numbers_of ?xi_Book_numbers_of ?xl_Book_numbers_of ?xc_Book_numbers_of ?xk_Book_numbers_of) (Z.fkm ?xa_Book_in_book ?xi_Book_in_book ?xl_Book_in_book ?xc_Book_in_book ?xk_Book_in_book) ?pg_Book ?pd_Book ?po_Book ?sa_Book ?mk_Book ?kc_Book ?n_Book_texts ?n_Book_origins ?n_Book_together ?n_Book_order ?z_ValueError ?z_bool ?z_enumerate ?z_int ?z_isinstance ?z_len ?z_list ?z_range ?z_sorted
  (case a1|l1|c1|k1|a2|l2|c2|k2|a3|l3|c3|k3|a4|l4|c4|k4|a5|l5|c5|k5|a6|l6|c6|k6|a7|l7|c7|k7|a8|l8|c8|k8|a9|l9|c9|k9|a10|l10|c10|k10|a11|l11|c11|k11|a12|l12|c12|k12|a13|l13|c13|k13|a14|l14|c14|k14|a15|l15|c15|k15|a16|l16|c16|k16|a17|l17|c17|k17|a18|l18|c18|k18|a19|l19|c19|k19|gA1|g2|xgb|xgq|xgn|xgt|xgx|xgd|xlb|xlq|xln|xlt|xlx|xld|xin|xit|xix|xid|aC_Book|xa_Book___init|xi_Book___init|xl_Book___init|xc_Book___init|xk_Book___init|xa_Book_arrange|xi_Book_arrange|xl_Book_arrange|xc_Book_arrange|xk_Book_arrange|xa_Book_put|xi_Book_put|xl_Book_put|xc_Book_put|xk_Book_put|xa_Book_take|xi_Book_take|xl_Book_take|xc_Book_take|xk_Book_take|xa_Book_names|xi_Book_names|xl_Book_names|xc_Book_names|xk_Book_names|xa_Book_rows|xi_Book_rows|xl_Book_rows|xc_Book_rows|xk_Book_rows|xa_Book_ends|xi_Book_ends|xl_Book_ends|xc_Book_ends|xk_Book_ends|xa_Book_want|xi_Book_want|xl_Book_want|xc_Book_want|xk_Book_want|xa_Book_numbers_of|xi_Book_numbers_of|xl_Book_numbers_of|xc_Book_numbers_of|xk_Book_numbers_of|xa_Book_in_book|xi_Book_in_book|xl_Book_in_book|xc_Book_in_book|xk_Book_in_book|pg_Book|pd_Book|po_Book|sa_Book|mk_Book|kc_Book|n_Book_texts|n_Book_origins|n_Book_together|n_Book_order|z_ValueError|z_bool|z_enumerate|z_int|z_isinstance|z_len|z_list|z_range|z_sorted=>k_is)
  (case h4|h14|hx1n|hx2n|hx1t|hx2t|hx1x|hx2x|hx1d|hx2d|hy1|hy2|hy3=>kernel_rfl)
